import Derived.Test.YtkmojpfpfoaloaaGreatDoorCNe19
import Derived.Test.YtkmojpfpfoaloaaGreatDoorCNe18
import Derived.Deep.RegionHeld3
import Derived.Deep.RegionWith
set_option linter.all false
set_option maxRecDepth 100000
set_option maxHeartbeats 2000000
namespace Go.Proofs.YtkmojpfpfoaloaaGreatDoor
open Go.Proofs.Tryz
open Go.RowKit
theorem aKG (a b:Int)(w:World)(z:0<a)(l:a<=b)(A:b<=1073741824):Calls prog 24 #[sv a b true] w (bE w):=by
 have F:=aC (fun w=>Nc 1099511627776 b w (by omega) (by omega) (by omega) (by omega));have G:=aC (fun w=>Sq 1099511627776 a w (by omega) (by omega) (by omega) (by omega));have O:=aC (fun x y w=>vA x y w);have j:=aC (aU2 z l)
 go_enter func24,ntmps24
 go_wp2_with fail
 go_region_held3 (fun u=>u.cell? ⟨w.heap.size,0,none⟩=some (.int .i64 a)/\u.cell? ⟨w.heap.size,1,none⟩=some (.int .i64 b)) (go_keep)
  (first|(go_at_call 21;refine(F.out _).mono ?_;rintro e E⟨rfl,rfl⟩)|(go_at_call 22;refine(G.out _).mono ?_;rintro e E⟨rfl,rfl⟩)|(go_at_call 20;refine((O.out _ _ _).mono (fun _ _ h=>cM.sp j.out h)).mono ?_;rintro e S⟨p,q,r,rfl,g,s⟩;have d:=qX s;have P:=(d.cell (p:=⟨w.heap.size,0,none⟩) (by simp<;>omega)).trans (bK (rS (jC _ _)) rfl);have R:=(d.cell (p:=⟨w.heap.size,1,none⟩) (by simp<;>omega)).trans (bK (rS (jC _ _)) rfl);have f:=(d.block _ (by simp<;>omega)).trans (zC (n:=w.heap.size+1) (by simp));have L:=bK (o:=0) f rfl;have M:=bK (o:=1) f rfl;have N:=bK (o:=2) f rfl;have H:=nD (o:=0) f;have I:=nD (o:=1) f;have J:=nD (o:=2) f;have Q:=aC (oM f p q r);have k:=aC g;have i:=aC (Mk (Below.trans (((Below.refl _ _).alloc (Nat.le_refl _) _).alloc (by simp) _) (d.mono (by simp<;>omega))) (show w.heap.size<=w.heap.size+1 by omega) p q r);clear f s d g))
 all_goals
  go_wp2_with fail
  obtain⟨B,C,D⟩:=Q.out;refine bodyPost_ret (v:=sv p q r) (by simp[results,results24,go_sem,B,C,D]) rfl ?_;exact⟨p,q,r,rfl,k.out,i.out⟩
theorem aPK (a b:Int)(k:Bool)(w:World)(h:SpOk a b):Calls prog 24 #[sv a b k] w (bE w):=by
 have P:=h.lo;have H:=h.le;have I:=h.hi;cases k
 ·exact aSA a b w
 by_cases p1:0<a
 ·exact aKG a b w p1 H I
 by_cases R:0<=b
 ·have N:=aC (fun w=>Bx w);clear h
  go_enter func24,ntmps24
  go_wp2_with fail
  refine lE (tH 1 w) Ll ?_;rintro W⟨f,d⟩;refine(N.out _).mono ?_;rintro e O⟨rfl,n⟩;obtain⟨J,L,M,D,E,F,Q,i⟩:=iU f d n (by omega) 0 0 false;clear n f d
  go_wp2_with fail
  obtain⟨r,s,u⟩:=Q.out;refine bodyPost_ret (v:=sv 0 0 false) (by simp[results,results24,go_sem,r,s,u]) rfl ?_;exact⟨0,0,false,rfl,SpOk.zero,i.out⟩
 have B:=aC (fun w=>Nz a b true w h);have C:=aC (fun w=>aKG (-b) (-a) w (by omega) (by omega) (by omega));have A:=aC (fun x y z w h=>Nz x y z w h);clear h
 go_enter func24,ntmps24
 go_wp2_with fail
 refine lE (tH 1 w) Ll ?_;rintro W⟨f,d⟩;refine(B.out _).mono ?_;rintro e S⟨rfl,j⟩
 go_wp2_with fail
 refine(C.out _).mono ?_;rintro e T⟨x,y,z,rfl,g,l⟩
 go_wp2_with fail
 refine(A.out _ _ _ _ g).mono ?_;rintro e O⟨rfl,o⟩;have n:=j.trans ((l.trans (o.mono l.size)).mono j.size);have p:=g.neg;clear g j o l;have q:=aC p;clear p;obtain⟨J,L,M,D,E,F,Q,i⟩:=iU f d n (by omega) (-y) (-x) z;clear n f d
 go_wp2_with fail
 obtain⟨r,s,u⟩:=Q.out;refine bodyPost_ret (v:=sv (-y) (-x) z) (by simp[results,results24,go_sem,r,s,u]) rfl ?_;exact⟨_,_,_,rfl,q.out,i.out⟩
variable {x y:Int}
theorem aSn {M:Int}(f:-M<=x/\x<=M)(g:-M<=y/\y<=M):-(M*M)<=x*y/\x*y<=M*M:=by
 have a:x.natAbs<=M.natAbs:=by omega
 have b:y.natAbs<=M.natAbs:=by omega
 have d:(x*y).natAbs<=(M*M).natAbs:=by rw[Int.natAbs_mul,Int.natAbs_mul];exact Nat.mul_le_mul a b
 have e:0<=M*M:=Int.mul_nonneg (by omega) (by omega);omega
theorem Vl (a:-1073741824<=x/\x<=1073741824)(b:-1073741824<=y/\y<=1073741824):-1152921504606846976<=x*y/\x*y<=1152921504606846976:=by
 have:=aSn (M:=1073741824) a b;omega
def MP (a b c d x:Int):Prop:=x=a*c\/x=a*d\/x=b*c\/x=b*d
theorem Fq {a b c d x C v:Int}(f:MP a b c d C)(e:MP a b c d x)(h:v=C\/v=x):MP a b c d v:=by
 rcases h with rfl|rfl
 ·exact f
 ·exact e
def qB (a b c d:Int)(w:World)(e:Ending)(f:World):Prop:=∃x y,x<=y/\MP a b c d x/\MP a b c d y/\cM (x/1048576) (-((-y)/1048576)) w e f
def Jc (a b c d:Int)(lo hi i:Value):Prop:=∃(k:Nat) (x y:Int),k<=4/\i=.int .i64 k/\lo=.int .i64 x/\hi=.int .i64 y/\x<=y/\MP a b c d x/\MP a b c d y
theorem MP.bd {a b c d:Int}(h:SpOk a b)(e:SpOk c d)(f:MP a b c d x):-1152921504606846976<=x/\x<=1152921504606846976:=by
 have g:=h.lo;have i:=h.le;have j:=h.hi;have k:=e.lo;have l:=e.le;have n:=e.hi
 rcases f with rfl|rfl|rfl|rfl
 ·exact Vl (by omega) (by omega)
 ·exact Vl (by omega) (by omega)
 ·exact Vl (by omega) (by omega)
 ·exact Vl (by omega) (by omega)
theorem aIj (a b c d:Int)(w:World)(h:SpOk a b)(D:SpOk c d):Calls prog 26 #[sv a b true,sv c d true] w (qB a b c d w):=by
 have f:=aC (fun x=>MP.bd (x:=x) h D);obtain⟨m1,m2⟩:=f.out (a*c) (Or.inl rfl);obtain⟨m3,m4⟩:=f.out (a*d) (Or.inr (Or.inl rfl));obtain⟨m5,m6⟩:=f.out (b*c) (Or.inr (Or.inr (Or.inl rfl)));obtain⟨m7,m8⟩:=f.out (b*d) (Or.inr (Or.inr (Or.inr rfl)));have F:=aC (fun x w s u=>Nc x 1048576 w s u (by decide) (by decide));have G:=aC (fun x w s u=>Sq x 1048576 w s u (by decide) (by decide));have O:=aC (fun x y w=>vA x y w);clear h D
 go_enter func26,ntmps26
 go_wp2_with fail
 go_loop [6,7,48] (fun lo hi i=>Jc a b c d lo hi i) (fun _ _ i=>4-(intOf i).toNat)
 case atStart=>exact⟨0,a*c,a*c,by omega,rfl,rfl,rfl,Int.le_refl _,Or.inl rfl,Or.inl rfl⟩
 case round=>
  obtain⟨k,x,y,hk,rfl,rfl,rfl,B,A,C⟩:=hrel;have l:=aC A;have n:=aC C;obtain⟨L,M⟩:=f.out x A;obtain⟨N,P⟩:=f.out y C;clear A C
  by_cases R:k<4
  ·have z:k=0\/k=1\/k=2\/k=3:=by omega
   rcases z with rfl|rfl|rfl|rfl
   all_goals
    go_wp2_with fail
   ·exact⟨⟨1,_,_,by omega,rfl,rfl,rfl,by omega,Fq (Or.inl rfl) l.out (by omega),Fq (Or.inl rfl) n.out (by omega)⟩,by simp[intOf]⟩
   ·exact⟨⟨2,_,_,by omega,rfl,rfl,rfl,by omega,Fq (Or.inr (Or.inl rfl)) l.out (by omega),Fq (Or.inr (Or.inl rfl)) n.out (by omega)⟩,by simp[intOf]⟩
   ·exact⟨⟨3,_,_,by omega,rfl,rfl,rfl,by omega,Fq (Or.inr (Or.inr (Or.inl rfl))) l.out (by omega),Fq (Or.inr (Or.inr (Or.inl rfl))) n.out (by omega)⟩,by simp[intOf]⟩
   ·exact⟨⟨4,_,_,by omega,rfl,rfl,rfl,by omega,Fq (Or.inr (Or.inr (Or.inr rfl))) l.out (by omega),Fq (Or.inr (Or.inr (Or.inr rfl))) n.out (by omega)⟩,by simp[intOf]⟩
  ·obtain rfl:k=4:=by omega
   go_wp2_with fail
   refine lE (fun W=>Below w.heap.size w W/\W.heap[w.heap.size+2]?=some (cK 0 0 false)) ⟨((((Below.refl _ _).alloc (Nat.le_refl _) _).alloc (by simp) _).alloc (by simp;omega) _).alloc (by simp;omega) _,(rS (zC (by simp)))⟩ ?_;rintro W⟨p,o⟩;refine(F.out x _ (by omega) (by omega)).mono ?_;rintro e X⟨rfl,rfl⟩
   go_wp2_with fail
   refine(G.out y _ (by omega) (by omega)).mono ?_;rintro e X⟨rfl,rfl⟩
   go_wp2_with fail
   refine(O.out _ _ _).mono ?_;rintro e w2⟨rfl,E⟩;generalize H:x/1048576=g at*;generalize q:-((-y)/1048576)=j at*;have I:=aC H;have J:=aC q;clear H q;obtain⟨r0,r1,r2,Y,g1,g2,Q,r⟩:=iU p o E (by omega) (ofS g j).1 (ofS g j).2.1 (ofS g j).2.2;clear E p o
   go_wp2_with fail
   obtain⟨S,T,U⟩:=Q.out;refine bodyPost_ret (v:=sv (ofS g j).1 (ofS g j).2.1 (ofS g j).2.2) (by simp[results,results26,go_sem,S,T,U]) rfl ?_;exact⟨x,y,B,l.out,n.out,by rw[I.out,J.out],r.out⟩
theorem qB.sp {a b c d:Int}{n:World}{e:Ending}{g:World}(k:qB a b c d n e g):bE n e g:=by
 obtain⟨x,y,f,_,_,h⟩:=k;exact cM.sp (Gy (by decide) f) h
theorem aJw (a b:Int)(k:Bool)(c d:Int)(m:Bool)(w:World)(h:SpOk a b)(l:SpOk c d):Calls prog 26 #[sv a b k,sv c d m] w (bE w):=by
 have N:=aC (fun w=>Bx w);cases k
 ·clear h l
  go_enter func26,ntmps26
  go_wp2_with fail
  refine lE (tH 2 w) Ge ?_;rintro W⟨g,f⟩;refine(N.out _).mono ?_;rintro e z⟨rfl,j⟩;obtain⟨u,x,y,q,r,s,Q,i⟩:=iU g f j (by omega) 0 0 false;clear j g f
  go_wp2_with fail
  obtain⟨n,o,p⟩:=Q.out;refine bodyPost_ret (v:=sv 0 0 false) (by simp[results,results26,go_sem,n,o,p]) rfl ?_;exact⟨0,0,false,rfl,SpOk.zero,i.out⟩
 cases m
 ·clear h l
  go_enter func26,ntmps26
  go_wp2_with fail
  refine lE (tH 2 w) Ge ?_;rintro W⟨g,f⟩;refine(N.out _).mono ?_;rintro e z⟨rfl,j⟩;obtain⟨u,x,y,q,r,s,Q,i⟩:=iU g f j (by omega) 0 0 false;clear j g f
  go_wp2_with fail
  obtain⟨n,o,p⟩:=Q.out;refine bodyPost_ret (v:=sv 0 0 false) (by simp[results,results26,go_sem,n,o,p]) rfl ?_;exact⟨0,0,false,rfl,SpOk.zero,i.out⟩
 exact(aIj a b c d w h l).mono (fun _ _ h=>h.sp)
def Fz (j:Nat):Int:=if j=0 then 0 else 2^(j-1)
def Ef (n:Int)(r b:Value):Prop:=∃(j:Nat) (x c m:Int),j<=31/\c=Fz j/\m=2^j/\r=.int .i64 x/\b=.int .i64 c/\0<=x/\x+m<=2147483648/\x*x<=n/\n<(x+m)*(x+m)
def nK (n:Int)(w:World)(e:Ending)(a:World):Prop:=∃r:Int,e=.returned (.int .i64 r)/\0<=r/\r<=2147483647/\r*r<=n/\n<(r+1)*(r+1)/\w=a
theorem aWL (a:0<=x)(b:x<=2147483648):0<=x*x/\x*x<=4611686018427387904:=by
 refine⟨Int.mul_nonneg a a,?_⟩;have:=Int.mul_le_mul b b a (by omega);omega
theorem aKm {c:Int}{i:Nat}(h:c=2^i):c/2=Fz i:=by
 subst h
 cases i with
 |zero=>rfl
 |succ i=>
  show(2:Int)^(i+1)/2=2^i;rw[Int.pow_succ];omega
theorem aKO (n:Int)(w:World)(A:0<=n)(B:n<=1125899906842624):Calls prog 38 #[.int .i64 n] w (nK n w):=by
 go_enter func38,ntmps38
 go_wp2_with fail
 go_loop [3,4] (fun r b=>Ef n r b) (fun _ b=>(intOf b).toNat)
 case atStart=>exact⟨31,0,1073741824,2147483648,by omega,by decide,by decide,rfl,rfl,by decide,by decide,by omega,by omega⟩
 case round=>
  obtain⟨j,x,c,m,C,hc,h,rfl,rfl,o,y,d,f⟩:=hrel
  cases j with
  |zero=>
   have c0:c=0:=hc;have z:m=1:=h;subst c0;subst z;have k:=aC d;have l:=aC f;clear d f hc h
   go_wp2_with fail
   go_ret
   exact⟨x,rfl,o,by omega,k.out,l.out,rfl⟩
  |succ i=>
   have a:c=2^i:=hc
   have g:m=2*c:=by rw[h,a,Int.pow_succ];omega
   have u:1<=c:=by rw[a];exact Int.pow_pos (by decide)
   have p:x+c<=2147483648:=by omega
   obtain⟨D,E⟩:=aWL (x:=x+c) (by omega) p;have k:=aC d;have l:=aC f;have HC:=aC a;have q:=aC g;clear d f hc h a g
   by_cases v:(x+c)*(x+c)<=n
   ·go_wp2_with fail
    have e:=HC.out;have s:=q.out;refine⟨⟨i,x+c,c/2,c,by omega,aKm e,e,rfl,rfl,by omega,by omega,v,?_⟩,by simp[intOf];omega⟩;have:=l.out;rw[s,show x+2*c=x+c+c by omega]at this;exact this
   ·go_wp2_with fail
    have e:=HC.out;refine⟨⟨i,x,c/2,c,by omega,aKm e,e,rfl,rfl,by omega,by omega,k.out,by omega⟩,by simp[intOf];omega⟩
theorem aOj {a b r s:Int}(d:a<=b)(e:0<=r)(i:0<=s)(f:r*r<=a)(g:b<(s+1)*(s+1)):r<=s+1:=by
 rcases Int.lt_or_le (s+1) r with h|h
 ·exfalso;have:=Int.mul_le_mul (Int.le_of_lt h) (Int.le_of_lt h) (by omega) e;omega
 ·exact h
theorem aP5 (a b:Int)(k:Bool)(w:World)(h:SpOk a b):Calls prog 27 #[sv a b k] w (bE w):=by
 have h1:=h.lo;have h2:=h.le;have h3:=h.hi;have N:=aC (fun w=>Bx w);clear h;cases k
 ·skip
  go_enter func27,ntmps27
  go_wp2_with fail
  refine lE (tH 1 w) Ll ?_;rintro W⟨g,f⟩;refine(N.out _).mono ?_;rintro e T⟨rfl,l⟩;obtain⟨M,E,H,I,J,L,Q,d⟩:=iU g f l (by omega) 0 0 false;clear l g f
  go_wp2_with fail
  obtain⟨z,A,B⟩:=Q.out;refine bodyPost_ret (v:=sv 0 0 false) (by simp[results,results27,go_sem,z,A,B]) rfl ?_;exact⟨0,0,false,rfl,SpOk.zero,d.out⟩
 by_cases p1:a<0
 ·skip
  go_enter func27,ntmps27
  go_wp2_with fail
  refine lE (tH 1 w) Ll ?_;rintro W⟨g,f⟩;refine(N.out _).mono ?_;rintro e T⟨rfl,l⟩;obtain⟨M,E,H,I,J,L,Q,d⟩:=iU g f l (by omega) 0 0 false;clear l g f
  go_wp2_with fail
  obtain⟨z,A,B⟩:=Q.out;refine bodyPost_ret (v:=sv 0 0 false) (by simp[results,results27,go_sem,z,A,B]) rfl ?_;exact⟨0,0,false,rfl,SpOk.zero,d.out⟩
 have F:Hid (∀(x:Int) (w:World),x=a*1048576->Calls prog 38 #[.int .i64 x] w (nK (a*1048576) w)):=by
  rintro x w rfl;exact aKO (a*1048576) w (by omega) (by omega)
 have G:Hid (∀(x:Int) (w:World),x=b*1048576->Calls prog 38 #[.int .i64 x] w (nK (b*1048576) w)):=by
  rintro x w rfl;exact aKO (b*1048576) w (by omega) (by omega)
 have O:=aC (fun x y w=>vA x y w)
 go_enter func27,ntmps27
 go_wp2_with fail
 go_region_held3 (fun S=>S.cell? ⟨w.heap.size,0,none⟩=some (.int .i64 a)/\S.cell? ⟨w.heap.size,1,none⟩=some (.int .i64 b)) (go_keep)
  (first|(go_at_call 38;have _t:=s;refine(G.out _ _ (by first|rfl|(rw[IntKind.wrap_i64];omega))).mono ?_;rintro e w1⟨H,rfl,Y,u2,u3,R,rfl⟩;have C:=aC (aOj (show a*1048576<=b*1048576 by omega) U Y s.out R);clear u3 R)|(go_at_call 38;refine(F.out _ _ (by first|rfl|(rw[IntKind.wrap_i64];omega))).mono ?_;rintro e w1⟨E,rfl,U,t2,P,X,rfl⟩;have s:=aC P;clear P X)|(go_at_call 20;refine((O.out _ _ _).mono (fun _ _ h=>cM.sp (by have:=C.out;first|omega|(rw[IntKind.wrap_i64];omega)) h)).mono ?_;rintro e T⟨p,q,r,rfl,u,l⟩;have i:=qX l;have s0:=(i.cell (p:=⟨w.heap.size,0,none⟩) (by simp<;>omega)).trans (bK (rS (jC _ _)) rfl);have s1:=(i.cell (p:=⟨w.heap.size,1,none⟩) (by simp<;>omega)).trans (bK (rS (jC _ _)) rfl);have j:=(i.block _ (by simp<;>omega)).trans (zC (n:=w.heap.size+1) (by simp));have M:=bK (o:=0) j rfl;have E:=bK (o:=1) j rfl;have H:=bK (o:=2) j rfl;have I:=nD (o:=0) j;have J:=nD (o:=1) j;have L:=nD (o:=2) j;have Q:=aC (oM j p q r);have D:=aC u;have d:=aC (Mk (Below.trans (((Below.refl _ _).alloc (Nat.le_refl _) _).alloc (by simp) _) (i.mono (by simp<;>omega))) (show w.heap.size<=w.heap.size+1 by omega) p q r);clear j l i u))
 all_goals
  go_wp2_with fail
  obtain⟨z,A,B⟩:=Q.out;refine bodyPost_ret (v:=sv p q r) (by simp[results,results27,go_sem,z,A,B]) rfl ?_;exact⟨p,q,r,rfl,D.out,d.out⟩
def Loc (w:World)(b:Nat):Prop:=∃p q r,SpOk p q/\w.heap[b]?=some (cK p q r)
variable {n:World}{b:Nat}
theorem Loc.lt (h:Loc n b):b<n.heap.size:=by
 obtain⟨_,_,_,_,h⟩:=h;exact eZ h
variable {w:World}
theorem Loc.below {d:World}(h:Loc w b)(e:Below w.heap.size w d):Loc d b:=by
 obtain⟨p,q,r,a,h⟩:=h;exact⟨p,q,r,a,(e.block b (eZ h)).trans h⟩
variable {p q:Int}
theorem Loc.new (w:World)(r:Bool)(h:SpOk p q):Loc (w.alloc (.cells #[.int .i64 p,.int .i64 q,.bool r] 29)) w.heap.size:=⟨p,q,r,h,jC _ _⟩
theorem Loc.old (h:Loc n b)(o:Obj):Loc (n.alloc o) b:=by
 obtain⟨p,q,r,a,h⟩:=h;exact⟨p,q,r,a,rS h⟩
abbrev qV (w:World)(b:Nat)(p q:Int)(r:Bool):World:=((w.setCell ⟨b,0,none⟩ (.int .i64 p)).setCell ⟨b,1,none⟩ (.int .i64 q)).setCell ⟨b,2,none⟩ (.bool r)
theorem aIs {a:Bool}(h:n.heap[b]?=some (cK x y a))(p q:Int)(r:Bool):(qV n b p q r).heap[b]?=some (cK p q r):=
 rU (rU (rU h (o:=0) (.int .i64 p)) (o:=1) (.int .i64 q)) (o:=2) (.bool r)
theorem aLS {c:Nat}(h:c≠b)(p q:Int)(r:Bool):(qV n b p q r).heap[c]?=n.heap[c]?:=by
 unfold qV;rw[Below.heap_setCell _ _ _ _ (by simpa using h),Below.heap_setCell _ _ _ _ (by simpa using h),Below.heap_setCell _ _ _ _ (by simpa using h)]
variable {r:Bool}
theorem Loc.put {c:Nat}(f:Loc n b)(h:Loc n c)(a:SpOk p q):Loc (qV n b p q r) c:=by
 obtain⟨x,y,z,d,h⟩:=h
 by_cases e:c=b
 ·subst e;exact⟨p,q,r,a,aIs h p q r⟩
 ·exact⟨x,y,z,d,(aLS e p q r).trans h⟩
def SpV (v:Value):Prop:=∃p q r,v=sv p q r/\SpOk p q
def iF (f:FuncId):Prop:=∀d w,(callFunc f d).run prog w=.ok (.enter f d) w
theorem xE {f:FuncId}{fn:Func}(hf:prog.funcs[f]?=some fn)(hn:(fn.name == "runtime.NumGoroutine")=false)(hb:fn.body.isNone=false):iF f:=by
 intro xs w
 have hn':¬fn.name = "runtime.NumGoroutine":=by simpa using hn
 have hb':¬fn.body=none:=by intro e;rw[e]at hb;cases hb
 simp[callFunc,hf,hn',hb']
inductive Ki where
 |ld (j b:Nat)
 |mv (x:Value)
 |ca (f:FuncId)
 |al
 |st (j b:Nat)
 |sn (k:Nat)
 |tx (l:List UInt8)
def kF (ks:List Ki)(B:Nat)(i:Nat)(v:Value)(w:World):Prop:=match ks[i]? with
 |some (.ld _ _)=>SpV v
 |some (.ca _)=>SpV v
 |some (.mv x)=>v=x
 |some .al=>∃b,v=.pointer (some ⟨b,0,none⟩)/\B<=b/\Loc w b
 |some (.tx l)=>∃u,v=.string u/\eC u l
 |_=>True
variable {B:Nat}
theorem Nt {ks:List Ki}{d:World}(h:∀b,Loc w b->Loc d b)(k:Nat)(u:Value)(l:kF ks B k u w):kF ks B k u d:=by
 revert l;unfold kF;generalize ks[k]?=x
 cases x with
 |none=>exact id
 |some x=>
  cases x with
  |al=>
   rintro⟨b,e,f,g⟩;exact⟨b,e,f,h b g⟩
  |_=>exact id
def SW (B:Nat)(w0:World)(bs:List Nat)(w:World):Prop:=(B<=w0.heap.size/\Below B w0 w)/\∀b∈bs,B<=b/\Loc w b
theorem SW.below {B:Nat}{w0 w D:World}{bs:List Nat}(h:SW B w0 bs w)(d:Below w.heap.size w D):SW B w0 bs D:=⟨⟨h.1.1,h.1.2.trans (d.mono (Nat.le_trans h.1.1 h.1.2.size))⟩,fun b e=>⟨(h.2 b e).1,(h.2 b e).2.below d⟩⟩
theorem SW.put {B:Nat}{w0 w:World}{bs:List Nat}{b:Nat}{p q:Int}{r:Bool}(h:SW B w0 bs w)(d:B<=b)(g:Loc w b)(e:SpOk p q):SW B w0 bs (qV w b p q r):=⟨⟨h.1.1,((h.1.2.setCell d _).setCell d _).setCell d _⟩,fun c f=>⟨(h.2 c f).1,Loc.put g (h.2 c f).2 e⟩⟩
theorem SW.drew {B:Nat}{w0 w:World}{bs:List Nat}(h:SW B w0 bs w):SW B w0 bs w.drew:=⟨⟨h.1.1,⟨h.1.2.os,h.1.2.tape,h.1.2.output,h.1.2.size,h.1.2.block⟩⟩,h.2⟩
theorem SW.new {B:Nat}{w0 w:World}{bs:List Nat}(h:SW B w0 bs w){p q:Int}(r:Bool)(d:SpOk p q):SW B w0 (w.heap.size::bs) (w.alloc (.cells #[.int .i64 p,.int .i64 q,.bool r] 29)):=by
 have f:=Nat.le_trans h.1.1 h.1.2.size;refine⟨⟨h.1.1,h.1.2.alloc f _⟩,fun b g=>?_⟩
 rcases List.mem_cons.1 g with e|e
 ·rw[e];exact⟨f,Loc.new w r d⟩
 ·exact⟨(h.2 b e).1,(h.2 b e).2.old _⟩
variable {k:Nat}{bs:List Nat}
theorem SW.join {w0 l:World}{cs f:List Nat}(h:SW B w0 bs l)(d:SW k l cs w)(g:B<=k)(y:∀b∈f,b∈cs\/(b<k/\b∈bs)):SW B w0 f w:=by
 refine⟨⟨h.1.1,h.1.2.trans (d.1.2.mono g)⟩,fun b z=>?_⟩
 rcases y b z with e|⟨n,s⟩
 ·exact⟨Nat.le_trans g (d.2 b e).1,(d.2 b e).2⟩
 ·obtain⟨u,p,q,r,v,x⟩:=h.2 b s;exact⟨u,p,q,r,v,by rw[d.1.2.block b n];exact x⟩
theorem SW.add {w0:World}(h:SW B w0 bs w)(d:B<=b)(f:Loc w b):SW B w0 (b::bs) w:=⟨h.1,fun c g=>by
 rcases List.mem_cons.1 g with e|e
 ·rw[e];exact⟨d,f⟩
 ·exact h.2 c e⟩
section
variable {a:Act} {w w0:World} {o:Oper} {K:Act->World->Prop} {Q:Exit->Act->World->Prop} {i j b B:Nat} {ops:Array Oper} {ks:List Ki} {bs:List Nat}
theorem aWJ (f:o.op=.load 29 (.tmp j))(l:a.tmps[j]?=some (.pointer (some ⟨b,0,none⟩)))(h:Loc w b)(g:∀v,SpV v->K (a.put o.dst v) w):Oper.wp prog o a w K Q:=by
 obtain⟨p,q,r,d,k⟩:=h;obtain⟨c0,c1,c2⟩:=nS k rfl rfl rfl
 have e:a.eval (.tmp j)=.pointer (some ⟨b,0,none⟩):=by simp[Act.eval,Array.getD_eq_getD_getElem?,l]
 have:(execOp a.eval o).run prog w=.ok (.value (sv p q r)) w:=by
  unfold execOp;rw[f];simp only[e]
  go_simp
 unfold Oper.wp;rw[this,Oper.upon_value];exact g _ ⟨p,q,r,rfl,d⟩
variable {P:FuncId}{ts:Array TypeId}
theorem aWH {args:Array Operand}(g:o.op=.call { callee:=.value (.func P),args:=args,argTypes:=ts})(s:iF P)(k:Calls prog P (args.map a.eval) w (bE w))(l:∀v h,SpV v->Below w.heap.size w h->K (a.put o.dst v) h):Oper.wp prog o a w K Q:=by
 have:(execOp a.eval o).run prog w=.ok (.enter P (args.map a.eval)) w:=by
  unfold execOp;rw[g];simp[resolve,Act.eval,Deferred.ofValue,invoke];exact s _ _
 unfold Oper.wp;rw[this,Oper.upon_enter];refine k.mono ?_;rintro e h⟨p,q,r,rfl,d,n⟩;exact l _ _ ⟨p,q,r,rfl,d⟩ n
theorem aWG (d:o.op=.alloc 29)(e:K (a.put o.dst (.pointer (some ⟨w.heap.size,0,none⟩))) (w.alloc (.cells #[.int .i64 0,.int .i64 0,.bool false] 29))):Oper.wp prog o a w K Q:=by
 unfold Oper.wp execOp;rw[d]
 go_simp
 exact e
theorem aVk {x y:Operand}(d:o.op=.store 29 x y)(k:a.eval x=.pointer (some ⟨b,0,none⟩))(l:a.eval y=sv p q r)(f:Loc w b)(e:K (a.put o.dst undef) (qV w b p q r)):Oper.wp prog o a w K Q:=by
 obtain⟨n,s,u,h,g⟩:=f;obtain⟨c0,c1,c2,f0,f1,f2⟩:=yM g rfl rfl rfl;unfold Oper.wp execOp;rw[d];simp only[k,l]
 go_simp
 exact e
structure At (ops:Array Oper) (ks:List Ki) (B:Nat) (w0:World) (bs:List Nat) (a0 a:Act) (w:World) (o:Oper):Prop where
 s:SW B w0 bs w
 dp:∀e∈o.after,Region.binds .any e=true->∀(p:Oper) (d:Nat),ops[e.on]?=some p->p.dst=some d->∃v,a.tmps[d]?=some v/\kF ks B e.on v w
 fr:∀j,(∀(i:Nat) (o:Oper),ops[i]?=some o->o.dst≠some j)->a.tmps[j]?=a0.tmps[j]?
def pN (ks:List Ki)(B:Nat)(w0:World)(bs:List Nat)(i:Nat)(a:Act)(w:World)(o:Oper)(K:Act->World->Prop):Prop:=∀v d,kF ks B i v d->SW B w0 bs d->(∀k u,kF ks B k u w->kF ks B k u d)->K (a.put o.dst v) d
def lM (ops:Array Oper)(j:Nat):Bool:=ops.toList.all fun o=>o.dst != some j
theorem Tt (h:lM ops j=true)(i:Nat)(o:Oper)(d:ops[i]?=some o):o.dst≠some j:=by
 have:=List.all_eq_true.1 h o (Array.mem_toList_iff.2 (Array.mem_of_getElem? d))
 simpa using this
def eQ (ops:Array Oper)(o:Oper)(k d:Nat):Bool:=(o.after.toList.any fun e=>Region.binds .any e&&e.on==k)&&(match ops[k]? with
 |some p=>p.dst==some d
 |none=>false)
variable {a0:Act}
theorem At.of {d:Nat}(A:At ops ks B w0 bs a0 a w o)(h:eQ ops o k d=true):∃v,a.eval (.tmp d)=v/\kF ks B k v w:=by
 unfold eQ at h;rw[Bool.and_eq_true]at h;obtain⟨r,f⟩:=h;obtain⟨e,x,g⟩:=List.any_eq_true.1 r;rw[Bool.and_eq_true,beq_iff_eq]at g;obtain⟨g,s⟩:=g
 cases l:ops[k]? with
 |none=>rw[l]at f;cases f
 |some p=>
  rw[l]at f
  have u:p.dst=some d:=by simpa using f
  subst s;obtain⟨v,n,q⟩:=A.dp e (Array.mem_toList_iff.1 x) g p d l u;exact⟨v,by simp[Act.eval,Array.getD_eq_getD_getElem?,n],q⟩
def argP (ks:List Ki):Operand->Option Nat->Value->Prop
 |.const c,_,v=>v=c
 |_,some k,v=>match ks[k]? with
  |some (.mv x)=>v=x
  |_=>SpV v
 |_,none,_=>False
def mV (ops:Array Oper)(ks:List Ki)(o:Oper):Operand->Option Nat->Bool
 |.const _,_=>true
 | .tmp d,some k=>eQ ops o k d&&(match ks[k]? with
  |some (.ld _ _)=>true
  |some (.mv _)=>true
  |some (.ca _)=>true
  |_=>false)
 |_,_=>false
def Alls:List (Value->Prop)->List Value->Prop
 | [],[]=>True
 |p::d,v::e=>p v/\Alls d e
 |_,_=>False
theorem At.arg (A:At ops ks B w0 bs a0 a w o):∀{x:Operand} {s:Option Nat},mV ops ks o x s=true->argP ks x s (a.eval x)
 |.const c,_,_=>rfl
 |.tmp d,some k,h=>by
  unfold mV at h;rw[Bool.and_eq_true]at h;obtain⟨v,l,f⟩:=A.of h.1;have e:=h.2;rw[l];unfold kF at f
  show match ks[k]? with
   |some (.mv x)=>v=x
   |_=>SpV v
  cases g:ks[k]? with
  |none=>rw[g]at e;cases e
  |some x=>
   rw[g]at f e
   cases x<;>first|exact f|cases e
 |.tmp _,none,h=>by cases h
 |.global _,_,h=>by cases h
 |.func _,_,h=>by cases h
theorem At.args {a0:Act}(A:At ops ks B w0 bs a0 a w o):∀(d:List Operand) (e:List (Option Nat)),d.length=e.length->((d.zip e).all fun p=>mV ops ks o p.1 p.2)=true->Alls ((d.zip e).map fun p=>argP ks p.1 p.2) (d.map a.eval)
 | [],[],_,_=>trivial
 |x::d,s::e,f,h=>by
  simp only[List.zip_cons_cons,List.all_cons,Bool.and_eq_true]at h;exact⟨A.arg h.1,At.args A d e (by simpa using f) h.2⟩
 | [],_::_,h,_=>by cases h
 |_::_,[],h,_=>by cases h
theorem iI (A:At ops ks B w0 bs a0 a w o)(N:pN ks B w0 bs i a w o K)(j b:Nat)(g:o.guard=none)(d:o.op=.load 29 (.tmp j))(k:ks[i]?=some (.ld j b))(f:lM ops j=true)(l:a0.tmps[j]?=some (.pointer (some ⟨b,0,none⟩)))(e:b∈bs):if Region.wanted o (yielded ops a.tmps)=true then Oper.wp prog o a w K Q else K (a.put o.dst undef) w:=by
 rw[if_pos (by unfold Region.wanted;rw[g])]
 exact aWJ d (by rw[A.fr j (Tt f)];exact l) (A.s.2 b e).2 fun v hv=>N v w (by unfold kF;rw[k];exact hv) A.s fun _ _ h=>h
theorem cB (A:At ops ks B w0 bs a0 a w o)(N:pN ks B w0 bs i a w o K){args:Array Operand}(e:List (Option Nat))(x:o.guard=none)(g:o.op=.call { callee:=.value (.func P),args:=args,argTypes:=ts})(y:ks[i]?=some (.ca P))(z:args.toList.length=e.length)(d:((args.toList.zip e).all fun p=>mV ops ks o p.1 p.2)=true)(r:iF P)(n:∀l,Alls ((args.toList.zip e).map fun p=>argP ks p.1 p.2) l->∀w,Calls prog P l.toArray w (bE w)):if Region.wanted o (yielded ops a.tmps)=true then Oper.wp prog o a w K Q else K (a.put o.dst undef) w:=by
 rw[if_pos (by unfold Region.wanted;rw[x])];have:=n _ (A.args args.toList e z d) w;rw[show(args.toList.map a.eval).toArray=args.map a.eval by apply Array.toList_inj.1;simp]at this
 exact aWH g r this fun v C hv d=>N v C (by unfold kF;rw[y];exact hv) (A.s.below d) fun k u h=>Nt (fun b q=>q.below d) k u h
variable {x:Value}
theorem sN (A:At ops ks B w0 bs a0 a w o)(N:pN ks B w0 bs i a w o K)(j:Nat)(g:o.guard=none)(d:o.op=.move (.tmp j))(k:ks[i]?=some (.mv x))(f:lM ops j=true)(l:a0.tmps[j]?=some x):if Region.wanted o (yielded ops a.tmps)=true then Oper.wp prog o a w K Q else K (a.put o.dst undef) w:=by
 rw[if_pos (by unfold Region.wanted;rw[g])]
 have e:a.eval (.tmp j)=x:=by simp[Act.eval,Array.getD_eq_getD_getElem?,A.fr j (Tt f),l]
 have:(execOp a.eval o).run prog w=.ok (.value x) w:=by
  unfold execOp;rw[d];simp[e]
 unfold Oper.wp;rw[this,Oper.upon_value]
 exact N x w (by unfold kF;rw[k]) A.s fun _ _ h=>h
theorem aYb (A:At ops ks B w0 bs a0 a w o)(N:pN ks B w0 bs i a w o K)(g:o.guard=none)(d:o.op=.alloc 29)(l:ks[i]?=some .al):if Region.wanted o (yielded ops a.tmps)=true then Oper.wp prog o a w K Q else K (a.put o.dst undef) w:=by
 rw[if_pos (by unfold Region.wanted;rw[g])];have e:Below w.heap.size w (w.alloc (.cells #[.int .i64 0,.int .i64 0,.bool false] 29)):=(Below.refl _ _).alloc (Nat.le_refl _) _;exact aWG d (N _ _ (by unfold kF;rw[l];exact⟨_,rfl,Nat.le_trans A.s.1.1 A.s.1.2.size,Loc.new w false SpOk.zero⟩) (A.s.below e) fun k u h=>Nt (fun b f=>f.below e) k u h)
theorem jH (A:At ops ks B w0 bs a0 a w o)(N:pN ks B w0 bs i a w o K)(j b d k:Nat)(C:o.guard=none)(l:o.op=.store 29 (.tmp j) (.tmp d))(D:ks[i]?=some (.st j b))(z:lM ops j=true)(E:a0.tmps[j]?=some (.pointer (some ⟨b,0,none⟩)))(y:b∈bs)(F:mV ops ks o (.tmp d) (some k)=true)(hv:∀v,argP ks (.tmp d) (some k) v->SpV v):if Region.wanted o (yielded ops a.tmps)=true then Oper.wp prog o a w K Q else K (a.put o.dst undef) w:=by
 rw[if_pos (by unfold Region.wanted;rw[C])];obtain⟨p,q,r,e,f⟩:=hv _ (A.arg F);obtain⟨n,g⟩:=A.s.2 b y;exact aVk l (by simp[Act.eval,Array.getD_eq_getD_getElem?,A.fr j (Tt z),E]) e g (N _ _ (by unfold kF;rw[D];trivial) (A.s.put n g f) fun k u h=>Nt (fun c x=>Loc.put g x f) k u h)
theorem aYc (A:At ops ks B w0 bs a0 a w o)(N:pN ks B w0 bs i a w o K)(j n d k:Nat)(E:o.guard=none)(x:o.op=.store 29 (.tmp j) (.tmp d))(H:ks[i]?=some (.sn n))(I:ks[n]?=some .al)(F:eQ ops o n j=true)(J:mV ops ks o (.tmp d) (some k)=true)(hv:∀v,argP ks (.tmp d) (some k) v->SpV v):if Region.wanted o (yielded ops a.tmps)=true then Oper.wp prog o a w K Q else K (a.put o.dst undef) w:=by
 rw[if_pos (by unfold Region.wanted;rw[E])];obtain⟨p,q,r,e,f⟩:=hv _ (A.arg J);obtain⟨v,y,g⟩:=A.of F;unfold kF at g;rw[I]at g;obtain⟨b,z,C,l⟩:=g;exact aVk x (by rw[y,z]) e l (N _ _ (by unfold kF;rw[H];trivial) (A.s.put C l f) fun k u h=>Nt (fun c D=>Loc.put l D f) k u h)
variable {p:Value->Prop}
theorem zI {i:List Value}(h:Alls [p] i):∃x,i=[x]/\p x:=by
 match i,h with
 | [x],⟨d,_⟩=>exact⟨x,rfl,d⟩
 | [],h=>exact h.elim
 |_::_::_,⟨_,h⟩=>exact h.elim
theorem zJ {q:Value->Prop}{i:List Value}(h:Alls [p,q] i):∃x y,i=[x,y]/\p x/\q y:=by
 match i,h with
 |x::i,⟨d,e⟩=>
  obtain⟨y,rfl,f⟩:=zI e;exact⟨x,y,rfl,d,f⟩
 | [],h=>exact h.elim
theorem cSS (h:∀a b k c d m w,SpOk a b->SpOk c d->Calls prog P #[sv a b k,sv c d m] w (bE w))(e:List Value)(hv:Alls [SpV,SpV] e)(w:World):Calls prog P e.toArray w (bE w):=by
 obtain⟨_,_,rfl,⟨a,b,k,rfl,g⟩,c,d,m,rfl,l⟩:=zJ hv;exact h a b k c d m w g l
theorem cS (h:∀a b k w,SpOk a b->Calls prog P #[sv a b k] w (bE w))(d:List Value)(hv:Alls [SpV] d)(w:World):Calls prog P d.toArray w (bE w):=by
 obtain⟨_,rfl,a,b,k,rfl,e⟩:=zI hv;exact h a b k w e
theorem cSI (h:∀a b k w,SpOk a b->Calls prog P #[sv a b k,x] w (bE w))(d:List Value)(hv:Alls [SpV,fun v=>v=x] d)(w:World):Calls prog P d.toArray w (bE w):=by
 obtain⟨_,_,rfl,⟨a,b,k,rfl,e⟩,rfl⟩:=zJ hv;exact h a b k w e
theorem cII {f:Value}(h:∀w,Calls prog P #[x,f] w (bE w))(d:List Value)(hv:Alls [fun v=>v=x,fun v=>v=f] d)(w:World):Calls prog P d.toArray w (bE w):=by
 obtain⟨_,_,rfl,rfl,rfl⟩:=zJ hv;exact h w
theorem Ga (a b:Int)(h:a<=b):∀d,Alls [fun v=>v=.int .i64 a,fun v=>v=.int .i64 b] d->∀w,Calls prog 20 d.toArray w (bE w):=cII fun w=>(vA a b w).mono fun _ _=>cM.sp h
theorem kH:∀e,Alls [SpV,SpV] e->∀w,Calls prog 23 e.toArray w (bE w):=cSS fun a b k c d m w h f=>aMq a b k c d m w h f
theorem qL:∀e,Alls [SpV,SpV] e->∀w,Calls prog 26 e.toArray w (bE w):=cSS fun a b k c d m w h f=>aJw a b k c d m w h f
theorem pQ:∀d,Alls [SpV] d->∀w,Calls prog 24 d.toArray w (bE w):=cS fun a b k w h=>aPK a b k w h
theorem Pl (p q:Int)(e:0<=p)(f:p<=1000)(g:1<=q)(h:q<=1000):∀d,Alls [fun v=>v=.int .i64 p,fun v=>v=.int .i64 q] d->∀w,Calls prog 12 d.toArray w (bE w):=cII fun w=>(Sc p q w e f g h).mono fun _ _=>cM.sp (Gy (by omega) (Int.le_refl _))
theorem Pj:∀d,Alls [SpV] d->∀w,Calls prog 25 d.toArray w (bE w):=cS fun a b k w h=>(Nz a b k w h).mono fun _ _ ⟨e,f⟩=>⟨_,_,_,e,h.neg,f⟩
theorem Qa:iF 12:=xE func12 rfl rfl
theorem Py:iF 25:=xE func25 rfl rfl
theorem Gc:iF 20:=xE func20 rfl rfl
theorem kI:iF 23:=xE func23 rfl rfl
theorem qM:iF 26:=xE func26 rfl rfl
theorem pU:iF 24:=xE func24 rfl rfl
theorem qD {id:Nat}(ks:List Ki)(bs:List Nat)(f:SW B w0 bs n)(k:nN ops a0.tmps.size=true)(g:Ft ops=true)
  (step:∀(i:Nat) (h:i<ops.size) (a:Act) (w:World) (K:Act->World->Prop),At ops ks B w0 bs a0 a w ops[i]->pN ks B w0 bs i a w ops[i] K->if Region.wanted ops[i] (yielded ops a.tmps)=true then Oper.wp prog ops[i] a w K Q else K (a.put ops[i].dst undef) w)
  (e:∀(l:Nat->Value) (w:World),SW B w0 bs w->(∀(i:Nat) (o:Oper) (d:Nat),ops[i]?=some o->o.dst=some d->kF ks B i (l i) w)->Q .normal ⟨cC a0.tmps (dl l ops.toList 0),a0.defers⟩ w):(Code.region id ops true).wp prog Q a0 n:=
 aOd (S:=SW B w0 bs) (F:=kF ks B) (by kernel_rfl) k g f.drew (fun i o s a w f q r K p=>by
  obtain⟨hi,rfl⟩:=Array.getElem?_eq_some_iff.1 s
  exact step i hi a w K ⟨f,q,r⟩ p) e
end
def jY (w:World)(l:List UInt8)(e:Ending)(a:World):Prop:=∃u,e=.returned (.string u)/\eC u l/\Below w.heap.size w a
theorem aLk (wr:World)(x:Nat)(b:x<10):(convert 54 9 (.slice (some ⟨wr.heap.size,0,none⟩) 1 1)).run prog (wr.alloc (.cells #[.int .u8 (48+(x:Int))] 5))=.ok (.string ⟨#[UInt8.ofNat (48+x)]⟩) (wr.alloc (.cells #[.int .u8 (48+(x:Int))] 5)):=by
 have h:((UInt8.ofNat (48+x)).toNat:Int)=48+(x:Int):=by
  rw[UInt8.toNat_ofNat'];omega
 refine run_convert_bytes_back (P:=prog) _ 54 9 5 ⟨wr.heap.size,0,none⟩ 1 [UInt8.ofNat (48+x)] underlying54 underlying5 underlying9 ?_;intro j a
 obtain rfl:j=0:=by simpa using a
 show _=some (Value.int .u8 ((UInt8.ofNat (48+x)).toNat:Int));rw[h];exact bK (jC _ _) rfl
theorem aRU (W:World)(b x:Nat)(h:W.cell? ⟨b,0,none⟩=some (.int .u8 (48+(x:Int)%10))):(convert 54 9 (.slice (some ⟨b,0,none⟩) 1 1)).run prog W=.ok (.string ⟨#[UInt8.ofNat (48+x%10)]⟩) W:=by
 have d:((UInt8.ofNat (48+x%10)).toNat:Int)=48+(x:Int)%10:=by
  rw[UInt8.toNat_ofNat'];omega
 refine run_convert_bytes_back (P:=prog) _ 54 9 5 ⟨b,0,none⟩ 1 [UInt8.ofNat (48+x%10)] underlying54 underlying5 underlying9 ?_;intro j a
 obtain rfl:j=0:=by simpa using a
 show _=some (Value.int .u8 ((UInt8.ofNat (48+x%10)).toNat:Int));rw[d]
 simpa[Addr.add]using h
variable {a:ByteArray}{A:List UInt8}
theorem yC {b:ByteArray}{m:List UInt8}(d:eC a A)(e:eC b m)(h:A.length+m.length<=9000000):
  ∃y:ByteArray,(∀W:World,(Op.stringOp .add a b).run prog W=.ok (.string y) W)/\eC y (A++m):=
 ⟨a++b,fun W=>run_string_add_sum W a b (by rw[d.size,e.size];omega),d.app e⟩
variable {b:World}{v:Int}
theorem aHU (h:v=x)(a:Below (n.alloc (.cells #[.int .u8 v] 5)).drew.heap.size (n.alloc (.cells #[.int .u8 v] 5)).drew b):b.cell? ⟨n.heap.size,0,none⟩=some (.int .u8 x):=by
 subst h;have e:(n.alloc (.cells #[.int .u8 v] 5)).cell? ⟨n.heap.size,0,none⟩=some (.int .u8 v):=bK (o:=0) (jC n _) rfl;refine(a.cell (p:=⟨n.heap.size,0,none⟩) ?_).trans e;show n.heap.size<(n.alloc (.cells #[.int .u8 v] 5)).heap.size;simp
theorem Fx (h:Below n.drew.heap.size n.drew b)(o:Obj):Below n.heap.size n (b.alloc o):=by
 have a:Below n.heap.size n b:=⟨h.os,h.tape,h.output,h.size,h.block⟩
 exact a.alloc a.size o
theorem Fy {o:Obj}(h:Below (n.alloc o).drew.heap.size (n.alloc o).drew b):Below n.heap.size n b:=by
 have d:Below (n.alloc o).heap.size (n.alloc o) b:=⟨h.os,h.tape,h.output,h.size,h.block⟩
 have a:Below n.heap.size n (n.alloc o):=(Below.refl _ _).alloc (Nat.le_refl _) o;exact a.trans (d.mono a.size)
theorem aGs (x:Nat)(w:World)(a:x<10):Calls prog 10 #[.int .i64 x] w (jY w (Rd.dec x)):=by
 have b:=aLk w x a
 go_enter func10,ntmps10
 go_wp2_with fail
 go_ret
 refine⟨_,rfl,⟨?_⟩,(Below.refl _ _).alloc (Nat.le_refl _) _⟩;show [48+UInt8.ofNat x]=Rd.dec x;rw[Rd.dec,Int.toNat_natCast,Lib.decDigits_one a,UInt8.ofNat_add];rfl
theorem aLQ (x:Nat)(w:World)(A:10<=x)(C:x<100):Calls prog 10 #[.int .i64 x] w (jY w (Rd.dec x)):=by
 have N:Hid (∀(y:Int) (w:World),y=((x/10:Nat):Int)->Calls prog 10 #[.int .i64 y] w (jY w (Rd.dec (x/10:Nat)))):=by
  rintro y w rfl;exact aGs (x/10) w (by omega)
 have q:=fun W b h=>aRU W b x h
 have r:IntKind.u8.wrap (IntKind.i64.wrap (48+(x:Int).tmod 10))=48+(x:Int)%10:=by
  rw[Int.tmod_eq_emod_of_nonneg (by omega),IntKind.wrap_i64,IntKind.wrap_u8];omega
 have B:(Rd.dec ((x/10:Nat):Int)).length<=9:=Rd.Cd ⟨by omega,by omega⟩
 go_enter func10,ntmps10
 go_wp2_with fail
 go_region_with (go_at_call 10;refine(N.out _ _ (by first|rfl|omega|(rw[IntKind.wrap_i64];omega))).mono ?_;rintro e D⟨u,rfl,j,i⟩;(first|have a:=aHU r i|have a:=aHU (rfl:(48+(x:Int)%10)=48+(x:Int)%10) i|have a:=0);obtain⟨y1,s,d⟩:=yC j (eC.mk' [UInt8.ofNat (48+x%10)]) (show(Rd.dec ((x/10:Nat):Int)).length+1<=9000000 by omega);obtain⟨y2,v,f⟩:=yC j (eC.mk' [48+UInt8.ofNat (x%10)]) (show(Rd.dec ((x/10:Nat):Int)).length+1<=9000000 by omega);have z:=aC j;have g:=aC i;clear j i)
 all_goals
  have k:Rd.dec ((x/10:Nat):Int)++[UInt8.ofNat (48+x%10)]=Rd.dec x:=by
   have p:Lib.decDigits x=Lib.decDigits (x/10)++[UInt8.ofNat (48+x%10)]:=by
    conv=>lhs;rw[Lib.decDigits,dif_neg (by omega)]
   rw[Rd.dec,Rd.dec,Int.toNat_natCast,Int.toNat_natCast,p]
  have o:Rd.dec ((x/10:Nat):Int)++[48+UInt8.ofNat (x%10)]=Rd.dec x:=by
   rw[<-k,UInt8.ofNat_add];rfl
  have l:=aC k;have n:=aC o;clear k o
  go_wp2_with fail
  go_ret
  first
   |exact⟨_,rfl,d.to l.out,Fx g.out _⟩
   |exact⟨_,rfl,d.to l.out,Fy g.out⟩
   |exact⟨_,rfl,f.to n.out,Fx g.out _⟩
   |exact⟨_,rfl,f.to n.out,Fy g.out⟩
theorem Xi (x:Nat)(w:World)(a:x<100):Calls prog 10 #[.int .i64 x] w (jY w (Rd.dec x)):=by
 rcases Nat.lt_or_ge x 10 with h|h
 ·exact aGs x w h
 ·exact aLQ x w h a
abbrev Al (d:Value)(t:ByteArray)(a b:Int)(k:Bool):Value:=.agg #[d,.string t,.int .i64 a,.int .i64 b,.bool k]
def kL (w:World)(l:List UInt8)(e:Ending)(d:World):Prop:=∃u a b k,e=.returned (.tuple #[.string u,sv a b k])/\eC u l/\SpOk a b/\Below w.heap.size w d
theorem aXQ:iF 10:=xE func10 rfl rfl
section
variable {a a0:Act} {w w0:World} {o:Oper} {K:Act->World->Prop} {Q:Exit->Act->World->Prop} {i j b B:Nat} {ops:Array Oper} {ks:List Ki} {bs:List Nat}{ts:Array TypeId}
theorem aWI {P:FuncId}{args:Array Operand}{R:Ending->World->Prop}(g:o.op=.call { callee:=.value (.func P),args:=args,argTypes:=ts})(p:iF P)(l:Calls prog P (args.map a.eval) w R)(n:∀e d,R e d->∃v,e=.returned v/\K (a.put o.dst v) d):Oper.wp prog o a w K Q:=by
 have:(execOp a.eval o).run prog w=.ok (.enter P (args.map a.eval)) w:=by
  unfold execOp;rw[g];simp[resolve,Act.eval,Deferred.ofValue,invoke];exact p _ _
 unfold Oper.wp;rw[this,Oper.upon_enter];refine l.mono ?_;intro e d h;obtain⟨v,rfl,k⟩:=n e d h;exact k
theorem zH {x:Value}(A:At ops ks B w0 bs a0 a w o)(N:pN ks B w0 bs i a w o K)(e:o.guard=none)(f:(execOp a.eval o).run prog w=.ok (.value x) w)(d:kF ks B i x w):if Region.wanted o (yielded ops a.tmps)=true then Oper.wp prog o a w K Q else K (a.put o.dst undef) w:=by
 rw[if_pos (by unfold Region.wanted;rw[e])];unfold Oper.wp;rw[f,Oper.upon_value]
 exact N x w d A.s fun _ _ h=>h
variable {d:Nat}
theorem At.mv {x:Value}(A:At ops ks B w0 bs a0 a w o)(g:ks[k]?=some (.mv x))(h:eQ ops o k d=true):a.eval (.tmp d)=x:=by
 obtain⟨v,f,e⟩:=A.of h;unfold kF at e;rw[g]at e;rw[f,e]
theorem Iv {c:Int}{ty:TypeId}(A:At ops ks B w0 bs a0 a w o)(N:pN ks B w0 bs i a w o K)(k:Nat)(h:o.guard=none)(f:o.op=.binOp .mul 3 (.tmp d) (.const (.int .i64 c)) ty)(g:ks[k]?=some (.mv (.int .i64 v)))(n:eQ ops o k d=true)(l:ks[i]?=some (.mv (.int .i64 (IntKind.i64.wrap (v*c))))):if Region.wanted o (yielded ops a.tmps)=true then Oper.wp prog o a w K Q else K (a.put o.dst undef) w:=by
 refine zH A N h ?_ (by unfold kF;rw[l]);unfold execOp;rw[f];have e:=A.mv g n;simp only[e];simp[Act.eval,eqGuard,binOp,Op.intArith]
theorem Iy {x:Nat}(A:At ops ks B w0 bs a0 a w o)(N:pN ks B w0 bs i a w o K)(k:Nat)(q:o.guard=none)(f:o.op=.call { callee:=.value (.func 10),args:=#[.tmp d],argTypes:=ts})(p:ks[k]?=some (.mv (.int .i64 (x:Int))))(y:eQ ops o k d=true)(r:ks[i]?=some (.tx (Rd.dec (x:Int))))(z:x<100):if Region.wanted o (yielded ops a.tmps)=true then Oper.wp prog o a w K Q else K (a.put o.dst undef) w:=by
 rw[if_pos (by unfold Region.wanted;rw[q])];have e:=A.mv p y;have h:=Xi x w z;rw[<-e]at h
 have l:Calls prog 10 (#[Operand.tmp d].map a.eval) w (jY w (Rd.dec (x:Int))):=by simpa using h
 refine aWI f aXQ l ?_;rintro e C⟨u,rfl,v,g⟩;exact⟨_,rfl,N _ C (by unfold kF;rw[r];exact⟨u,rfl,v⟩) (A.s.below g) fun k u h=>Nt (fun b n=>n.below g) k u h⟩
def fO (ops:Array Oper)(ks:List Ki)(o:Oper)(x:Operand)(l:List UInt8):Prop:=(∃u,x=.const (.string u)/\eC u l)\/(∃d k,x=.tmp d/\ks[k]?=some (.tx l)/\eQ ops o k d=true)\/∃d k u,x=.tmp d/\ks[k]?=some (.mv (.string u))/\eC u l/\eQ ops o k d=true
theorem fO.str {x:Operand}(h:fO ops ks o x A)(e:At ops ks B w0 bs a0 a w o):∃u,a.eval x=.string u/\eC u A:=by
 rcases h with⟨u,rfl,n⟩|⟨d,k,rfl,g,p⟩|⟨d,k,u,rfl,g,n,p⟩
 ·exact⟨u,rfl,n⟩
 ·obtain⟨v,q,f⟩:=e.of p;unfold kF at f;rw[g]at f;obtain⟨u,r,s⟩:=f;exact⟨u,q.trans r,s⟩
 ·exact⟨u,e.mv g p,n⟩
theorem fO.c (l:List UInt8):fO ops ks o (.const (.string ⟨l.toArray⟩)) l:=Or.inl ⟨_,rfl,eC.mk' l⟩
theorem fO.t (k:Nat)(e:ks[k]?=some (.tx A))(f:eQ ops o k d=true):fO ops ks o (.tmp d) A:=Or.inr (Or.inl ⟨d,k,rfl,e,f⟩)
theorem fO.m {u:ByteArray}(f:eC u A)(k:Nat)(e:ks[k]?=some (.mv (.string u)))(g:eQ ops o k d=true):fO ops ks o (.tmp d) A:=Or.inr (Or.inr ⟨d,k,u,rfl,e,f,g⟩)
theorem hP {x y:Operand}{m:List UInt8}{ty:TypeId}(d:At ops ks B w0 bs a0 a w o)(N:pN ks B w0 bs i a w o K)(n:o.guard=none)(e:o.op=.binOp .add 9 x y ty)(s:fO ops ks o x A)(z:fO ops ks o y m)(p:ks[i]?=some (.tx (A++m)))(q:A.length+m.length<=9000000):if Region.wanted o (yielded ops a.tmps)=true then Oper.wp prog o a w K Q else K (a.put o.dst undef) w:=by
 obtain⟨u,h,r⟩:=s.str d;obtain⟨v,k,hv⟩:=z.str d;obtain⟨y,f,g⟩:=yC r hv q;refine zH (x:=.string y) d N n ?_ (by unfold kF;rw[p];exact⟨y,rfl,g⟩);unfold execOp;rw[e];simp only[h,k];simp[eqGuard,binOp,f]
theorem Am (e:At ops ks B w0 bs a0 a w o)(N:pN ks B w0 bs i a w o K)(k:Nat)(n:o.guard=none)(f:o.op=.assign (.tmp d))(h:ks[k]?=some (.tx A))(r:eQ ops o k d=true)(p:ks[i]?=some (.tx A)):if Region.wanted o (yielded ops a.tmps)=true then Oper.wp prog o a w K Q else K (a.put o.dst undef) w:=by
 obtain⟨u,g,q⟩:=(fO.t (ops:=ops) (o:=o) k h r).str e;refine zH (x:=.string u) e N n ?_ (by unfold kF;rw[p];exact⟨u,rfl,q⟩);unfold execOp;rw[f];simp[g]
theorem At.base {x:Value}(A:At ops ks B w0 bs a0 a w o)(d:lM ops j=true)(hs:a0.tmps[j]?=some x):a.eval (.tmp j)=x:=by
 simp[Act.eval,Array.getD_eq_getD_getElem?,A.fr j (Tt d),hs]
theorem sJ (A:At ops ks B w0 bs a0 a w o)(N:pN ks B w0 bs i a w o K)(j:Nat)(g:o.guard=none)(d:o.op=.fieldAddr 31 (.tmp j) 1)(f:lM ops j=true)(k:a0.tmps[j]?=some (.pointer (some ⟨b,0,none⟩)))(h:ks[i]?=some (.mv (.pointer (some ⟨b,1,none⟩)))):if Region.wanted o (yielded ops a.tmps)=true then Oper.wp prog o a w K Q else K (a.put o.dst undef) w:=by
 refine zH A N g ?_ (by unfold kF;rw[h]);have e:=A.base f k;unfold execOp;rw[d];simp only[e]
 go_simp
theorem sK (A:At ops ks B w0 bs a0 a w o)(N:pN ks B w0 bs i a w o K)(j:Nat)(g:o.guard=none)(d:o.op=.fieldAddr 31 (.tmp j) 2)(f:lM ops j=true)(k:a0.tmps[j]?=some (.pointer (some ⟨b,0,none⟩)))(h:ks[i]?=some (.mv (.pointer (some ⟨b,2,none⟩)))):if Region.wanted o (yielded ops a.tmps)=true then Oper.wp prog o a w K Q else K (a.put o.dst undef) w:=by
 refine zH A N g ?_ (by unfold kF;rw[h]);have e:=A.base f k;unfold execOp;rw[d];simp only[e]
 go_simp
theorem sM {t:ByteArray}(A:At ops ks B w0 bs a0 a w o)(N:pN ks B w0 bs i a w o K)(k:Nat)(l:o.guard=none)(f:o.op=.load 9 (.tmp d))(h:ks[k]?=some (.mv (.pointer (some ⟨b,1,none⟩))))(q:eQ ops o k d=true)(n:ks[i]?=some (.mv (.string t)))(g:b<B)(hc:w0.cell? ⟨b,1,none⟩=some (.string t)):if Region.wanted o (yielded ops a.tmps)=true then Oper.wp prog o a w K Q else K (a.put o.dst undef) w:=by
 refine zH A N l ?_ (by unfold kF;rw[n]);have e:=A.mv h q;have c:=(A.s.1.2.cell (p:=⟨b,1,none⟩) g).trans hc;unfold execOp;rw[f];simp only[e]
 go_simp
theorem sL {m n:Nat}(A:At ops ks B w0 bs a0 a w o)(N:pN ks B w0 bs i a w o K)(k:Nat)(z:o.guard=none)(h:o.op=.load 29 (.tmp d))(y:ks[k]?=some (.mv (.pointer (some ⟨b,2,none⟩))))(D:eQ ops o k d=true)(C:ks[i]?=some (.ld m n))(f:b<B)(g:SpOk p q)(l:w0.cell? ⟨b,2,none⟩=some (.int .i64 p))(u:w0.cell? ⟨b,3,none⟩=some (.int .i64 q))(v:w0.cell? ⟨b,4,none⟩=some (.bool r)):if Region.wanted o (yielded ops a.tmps)=true then Oper.wp prog o a w K Q else K (a.put o.dst undef) w:=by
 refine zH (x:=sv p q r) A N z ?_ (by unfold kF;rw[C];exact⟨p,q,r,rfl,g⟩);have e:=A.mv y D;have c0:=(A.s.1.2.cell (p:=⟨b,2,none⟩) f).trans l;have c1:=(A.s.1.2.cell (p:=⟨b,3,none⟩) f).trans u;have c2:=(A.s.1.2.cell (p:=⟨b,4,none⟩) f).trans v;unfold execOp;rw[h];simp only[e]
 go_simp
theorem Iw (A:At ops ks B w0 bs a0 a w o)(N:pN ks B w0 bs i a w o K)(j:Nat)(g:o.guard=none)(d:o.op=.fieldAddr 29 (.tmp j) 0)(f:lM ops j=true)(k:a0.tmps[j]?=some (.pointer (some ⟨b,0,none⟩)))(h:ks[i]?=some (.mv (.pointer (some ⟨b,0,none⟩)))):if Region.wanted o (yielded ops a.tmps)=true then Oper.wp prog o a w K Q else K (a.put o.dst undef) w:=by
 refine zH A N g ?_ (by unfold kF;rw[h]);have e:=A.base f k;unfold execOp;rw[d];simp only[e]
 go_simp
theorem Ix (A:At ops ks B w0 bs a0 a w o)(N:pN ks B w0 bs i a w o K)(j:Nat)(g:o.guard=none)(d:o.op=.fieldAddr 29 (.tmp j) 1)(f:lM ops j=true)(k:a0.tmps[j]?=some (.pointer (some ⟨b,0,none⟩)))(h:ks[i]?=some (.mv (.pointer (some ⟨b,1,none⟩)))):if Region.wanted o (yielded ops a.tmps)=true then Oper.wp prog o a w K Q else K (a.put o.dst undef) w:=by
 refine zH A N g ?_ (by unfold kF;rw[h]);have e:=A.base f k;unfold execOp;rw[d];simp only[e]
 go_simp
theorem xQ {q:Nat}(A:At ops ks B w0 bs a0 a w o)(N:pN ks B w0 bs i a w o K)(k:Nat)(l:o.guard=none)(f:o.op=.load 3 (.tmp d))(h:ks[k]?=some (.mv (.pointer (some ⟨b,q,none⟩))))(r:eQ ops o k d=true)(n:ks[i]?=some (.mv (.int .i64 v)))(g:b<B)(hc:w0.cell? ⟨b,q,none⟩=some (.int .i64 v)):if Region.wanted o (yielded ops a.tmps)=true then Oper.wp prog o a w K Q else K (a.put o.dst undef) w:=by
 refine zH A N l ?_ (by unfold kF;rw[n]);have e:=A.mv h r;have c:=(A.s.1.2.cell (p:=⟨b,q,none⟩) g).trans hc;unfold execOp;rw[f];simp only[e]
 go_simp
theorem Ql {c:Int}{ty:TypeId}(A:At ops ks B w0 bs a0 a w o)(N:pN ks B w0 bs i a w o K)(k:Nat)(h:o.guard=none)(f:o.op=.binOp .add 3 (.tmp d) (.const (.int .i64 c)) ty)(g:ks[k]?=some (.mv (.int .i64 v)))(n:eQ ops o k d=true)(l:ks[i]?=some (.mv (.int .i64 (IntKind.i64.wrap (v+c))))):if Region.wanted o (yielded ops a.tmps)=true then Oper.wp prog o a w K Q else K (a.put o.dst undef) w:=by
 refine zH A N h ?_ (by unfold kF;rw[l]);unfold execOp;rw[f];have e:=A.mv g n;simp only[e];simp[Act.eval,eqGuard,binOp,Op.intArith]
end
theorem cI {P:FuncId}{x:Value}(h:∀w,Calls prog P #[x] w (bE w))(d:List Value)(hv:Alls [fun v=>v=x] d)(w:World):Calls prog P d.toArray w (bE w):=by
 obtain⟨_,rfl,rfl⟩:=zI hv;exact h w
theorem cPt (n:Int):∀d,Alls [fun v=>v=.int .i64 n] d->∀w,Calls prog 11 d.toArray w (bE w):=cI fun w=>(Sb n w).mono fun _ _=>cM.sp (Int.le_refl _)
theorem zN:∀e,Alls [SpV,SpV] e->∀w,Calls prog 39 e.toArray w (bE w):=cSS fun a b k c d m w h f=>aPp a b k c d m w h f
theorem zR:iF 39:=xE func39 rfl rfl
abbrev xT (w:World)(a b:Int)(k:Bool):World:=(w.alloc (.cells #[.int .i64 a,.int .i64 b,.bool k] 29)).alloc (.cells #[.int .i64 0,.int .i64 0,.bool false] 29)
structure Lv (w W:World) (a b:Int):Prop where
 s:SW (w.heap.size+1) W [w.heap.size+1] W
 be:Below w.heap.size w W
 x0:W.cell? ⟨w.heap.size,0,none⟩=some (.int .i64 a)
 x1:W.cell? ⟨w.heap.size,1,none⟩=some (.int .i64 b)
theorem aNV (w:World)(a b:Int)(k:Bool):Lv w (xT w a b k) a b:=by
 have f:(xT w a b k).heap[w.heap.size]?=some (cK a b k):=rS (jC _ _);have d:(xT w a b k).heap[w.heap.size+1]?=some (cK 0 0 false):=zC (by simp);exact⟨⟨⟨Nat.le_of_lt (eZ d),Below.refl _ _⟩,fun e g=>by rw[List.mem_singleton.1 g];exact⟨Nat.le_refl _,0,0,false,SpOk.zero,d⟩⟩,((Below.refl _ _).alloc (Nat.le_refl _) _).alloc (by simp) _,bK f rfl,bK f rfl⟩
theorem ePt:iF 11:=xE func11 rfl rfl
abbrev tG (w:World)(e f:Value)(t u:ByteArray)(a b:Int)(k:Bool)(c d:Int)(m:Bool):World:=((w.alloc (.cells #[e,.string t,.int .i64 a,.int .i64 b,.bool k] 31)).alloc (.cells #[f,.string u,.int .i64 c,.int .i64 d,.bool m] 31)).alloc (.cells #[.int .i64 0,.int .i64 0,.bool false] 29)
structure Lw (w W:World) (t u:ByteArray) (a b:Int) (k:Bool) (c d:Int) (m:Bool):Prop where
 s:SW (w.heap.size+2) W [w.heap.size+2] W
 be:Below w.heap.size w W
 x1:W.cell? ⟨w.heap.size,1,none⟩=some (.string t)
 x2:W.cell? ⟨w.heap.size,2,none⟩=some (.int .i64 a)
 x3:W.cell? ⟨w.heap.size,3,none⟩=some (.int .i64 b)
 x4:W.cell? ⟨w.heap.size,4,none⟩=some (.bool k)
 y1:W.cell? ⟨w.heap.size+1,1,none⟩=some (.string u)
 y2:W.cell? ⟨w.heap.size+1,2,none⟩=some (.int .i64 c)
 y3:W.cell? ⟨w.heap.size+1,3,none⟩=some (.int .i64 d)
 y4:W.cell? ⟨w.heap.size+1,4,none⟩=some (.bool m)
theorem Uy (w:World)(f g:Value)(t u:ByteArray)(a b:Int)(k:Bool)(c d:Int)(m:Bool):Lw w (tG w f g t u a b k c d m) t u a b k c d m:=by
 have h:(tG w f g t u a b k c d m).heap[w.heap.size]?=some (.cells #[f,.string t,.int .i64 a,.int .i64 b,.bool k] 31 (0,0)):=rS (rS (jC _ _));have i:(tG w f g t u a b k c d m).heap[w.heap.size+1]?=some (.cells #[g,.string u,.int .i64 c,.int .i64 d,.bool m] 31 (0,0)):=rS (zC (by simp));have j:(tG w f g t u a b k c d m).heap[w.heap.size+2]?=some (cK 0 0 false):=zC (by simp);exact⟨⟨⟨Nat.le_of_lt (eZ j),Below.refl _ _⟩,fun e l=>by rw[List.mem_singleton.1 l];exact⟨Nat.le_refl _,0,0,false,SpOk.zero,j⟩⟩,(((Below.refl _ _).alloc (Nat.le_refl _) _).alloc (by simp) _).alloc (by simp;omega) _,bK h rfl,bK h rfl,bK h rfl,bK h rfl,bK i rfl,bK i rfl,bK i rfl,bK i rfl⟩
theorem aWO (o p:Value)(t u:ByteArray)(lt g:List UInt8)(a b:Int)(k:Bool)(c d:Int)(m:Bool)(n:Int)(w:World)(O:pickI n 4=0)(I:-9223372036854775808<=n)(J:n<=9223372036854775807)(P:eC t lt)(R:eC u g)(L:lt.length<=1000)(M:g.length<=1000)(h:SpOk a b)(H:SpOk c d):
  Calls prog 14 #[Al o t a b k,Al p u c d m,.int .i64 n] w (kL w (40::(lt++[41,32,43,32,40]++g++[41]))):=by
 have q:=aC (fun w=>pB n 4 w I J (by decide) (by decide));rw[O]at q;have T:=aC (Uy w o p t u a b k c d m)
 go_enter func14,ntmps14
 go_wp2_with fail
 refine(q.out _).mono ?_;rintro e Y⟨rfl,rfl⟩
 go_wp2_with fail
 refine qD (B:=w.heap.size+2) (w0:=tG w o p t u a b k c d m) [.mv (.pointer (some ⟨w.heap.size,1,none⟩)),.mv (.string t),.tx ([40]++lt),.tx ([40]++lt++[41,32,43,32,40]),.mv (.pointer (some ⟨w.heap.size+1,1,none⟩)),.mv (.string u),.tx ([40]++lt++[41,32,43,32,40]++g),.tx ([40]++lt++[41,32,43,32,40]++g++[41]),.mv (.pointer (some ⟨w.heap.size,2,none⟩)),.ld 0 0,.mv (.pointer (some ⟨w.heap.size+1,2,none⟩)),.ld 0 0,.ca 23,.tx ([40]++lt++[41,32,43,32,40]++g++[41]),.st 7 (w.heap.size+2)] [w.heap.size+2] T.out.s (by kernel_rfl) (by kernel_rfl) ?_ ?_
 ·intro i hi W X K A N
  match i,hi with
  |0,_=>exact sJ A N 3 rfl rfl (by kernel_rfl) rfl rfl
  |1,_=>exact sM A N 0 rfl rfl rfl (by kernel_rfl) rfl (by omega) T.out.x1
  |2,_=>exact hP A N rfl rfl (fO.c [40]) (fO.m P 1 rfl (by kernel_rfl)) rfl (by simp;omega)
  |3,_=>exact hP A N rfl rfl (fO.t 2 rfl (by kernel_rfl)) (fO.c [41,32,43,32,40]) rfl (by simp;omega)
  |4,_=>exact sJ A N 4 rfl rfl (by kernel_rfl) rfl rfl
  |5,_=>exact sM A N 4 rfl rfl rfl (by kernel_rfl) rfl (by omega) T.out.y1
  |6,_=>exact hP A N rfl rfl (fO.t 3 rfl (by kernel_rfl)) (fO.m R 5 rfl (by kernel_rfl)) rfl (by simp;omega)
  |7,_=>exact hP A N rfl rfl (fO.t 6 rfl (by kernel_rfl)) (fO.c [41]) rfl (by simp;omega)
  |8,_=>exact sK A N 3 rfl rfl (by kernel_rfl) rfl rfl
  |9,_=>exact sL A N 8 rfl rfl rfl (by kernel_rfl) rfl (by omega) h T.out.x2 T.out.x3 T.out.x4
  |10,_=>exact sK A N 4 rfl rfl (by kernel_rfl) rfl rfl
  |11,_=>exact sL A N 10 rfl rfl rfl (by kernel_rfl) rfl (by omega) H T.out.y2 T.out.y3 T.out.y4
  |12,_=>exact cB A N [some 9,some 11] rfl rfl rfl rfl (by kernel_rfl) kI kH
  |13,_=>exact Am A N 7 rfl rfl rfl (by kernel_rfl) rfl
  |14,_=>exact jH A N 7 (w.heap.size+2) 24 12 rfl rfl rfl (by kernel_rfl) rfl (by simp) (by kernel_rfl) (fun _ h=>h)
  |n+15,hi=>exact absurd hi (by simp)
 ·intro U w6 f r;obtain⟨z,S,j⟩:∃z,U 13=.string z/\eC z _:=r 13 _ _ rfl rfl;simp only[cC,dl,List.setIfInBounds_toArray,List.set_cons_zero,List.set_cons_succ,Nat.zero_add,Nat.reduceAdd,S];obtain⟨_,y,C,D,l,x⟩:=f.2 (w.heap.size+2) (by simp);obtain⟨c0,c1,c2⟩:=nS x rfl rfl rfl;have E:=aC (T.out.be.trans (f.1.2.mono (by omega)));have F:=aC j;clear f x r j
  go_wp2_with fail
  refine bodyPost_ret (v:=.tuple #[.string z,sv y C D]) (by simp[results,results14,go_sem,c0,c1,c2]) rfl ?_;exact⟨z,y,C,D,rfl,F.out.to (by simp),l,E.out⟩
theorem aWP (o p:Value)(t u:ByteArray)(lt g:List UInt8)(a b:Int)(k:Bool)(c d:Int)(m:Bool)(n:Int)(w:World)(O:pickI n 4=1)(I:-9223372036854775808<=n)(J:n<=9223372036854775807)(P:eC t lt)(R:eC u g)(L:lt.length<=1000)(M:g.length<=1000)(h:SpOk a b)(H:SpOk c d):
  Calls prog 14 #[Al o t a b k,Al p u c d m,.int .i64 n] w (kL w (40::(lt++[41,32,45,32,40]++g++[41]))):=by
 have q:=aC (fun w=>pB n 4 w I J (by decide) (by decide));rw[O]at q;have T:=aC (Uy w o p t u a b k c d m)
 go_enter func14,ntmps14
 go_wp2_with fail
 refine(q.out _).mono ?_;rintro e Y⟨rfl,rfl⟩
 go_wp2_with fail
 refine qD (B:=w.heap.size+2) (w0:=tG w o p t u a b k c d m) [.mv (.pointer (some ⟨w.heap.size,1,none⟩)),.mv (.string t),.tx ([40]++lt),.tx ([40]++lt++[41,32,45,32,40]),.mv (.pointer (some ⟨w.heap.size+1,1,none⟩)),.mv (.string u),.tx ([40]++lt++[41,32,45,32,40]++g),.tx ([40]++lt++[41,32,45,32,40]++g++[41]),.mv (.pointer (some ⟨w.heap.size,2,none⟩)),.ld 0 0,.mv (.pointer (some ⟨w.heap.size+1,2,none⟩)),.ld 0 0,.ca 25,.ca 23,.tx ([40]++lt++[41,32,45,32,40]++g++[41]),.st 7 (w.heap.size+2)] [w.heap.size+2] T.out.s (by kernel_rfl) (by kernel_rfl) ?_ ?_
 ·intro i hi W X K A N
  match i,hi with
  |0,_=>exact sJ A N 3 rfl rfl (by kernel_rfl) rfl rfl
  |1,_=>exact sM A N 0 rfl rfl rfl (by kernel_rfl) rfl (by omega) T.out.x1
  |2,_=>exact hP A N rfl rfl (fO.c [40]) (fO.m P 1 rfl (by kernel_rfl)) rfl (by simp;omega)
  |3,_=>exact hP A N rfl rfl (fO.t 2 rfl (by kernel_rfl)) (fO.c [41,32,45,32,40]) rfl (by simp;omega)
  |4,_=>exact sJ A N 4 rfl rfl (by kernel_rfl) rfl rfl
  |5,_=>exact sM A N 4 rfl rfl rfl (by kernel_rfl) rfl (by omega) T.out.y1
  |6,_=>exact hP A N rfl rfl (fO.t 3 rfl (by kernel_rfl)) (fO.m R 5 rfl (by kernel_rfl)) rfl (by simp;omega)
  |7,_=>exact hP A N rfl rfl (fO.t 6 rfl (by kernel_rfl)) (fO.c [41]) rfl (by simp;omega)
  |8,_=>exact sK A N 3 rfl rfl (by kernel_rfl) rfl rfl
  |9,_=>exact sL A N 8 rfl rfl rfl (by kernel_rfl) rfl (by omega) h T.out.x2 T.out.x3 T.out.x4
  |10,_=>exact sK A N 4 rfl rfl (by kernel_rfl) rfl rfl
  |11,_=>exact sL A N 10 rfl rfl rfl (by kernel_rfl) rfl (by omega) H T.out.y2 T.out.y3 T.out.y4
  |12,_=>exact cB A N [some 11] rfl rfl rfl rfl (by kernel_rfl) Py Pj
  |13,_=>exact cB A N [some 9,some 12] rfl rfl rfl rfl (by kernel_rfl) kI kH
  |14,_=>exact Am A N 7 rfl rfl rfl (by kernel_rfl) rfl
  |15,_=>exact jH A N 7 (w.heap.size+2) 40 13 rfl rfl rfl (by kernel_rfl) rfl (by simp) (by kernel_rfl) (fun _ h=>h)
  |n+16,hi=>exact absurd hi (by simp)
 ·intro U w6 f r;obtain⟨z,S,j⟩:∃z,U 14=.string z/\eC z _:=r 14 _ _ rfl rfl;simp only[cC,dl,List.setIfInBounds_toArray,List.set_cons_zero,List.set_cons_succ,Nat.zero_add,Nat.reduceAdd,S];obtain⟨_,y,C,D,l,x⟩:=f.2 (w.heap.size+2) (by simp);obtain⟨c0,c1,c2⟩:=nS x rfl rfl rfl;have E:=aC (T.out.be.trans (f.1.2.mono (by omega)));have F:=aC j;clear f x r j
  go_wp2_with fail
  refine bodyPost_ret (v:=.tuple #[.string z,sv y C D]) (by simp[results,results14,go_sem,c0,c1,c2]) rfl ?_;exact⟨z,y,C,D,rfl,F.out.to (by simp),l,E.out⟩
theorem aWQ (o p:Value)(t u:ByteArray)(lt g:List UInt8)(a b:Int)(k:Bool)(c d:Int)(m:Bool)(n:Int)(w:World)(O:pickI n 4=2)(I:-9223372036854775808<=n)(J:n<=9223372036854775807)(P:eC t lt)(R:eC u g)(L:lt.length<=1000)(M:g.length<=1000)(h:SpOk a b)(H:SpOk c d):
  Calls prog 14 #[Al o t a b k,Al p u c d m,.int .i64 n] w (kL w (40::(lt++[41,32,42,32,40]++g++[41]))):=by
 have q:=aC (fun w=>pB n 4 w I J (by decide) (by decide));rw[O]at q;have T:=aC (Uy w o p t u a b k c d m)
 go_enter func14,ntmps14
 go_wp2_with fail
 refine(q.out _).mono ?_;rintro e Y⟨rfl,rfl⟩
 go_wp2_with fail
 refine qD (B:=w.heap.size+2) (w0:=tG w o p t u a b k c d m) [.mv (.pointer (some ⟨w.heap.size,1,none⟩)),.mv (.string t),.tx ([40]++lt),.tx ([40]++lt++[41,32,42,32,40]),.mv (.pointer (some ⟨w.heap.size+1,1,none⟩)),.mv (.string u),.tx ([40]++lt++[41,32,42,32,40]++g),.tx ([40]++lt++[41,32,42,32,40]++g++[41]),.mv (.pointer (some ⟨w.heap.size,2,none⟩)),.ld 0 0,.mv (.pointer (some ⟨w.heap.size+1,2,none⟩)),.ld 0 0,.ca 26,.tx ([40]++lt++[41,32,42,32,40]++g++[41]),.st 7 (w.heap.size+2)] [w.heap.size+2] T.out.s (by kernel_rfl) (by kernel_rfl) ?_ ?_
 ·intro i hi W X K A N
  match i,hi with
  |0,_=>exact sJ A N 3 rfl rfl (by kernel_rfl) rfl rfl
  |1,_=>exact sM A N 0 rfl rfl rfl (by kernel_rfl) rfl (by omega) T.out.x1
  |2,_=>exact hP A N rfl rfl (fO.c [40]) (fO.m P 1 rfl (by kernel_rfl)) rfl (by simp;omega)
  |3,_=>exact hP A N rfl rfl (fO.t 2 rfl (by kernel_rfl)) (fO.c [41,32,42,32,40]) rfl (by simp;omega)
  |4,_=>exact sJ A N 4 rfl rfl (by kernel_rfl) rfl rfl
  |5,_=>exact sM A N 4 rfl rfl rfl (by kernel_rfl) rfl (by omega) T.out.y1
  |6,_=>exact hP A N rfl rfl (fO.t 3 rfl (by kernel_rfl)) (fO.m R 5 rfl (by kernel_rfl)) rfl (by simp;omega)
  |7,_=>exact hP A N rfl rfl (fO.t 6 rfl (by kernel_rfl)) (fO.c [41]) rfl (by simp;omega)
  |8,_=>exact sK A N 3 rfl rfl (by kernel_rfl) rfl rfl
  |9,_=>exact sL A N 8 rfl rfl rfl (by kernel_rfl) rfl (by omega) h T.out.x2 T.out.x3 T.out.x4
  |10,_=>exact sK A N 4 rfl rfl (by kernel_rfl) rfl rfl
  |11,_=>exact sL A N 10 rfl rfl rfl (by kernel_rfl) rfl (by omega) H T.out.y2 T.out.y3 T.out.y4
  |12,_=>exact cB A N [some 9,some 11] rfl rfl rfl rfl (by kernel_rfl) qM qL
  |13,_=>exact Am A N 7 rfl rfl rfl (by kernel_rfl) rfl
  |14,_=>exact jH A N 7 (w.heap.size+2) 55 12 rfl rfl rfl (by kernel_rfl) rfl (by simp) (by kernel_rfl) (fun _ h=>h)
  |n+15,hi=>exact absurd hi (by simp)
 ·intro U w6 f r;obtain⟨z,S,j⟩:∃z,U 13=.string z/\eC z _:=r 13 _ _ rfl rfl;simp only[cC,dl,List.setIfInBounds_toArray,List.set_cons_zero,List.set_cons_succ,Nat.zero_add,Nat.reduceAdd,S];obtain⟨_,y,C,D,l,x⟩:=f.2 (w.heap.size+2) (by simp);obtain⟨c0,c1,c2⟩:=nS x rfl rfl rfl;have E:=aC (T.out.be.trans (f.1.2.mono (by omega)));have F:=aC j;clear f x r j
  go_wp2_with fail
  refine bodyPost_ret (v:=.tuple #[.string z,sv y C D]) (by simp[results,results14,go_sem,c0,c1,c2]) rfl ?_;exact⟨z,y,C,D,rfl,F.out.to (by simp),l,E.out⟩
theorem aWR (o p:Value)(t u:ByteArray)(lt g:List UInt8)(a b:Int)(k:Bool)(c d:Int)(m:Bool)(n:Int)(w:World)(O:pickI n 4=3)(I:-9223372036854775808<=n)(J:n<=9223372036854775807)(P:eC t lt)(R:eC u g)(L:lt.length<=1000)(M:g.length<=1000)(h:SpOk a b)(H:SpOk c d):
  Calls prog 14 #[Al o t a b k,Al p u c d m,.int .i64 n] w (kL w (40::(lt++[41,32,47,32,40]++g++[41]))):=by
 have q:=aC (fun w=>pB n 4 w I J (by decide) (by decide));rw[O]at q;have T:=aC (Uy w o p t u a b k c d m)
 go_enter func14,ntmps14
 go_wp2_with fail
 refine(q.out _).mono ?_;rintro e Y⟨rfl,rfl⟩
 go_wp2_with fail
 refine qD (B:=w.heap.size+2) (w0:=tG w o p t u a b k c d m) [.mv (.pointer (some ⟨w.heap.size,1,none⟩)),.mv (.string t),.tx ([40]++lt),.tx ([40]++lt++[41,32,47,32,40]),.mv (.pointer (some ⟨w.heap.size+1,1,none⟩)),.mv (.string u),.tx ([40]++lt++[41,32,47,32,40]++g),.tx ([40]++lt++[41,32,47,32,40]++g++[41]),.mv (.pointer (some ⟨w.heap.size,2,none⟩)),.ld 0 0,.mv (.pointer (some ⟨w.heap.size+1,2,none⟩)),.ld 0 0,.ca 24,.ca 26,.tx ([40]++lt++[41,32,47,32,40]++g++[41]),.st 7 (w.heap.size+2)] [w.heap.size+2] T.out.s (by kernel_rfl) (by kernel_rfl) ?_ ?_
 ·intro i hi W X K A N
  match i,hi with
  |0,_=>exact sJ A N 3 rfl rfl (by kernel_rfl) rfl rfl
  |1,_=>exact sM A N 0 rfl rfl rfl (by kernel_rfl) rfl (by omega) T.out.x1
  |2,_=>exact hP A N rfl rfl (fO.c [40]) (fO.m P 1 rfl (by kernel_rfl)) rfl (by simp;omega)
  |3,_=>exact hP A N rfl rfl (fO.t 2 rfl (by kernel_rfl)) (fO.c [41,32,47,32,40]) rfl (by simp;omega)
  |4,_=>exact sJ A N 4 rfl rfl (by kernel_rfl) rfl rfl
  |5,_=>exact sM A N 4 rfl rfl rfl (by kernel_rfl) rfl (by omega) T.out.y1
  |6,_=>exact hP A N rfl rfl (fO.t 3 rfl (by kernel_rfl)) (fO.m R 5 rfl (by kernel_rfl)) rfl (by simp;omega)
  |7,_=>exact hP A N rfl rfl (fO.t 6 rfl (by kernel_rfl)) (fO.c [41]) rfl (by simp;omega)
  |8,_=>exact sK A N 3 rfl rfl (by kernel_rfl) rfl rfl
  |9,_=>exact sL A N 8 rfl rfl rfl (by kernel_rfl) rfl (by omega) h T.out.x2 T.out.x3 T.out.x4
  |10,_=>exact sK A N 4 rfl rfl (by kernel_rfl) rfl rfl
  |11,_=>exact sL A N 10 rfl rfl rfl (by kernel_rfl) rfl (by omega) H T.out.y2 T.out.y3 T.out.y4
  |12,_=>exact cB A N [some 11] rfl rfl rfl rfl (by kernel_rfl) pU pQ
  |13,_=>exact cB A N [some 9,some 12] rfl rfl rfl rfl (by kernel_rfl) qM qL
  |14,_=>exact Am A N 7 rfl rfl rfl (by kernel_rfl) rfl
  |15,_=>exact jH A N 7 (w.heap.size+2) 69 13 rfl rfl rfl (by kernel_rfl) rfl (by simp) (by kernel_rfl) (fun _ h=>h)
  |n+16,hi=>exact absurd hi (by simp)
 ·intro U w6 f r;obtain⟨z,S,j⟩:∃z,U 14=.string z/\eC z _:=r 14 _ _ rfl rfl;simp only[cC,dl,List.setIfInBounds_toArray,List.set_cons_zero,List.set_cons_succ,Nat.zero_add,Nat.reduceAdd,S];obtain⟨_,y,C,D,l,x⟩:=f.2 (w.heap.size+2) (by simp);obtain⟨c0,c1,c2⟩:=nS x rfl rfl rfl;have E:=aC (T.out.be.trans (f.1.2.mono (by omega)));have F:=aC j;clear f x r j
  go_wp2_with fail
  refine bodyPost_ret (v:=.tuple #[.string z,sv y C D]) (by simp[results,results14,go_sem,c0,c1,c2]) rfl ?_;exact⟨z,y,C,D,rfl,F.out.to (by simp),l,E.out⟩
theorem aTe (j l:Value)(t u:ByteArray)(lt i:List UInt8)(a b:Int)(k:Bool)(c d:Int)(m:Bool)(n:Int)(w:World)(p:-9223372036854775808<=n)(q:n<=9223372036854775807)(r:eC t lt)(v:eC u i)(f:lt.length<=1000)(g:i.length<=1000)(h:SpOk a b)(o:SpOk c d):
  Calls prog 14 #[Al j t a b k,Al l u c d m,.int .i64 n] w fun e z=>∃s:UInt8,(s=43\/s=45\/s=42\/s=47)/\kL w (40::(lt++[41,32,s,32,40]++i++[41])) e z:=by
 have y:=tJ n 4 (by decide)
 have hc:pickI n 4=0\/pickI n 4=1\/pickI n 4=2\/pickI n 4=3:=by omega
 rcases hc with hn|hn|hn|hn
 ·exact(aWO j l t u lt i a b k c d m n w hn p q r v f g h o).mono (fun _ _ x=>⟨43,Or.inl rfl,x⟩)
 ·exact(aWP j l t u lt i a b k c d m n w hn p q r v f g h o).mono (fun _ _ x=>⟨45,Or.inr (Or.inl rfl),x⟩)
 ·exact(aWQ j l t u lt i a b k c d m n w hn p q r v f g h o).mono (fun _ _ x=>⟨42,Or.inr (Or.inr (Or.inl rfl)),x⟩)
 ·exact(aWR j l t u lt i a b k c d m n w hn p q r v f g h o).mono (fun _ _ x=>⟨47,Or.inr (Or.inr (Or.inr rfl)),x⟩)
open Go.Deep (BT)
def oY (w a:World):Prop:=∀(k:Nat) (b:Array Value) (T:TypeId),w.heap[k]?=some (.cells b T (0,0))->T≠36->T≠31->a.heap[k]?=w.heap[k]?
theorem oY.trans {a b c:World}(h:oY a b)(k:oY b c):oY a c:=fun i g T e d f=>(k i g T ((h i g T e d f).trans e) d f).trans (h i g T e d f)
theorem oY.eH (h:Below n.heap.size n b):oY n b:=fun k _ _ e _ _=>h.block k (eZ e)
theorem oY.aPH {row:Option Nat}(h:n.grownBy b row)(o:∀g,row=some g->∃d T,n.heap[g]?=some (.cells d T (0,0))/\(T=36\/T=31)):oY n b:=by
 intro k d T e f i;refine h.block k (eZ e) ?_;intro l;obtain⟨p,U,a,j⟩:=o k l.symm;rw[e]at a;simp only[Option.some.injEq,Obj.cells.injEq]at a;obtain⟨_,rfl,_⟩:=a
 rcases j with h|h
 ·exact f h
 ·exact i h
theorem oY.aVh {b o:Nat}{f:Array Value}(h:n.heap[b]?=some (.cells f 36 (0,0)))(u:Value):oY n (n.setCell ⟨b,o,none⟩ u):=by
 intro k g T e d _;refine Below.heap_setCell _ _ _ _ ?_;intro a;simp only at a;subst a;rw[h]at e;simp only[Option.some.injEq,Obj.cells.injEq]at e;exact d e.2.1.symm
variable {z:Value}
theorem cZ.oth {w:Nat}{ts:List Int}(h:cZ w n ts z)(j:oY n b):cZ w b ts z:=by
 rcases h with h|⟨tb,a,d,f,g,e,i⟩
 ·exact Or.inl h
 ·exact Or.inr ⟨tb,a,d,f,g,by rw[j tb _ _ e (by decide) (by decide)];exact e,i⟩
theorem fX.oth {w:Nat}{n i:World}(g:oY n i):∀{t:Rd.Tr} {v:Value},fX w n t v->fX w i t v:=by
 intro t
 induction t with
 |nil=>intro v h;exact h
 |node _ _ a l r d e=>
  intro v h;obtain⟨b,x,s,u,j,k,f,o,p,q⟩:=h;exact⟨b,x,s,u,j,k,by rw[g b _ _ f (by decide) (by decide)];exact f,o.oth g,d p,e q⟩
theorem gM.oth {w:Nat}{n e:World}{t:Rd.Tr}{z:Value}(h:gM w n (some t) z)(d:oY n e):gM w e (some t) z:=by
 obtain⟨o,f,p,g,i,j,a,⟨b,k⟩,l⟩:=h;exact⟨o,f,p,g,i,j,by rw[d f _ _ a (by decide) (by decide)];exact a,⟨b,k⟩,fX.oth d l⟩
theorem gM.zero {w:Nat}{t:Rd.Tr}(h:gM w n (some t) z):gM 0 n (some t) z:=by
 obtain⟨d,f,e,a,g,i,b⟩:=h;exact⟨d,f,e,a,Nat.zero_le _,Nat.zero_le _,b⟩
theorem eC.same {b:ByteArray}(h:eC a A)(k:eC b A):a=b:=by
 have d:=h.eq;rw[<-k.eq]at d;cases a;cases b;simp only[ByteArray.mk.injEq];exact Array.toList_inj.1 d
abbrev It:=Nat×ByteArray×Int×Int×Bool
structure ItOk (p:It):Prop where
 txt:∃c,Rd.Good c/\Rd.toks p.2.1.data.toList=Rd.tw c
 len:p.2.1.size<=120
 sp:SpOk p.2.2.1 p.2.2.2.1
def dE:List It->List Value
 | []=>[]
 |p::r=>.pointer (some ⟨p.1,0,none⟩)::.string p.2.1::.int .i64 p.2.2.1::.int .i64 p.2.2.2.1::.bool p.2.2.2.2::dE r
theorem aG3 (a b:List It):dE (a++b)=dE a++dE b:=by
 induction a with
 |nil=>rfl
 |cons x r d=>simp[dE,d]
theorem aIc:∀(a:List It) (n:Nat) (h:n<a.length),(dE a)[n*5]?=some (.pointer (some ⟨a[n].1,0,none⟩))/\(dE a)[n*5+1]?=some (.string a[n].2.1)/\(dE a)[n*5+2]?=some (.int .i64 a[n].2.2.1)/\(dE a)[n*5+3]?=some (.int .i64 a[n].2.2.2.1)/\(dE a)[n*5+4]?=some (.bool a[n].2.2.2.2):=by
 intro a
 induction a with
 |nil=>intro n h;simp at h
 |cons x r b=>
  intro n h
  cases n with
  |zero=>simp[dE]
  |succ n=>
   have:=b n (by simpa using h)
   simpa[dE,Nat.add_mul]using this
def iO (w:World)(b:Nat):Prop:=∃T:Rd.Tr,Rd.Wf T/\Rd.lY T<=40/\gM 0 w (some T) (.pointer (some ⟨b,0,none⟩))
theorem iO.oth {n a:World}{b:Nat}(h:iO n b)(g:oY n a):iO a b:=by
 obtain⟨T,d,e,f⟩:=h;exact⟨T,d,e,f.oth g⟩
structure KInv (w0 w:World) (wb:Nat) (ps:List It):Prop where
 cD:∃v,w.heap[wb]?=some (.cells #[v] 36 (0,0))/\w.ownsRow w0.heap.size 31 5 v ps.length (dE ps)
 lo:w0.heap.size<=wb
 all:∀p∈ps,ItOk p
 zK:Below w0.heap.size w0 w
 ex:∀p∈ps,iO w p.1
theorem KInv.below {D:World}{b:Nat}{e:List It}(h:KInv n w b e)(a:Below w.heap.size w D):KInv n D b e:=by
 obtain⟨v,d,f⟩:=h.cD;refine⟨⟨v,by rw[a.block b (eZ d)];exact d,?_⟩,h.lo,h.all,h.zK.trans (a.mono h.zK.size),fun p i=>(h.ex p i).oth (oY.eH a)⟩;exact f.kept (row:=none) ⟨a.os,a.tape,a.output,a.size,fun k g _=>a.block k g⟩ (by cases v.ownBlock<;>simp)
variable {w:Nat}
theorem KInv.tab {d:List It}(h:KInv n b w d)(a:oU n):oU b:=Lib.tabBelow_of_tabIs a b h.zK
theorem Aj:(prog.info? 31).map (fun i=>(i.zero,i.size,i.bytes))=some (some (.agg #[.pointer none,.string ⟨#[]⟩,.int .i64 0,.int .i64 0,.bool false]),5,48):=by kernel_rfl
theorem aGQ (w:World)(x y z u v:Value)(t:TypeId):∀j q,[x,y,z,u,v][j]?=some q->(w.alloc (.cells #[x,y,z,u,v] t)).cell? ((⟨w.heap.size,0,none⟩:Addr).add j)=some q:=by
 intro j q a
 match j,a with
 |0,a=>simp at a;subst a;simp[Addr.add]
 |1,a=>simp at a;subst a;simp[Addr.add]
 |2,a=>simp at a;subst a;simp[Addr.add]
 |3,a=>simp at a;subst a;simp[Addr.add]
 |4,a=>simp at a;subst a;simp[Addr.add]
variable {i:List Value}
theorem aGt {e size W:Nat}(h:n.ownsRow w e size z W i):∃a ln cp,z=.slice a ln cp:=by
 rcases h.2 with⟨h,_⟩|⟨g,b,d,h,_⟩
 ·exact⟨_,_,_,h⟩
 ·exact⟨_,_,_,h⟩
theorem Zw (b:n.ownsRow w 31 5 z k i):∀g,z.ownBlock=some g->∃i T,n.heap[g]?=some (.cells i T (0,0))/\T=31:=by
 intro g a
 rcases b.2 with⟨e,_⟩|⟨j,f,d,e,_,h,_⟩
 ·rw[e]at a;cases a
 ·rw[e]at a;simp only[Value.ownBlock,Option.some.injEq]at a;subst a;exact⟨d,_,h,rfl⟩
theorem aN1 {p:Nat}{o:Obj}
  (a:n.heap[w]?=some (.cells #[z] 36 (0,0))) (d:n.ownsRow k 31 5 z p i) (h:(n.alloc o).grownBy b z.ownBlock):
  b.heap[w]?=some (.cells #[z] 36 (0,0)):=by
 rw[h.block w (by simp;have:=eZ a;omega) ?_]
 ·rw[Below.heap_alloc _ _ _ (eZ a)];exact a
 ·intro e;obtain⟨i,T,f,g⟩:=Zw d w e.symm;rw[a]at f;simp only[Option.some.injEq,Obj.cells.injEq]at f;have:=f.2.1.trans g;exact absurd this (by decide)
theorem KInv.push {D:World}{l:List It}(h:KInv n b w l){f:Value}{p:It}{o:Obj}
  (s:b.heap[w]?=some (.cells #[z] 36 (0,0))) (d:b.ownsRow n.heap.size 31 5 z l.length (dE l)) (M:ItOk p) (H:iO b p.1)
  (i:D.ownsRow n.heap.size 31 5 f (l.length+1) (dE l++[.pointer (some ⟨p.1,0,none⟩),.string p.2.1,.int .i64 p.2.2.1,.int .i64 p.2.2.2.1,.bool p.2.2.2.2])) (C:(b.alloc o).grownBy D z.ownBlock):
  KInv n (D.setCell ⟨w,0,none⟩ f) w (l++[p])/\oY b (D.setCell ⟨w,0,none⟩ f):=by
 have x:=Zw d;have L:=(Below.refl b.heap.size b).alloc (Nat.le_refl _) o
 have u:oY b D:=(oY.eH L).trans (oY.aPH C (fun g F=>by
  obtain⟨N,T,e,J⟩:=x g F
  exact⟨N,T,by rw[Below.heap_alloc _ _ _ (eZ e)];exact e,Or.inr J⟩))
 have k:=aN1 s d C;have a:oY b (D.setCell ⟨w,0,none⟩ f):=u.trans (oY.aVh k f);have j:Below n.heap.size n D:=Cw d h.zK h.zK.size o C;refine⟨⟨⟨f,by rw[rU k];rfl,?_⟩,h.lo,?_,j.setCell h.lo _,?_⟩,a⟩
 ·rw[List.length_append,aG3];refine⟨i.1,?_⟩
  rcases i.2 with e|⟨g,A,B,e,E,y,r⟩
  ·exact Or.inl e
  ·refine Or.inr ⟨g,A,B,e,E,?_,r⟩;rw[Below.heap_setCell]
   ·exact y
   ·simp only;intro I;subst I;rw[k]at y;simp only[Option.some.injEq,Obj.cells.injEq]at y;exact absurd y.2.1 (by decide)
 ·intro q hq
  rcases List.mem_append.1 hq with hq|hq
  ·exact h.all q hq
  ·rw[List.mem_singleton.1 hq];exact M
 ·intro q hq
  rcases List.mem_append.1 hq with hq|hq
  ·exact(h.ex q hq).oth a
  ·rw[List.mem_singleton.1 hq];exact H.oth a
def iY (d:World)(f:Nat)(n:Nat)(e:Ending)(b:World):Prop:=e=.returned (.bool true)/\∃a,KInv d b f a/\a.length<=n+1
end Go.Proofs.YtkmojpfpfoaloaaGreatDoor
