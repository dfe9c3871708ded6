import Derived.Test.YthhffdeihoofiaaGreatDoorCFu11
import Derived.Test.YthhffdeihoofiaaGreatDoorCFu04
import Derived.Test.YthhffdeihoofiaaGreatDoorCFu02
import Derived.Test.YthhffdeihoofiaaGreatDoorProg
import Derived.Test.YthhffdeihoofiaaGreatDoorCFu06
import Derived.Test.YthhffdeihoofiaaGreatDoorCFu10
import Derived.Shelf.LaysM
import Derived.Shelf.Strconv.Itoa3
import Derived.Lib.AppendIntMem
import Derived.BigQuiet
import Derived.Deep.RegionHeld3
set_option linter.all false
set_option maxRecDepth 100000
set_option maxHeartbeats 2000000
namespace Go.Proofs.YthhffdeihoofiaaGreatDoor
open Go.Proofs.Tryz
open Go.RowKit
open Ab
open Rf (Wt dU)
variable {w:World}
theorem aKX {rb nb:Nat}{a b c d:Int}(h:kG w rb nb [a,b,c,d]):∃x1 x2 x3 x4 e f g i,w.heap[rb]?=some (.cells #[ptrB nb,x1,x2,x3,x4,e,f,g,i] 78 (0,0))/\aU true w [a,b,c,d] [x1,x2,x3,x4,e,f,g,i]:=by
 obtain⟨o,k,j⟩:=h;have l:=Gb _ _ j
 match o,l with
 | [x1,x2,x3,x4,e,f,g,i],_=>exact⟨x1,x2,x3,x4,e,f,g,i,k,j⟩
def uU (u:Wt)(c:Nat)(w:World)(n:Int)(b0 nb fb rb mb d:Nat)(ans:Option Int)(dn:Value)(wr:World):Prop:=
 ∃(own:Nat->Option Own) (s:Rf.St) (r:Nat) (a1 b1 c1 d1:Int) (a:Option Addr) (ln cp:Nat),dn=.bool (oF a1 b1 c1 d1 n)/\Run u c wr b0 nb fb own s d r/\kG wr rb nb [a1,b1,c1,d1]/\own rb=none/\own mb=none/\wr.heap[mb]?=some (.cells #[.bool (decide (fU a1 b1 c1 d1 n<0)),.slice a ln cp] 56 (0,0))/\aU true wr [fU a1 b1 c1 d1 n] [.bool (decide (fU a1 b1 c1 d1 n<0)),.slice a ln cp]/\wr.heap[w.heap.size]?=some (.cells #[.bool false,.slice none 0 0] 56 (0,0))/\(∀x∈[a1,b1,c1,d1],x.natAbs<2^(2*r+1))/\On Z.bt w wr/\(∀j,j<w.heap.size->wr.heap[j]?=w.heap[j]?)/\ans=mI (dU u) n d (3002-r) s r a1 b1 c1 d1
def Hw (w:World)(a:Option Int)(e:Ending)(f:World):Prop:=Chg w f []/\match a with
 |none=>e=.returned (.tuple #[.agg #[.bool false,.slice none 0 0],.int .i64 6])
 |some m=>∃b ln cp,e=.returned (.tuple #[.agg #[.bool (decide (m<0)),.slice b ln cp],.int .i64 0])/\aU true f [m] [.bool (decide (m<0)),.slice b ln cp]/\RB 20000 m
def Yk (wr:World)(nb:Nat):Nat:=match wr.cell? ⟨nb,1,none⟩with
 |some (.int _ r)=>r.toNat
 |_=>0
variable {r:Nat}
theorem aOu {t:Wt}{c0:Nat}{b0 nb fb:Nat}{own:Nat->Option Own}{s:Rf.St}{top:Nat}(h:Run t c0 w b0 nb fb own s top r):Yk w nb=r:=by
 obtain⟨at1,b,c,n,a,_⟩:=h;unfold Go.Proofs.YthhffdeihoofiaaGreatDoor.Yk;rw[bH (o:=1) a.bV rfl];rfl
theorem xE.pR {n b:World}{s:Nat}{p q x Y:Value}(h:xE n b s p q)(k:n.heap[s]?=some (.cells #[x,Y] 56 (0,0))):Chg n b [s]:=by
 have a:=h.below 0 n (Below.refl _ _) (Nat.zero_le _);refine⟨⟨a.os,a.tape,a.output,a.size,fun j o f=>?_⟩,fun j f g=>h.oth j (by simpa using g)⟩
 by_cases e:j=s
 ·subst e;rw[k]at f;cases f;refine Or.inr ⟨(show Ja.contains 56=true by decide),?_⟩;unfold World.shape?;rw[h.bV,k];rfl
 ·exact Or.inl (by rw[h.oth j e];exact f)
section
variable {u:Wt} {c:Nat} {w w0 w1 w2 wr:World} {n:Int} {b0 nb fb rb mb d:Nat} {ans:Option Int}{f:Option Addr}{ln:Nat}
theorem aMV {own:Nat->Option Own}{ns:List Rf.Nd}{cp:Nat}{p:Nat}(A:n=p)(l:w0=w.alloc (.cells #[.bool false,.slice none 0 0] 56))(c1:Chg w0 w1 [])(s:Run u c w1 b0 nb fb own ⟨ns,c⟩ d 0)(i:own rb=none)(b:kG w1 rb nb [1,0,0,1])(v:Below w1.heap.size w1 w2)(y:aU true w2 [fU 1 0 0 1 n] [.bool (decide (fU 1 0 0 1 n<0)),.slice f ln cp])(h:Rf.of u []=some (ns,d)):
  uU u c w n b0 nb fb rb w2.heap.size d (decT u p c) (.bool (oF 1 0 0 1 n)) (w2.alloc (.cells #[.bool (decide (fU 1 0 0 1 n<0)),.slice f ln cp] 56)):=by
 have c2:Chg w1 w2 []:=Chg.eF v;have c3:Chg w2 (w2.alloc (.cells #[.bool (decide (fU 1 0 0 1 n<0)),.slice f ln cp] 56)) []:=Chg.alloc _ _
 have ca:Chg w w0 []:=by rw[l];exact Chg.alloc _ _
 have a:=c2.trans c3;have k:=ca.trans (c1.trans a);obtain⟨e,g,q,r⟩:=(s.still c2).cut;refine⟨e,⟨ns,c⟩,0,1,0,0,1,f,ln,cp,rfl,g.still c3,b.aS a.on (a.low rb b.lt (by simp)),?_,r _ (Nat.le_refl _),kO _ _,mC c3.on y,?_,?_,k.on,fun j z=>k.low j z (by simp),?_⟩
 ·rw[q rb (Nat.lt_of_lt_of_le b.lt c2.on.size)];exact i
 ·exact(c1.trans a).at (by rw[l];exact kO _ _) (by simp)
 ·intro x o;simp at o
  rcases o with rfl|rfl|rfl|rfl<;>decide
 ·unfold decT;rw[h,Option.bind_some,A]
variable {s:Rf.St}{a1 b1 d1:Int}{U:World}
theorem aSy {own:Nat->Option Own}{c1:Int}{cp:Nat}(l:oF a1 b1 c1 d1 n=true)(p:r<=3000)(hv:RB 20000 (fU a1 b1 c1 d1 n))(o:aU true wr [fU a1 b1 c1 d1 n] [.bool (decide (fU a1 b1 c1 d1 n<0)),.slice f ln cp])(h:wr.heap[w.heap.size]?=some (.cells #[.bool false,.slice none 0 0] 56 (0,0)))(b:On Z.bt w wr)(a:∀j,j<w.heap.size->wr.heap[j]?=w.heap[j]?)(k:xE wr U w.heap.size (.bool (decide (fU a1 b1 c1 d1 n<0))) (.slice f ln cp)):
  Hw w (mI (dU u) n d (3002-r) s r a1 b1 c1 d1) (.returned (.tuple #[.agg #[.bool (decide (fU a1 b1 c1 d1 n<0)),.slice f ln cp],.int .i64 0])) U:=by
 have e:3002-r=(3001-r)+1:=by omega
 have g:=k.pR h;rw[e,mI,if_pos l];exact⟨⟨b.trans g.on,fun j i _=>by rw[g.low j (Nat.lt_of_lt_of_le i b.size) (by simp;omega),a j i]⟩,f,ln,cp,rfl,mC g.on o,hv⟩
theorem aSA {own:Nat->Option Own}{c1:Int}{f:World}{e:Ending}(p:oF a1 b1 c1 d1 n=false)(h:∃l,Rf.sym (dU u) s d r=some (l,none))(q:r<=3000)(g:f.heap[w.heap.size]?=some (.cells #[.bool false,.slice none 0 0] 56 (0,0)))(b:On Z.bt w f)(a:∀j,j<w.heap.size->f.heap[j]?=w.heap[j]?)(o:xE f U w.heap.size (.bool false) (.slice none 0 0)):
  Hw w (mI (dU u) n d (3002-r) s r a1 b1 c1 d1) (.returned (.tuple #[.agg #[.bool false,.slice none 0 0],.int .i64 6])) U:=by
 have e:3002-r=(3001-r)+1:=by omega
 have i:=o.pR g;obtain⟨l,h⟩:=h;rw[e,mI,if_neg (by rw[p];decide),h];exact⟨⟨b.trans i.on,fun j k _=>by rw[i.low j (Nat.lt_of_lt_of_le k b.size) (by simp;omega),a j k]⟩,rfl⟩
theorem aPB {own:Nat->Option Own}{c1:Int}{w5:World}{e:Ending}{cs:Array Value}(S:Run u c wr b0 nb fb own s d r)(E:kG wr rb nb [a1,b1,c1,d1])(O:own rb=none)(x:own mb=none)(f:wr.heap[mb]?=some (.cells cs 56 (0,0)))(g:wr.heap[w.heap.size]?=some (.cells #[.bool false,.slice none 0 0] 56 (0,0)))(y:On Z.bt w wr)(q:∀j,j<w.heap.size->wr.heap[j]?=w.heap[j]?)(N:w.heap.size<b0)(aa:w.heap.size<=rb)(X:Fk u c wr b0 nb fb rb own s d r a1 b1 c1 d1 e w5):
  On Z.bt w w5/\(∀j,j<w.heap.size->w5.heap[j]?=w.heap[j]?)/\w5.heap[w.heap.size]?=some (.cells #[.bool false,.slice none 0 0] 56 (0,0))/\((e=.returned (.bool false)/\∃o,Rf.sym (dU u) s d r=some (o,none))\/∃o z a,e=.returned (.bool true)/\Rf.sym (dU u) s d r=some (o,some z)/\Run u c w5 b0 nb fb a o d (r+1)/\kG w5 rb nb (withZ z a1 b1 c1 d1)/\a rb=none/\a mb=none/\w5.heap[mb]?=some (.cells cs 56 (0,0))):=by
 obtain⟨C,b,H⟩:=X;obtain⟨ag,Ye,ah,J,ai,aj⟩:=S.low;obtain⟨⟨ys,v⟩,⟨fs,p⟩⟩:=S.bV;obtain⟨xs,D,_⟩:=id E
 have l:∀{k P:Nat} {A B:Array Value} {T L:TypeId},wr.heap[k]?=some (.cells A T (0,0))->wr.heap[P]?=some (.cells B L (0,0))->T≠L->k≠P:=by
  intro k P A B T L W R ht e;subst e;rw[W]at R;exact ht (Obj.cells.inj (Option.some.inj R)).2.1
 have kc:=b _ (gE g) (J _ N) (l g p (by decide)) (l g v (by decide)) (l g D (by decide));have km:=b _ (gE f) x (l f p (by decide)) (l f v (by decide)) (l f D (by decide));refine⟨y.trans C,fun j U=>?_,by rw[kc];exact g,?_⟩
 ·have I:j≠rb:=by omega
  rw[b j (Nat.lt_of_lt_of_le U y.size) (J j (by omega)) (by omega) (by omega) I,q j U]
 ·rcases H with h|⟨o,z,a,Y,hs,M,F,i⟩
  ·exact Or.inl h
  ·exact Or.inr ⟨o,z,a,Y,hs,M,F,i rb E.lt O,i mb (gE f) x,by rw[km];exact f⟩
theorem aPA {own:Nat->Option Own}{L:Rf.St}{v c1 R b2 c2 d2:Int}{a w6:World}{x g:Value}{ao:Option Addr}{cp:Nat}(I:withZ v a1 b1 c1 d1=[R,b2,c2,d2])(Y:oF a1 b1 c1 d1 n=false)(hs:Rf.sym (dU u) s d r=some (L,some v))(hr:r<=3000)(i:∀x∈[a1,b1,c1,d1],x.natAbs<2^(2*r+1))(W:Run u c a b0 nb fb own L d (r+1))(k:kG a rb nb [R,b2,c2,d2])(D:own rb=none)(E:own mb=none)(q:a.heap[mb]?=some (.cells #[x,g] 56 (0,0)))(F:a.heap[w.heap.size]?=some (.cells #[.bool false,.slice none 0 0] 56 (0,0)))(C:mb≠w.heap.size)(ab:w.heap.size<=mb)(A:On Z.bt w a)(p:∀j,j<w.heap.size->a.heap[j]?=w.heap[j]?)(o:ans=mI (dU u) n d (3002-r) s r a1 b1 c1 d1)(X:Below a.heap.size a w6)(hh:aU true w6 [fU R b2 c2 d2 n] [.bool (decide (fU R b2 c2 d2 n<0)),.slice ao ln cp])(B:xE w6 U mb (.bool (decide (fU R b2 c2 d2 n<0))) (.slice ao ln cp)):
  uU u c w n b0 nb fb rb mb d ans (.bool (oF R b2 c2 d2 n)) U/\4000-Yk U nb<4000-r:=by
 have f:Chg a w6 []:=Chg.eF X;have b:=f.at q (by simp);have l:=B.pR b;have h:=(W.still f).aside l ⟨_,b⟩ (by decide) (by decide);have e:=k.aS f.on (f.low rb k.lt (by simp))
 have H:rb≠mb:=by
  rintro rfl;obtain⟨xs,M,_⟩:=k;rw[q]at M;exact absurd (Obj.cells.inj (Option.some.inj M)).2.1 (by decide)
 have J:=(A.trans f.on).trans l.on;have hf:=h.few;refine⟨⟨own,L,r+1,R,b2,c2,d2,ao,ln,cp,rfl,h,e.aS l.on (l.low rb e.lt (by simpa using H)),D,E,B.bV,mC l.on hh,?_,?_,J,fun j N=>?_,?_⟩,?_⟩
 ·rw[B.oth _ (Ne.symm C)];exact f.at F (by simp)
 ·rw[<-I];exact aGC i
 ·rw[B.oth j (by omega),f.low j (Nat.lt_of_lt_of_le N A.size) (by simp),p j N]
 ·rw[o,show 3002-r=(3001-r)+1 by omega,mI,if_neg (by rw[Y];decide),hs];simp only[withZ,List.cons.injEq,and_true]at I;obtain⟨O,P,S,T⟩:=I;simp only[O,P,S,T];rw[show 3002-(r+1)=3001-r by omega]
 ·rw[aOu h];omega
end
theorem aLy (w:World)(u:Wt)(pb n c:Nat)(be:u.Ok)(hp:aJ w u (.pointer (some ⟨pb,0,none⟩)))(hn:n<=60)(hc:c<=3000):Calls prog 17 #[.pointer (some ⟨pb,0,none⟩),.int .i64 (n:Int),.int .i64 (c:Int)] w (Hw w (decT u n c)):=by
 have c0:Chg w (w.alloc (.cells #[.bool false,.slice none 0 0] 56)) []:=Chg.alloc _ _;have NR:=hid (aHg (w:=w.alloc (.cells #[.bool false,.slice none 0 0] 56)) (t:=u) be (aJ.aS c0.on _ _ hp) hc);clear hp c0
 go_enter func17,ntmps17
 go_wp2_with fail
 refine(NR.out).mono ?_;rintro e w1⟨ns,d,own,nb,fb,rb,b0,am,rfl,R,a9,hR,bg,bh,X⟩;obtain⟨x1,x2,x3,x4,x5,x6,x7,x8,a,hh⟩:=aKX X;have k1:=bH (o:=1) a rfl;have k2:=bH (o:=2) a rfl;have k3:=bH (o:=3) a rfl;have k4:=bH (o:=4) a rfl;have k5:=bH (o:=5) a rfl;have k6:=bH (o:=6) a rfl;have k7:=bH (o:=7) a rfl;have k8:=bH (o:=8) a rfl;have KD:=hid (aGr (n:=n) hh (fun z C=>by simp at C;rcases C with rfl|rfl|rfl|rfl<;>exact aJf (r:=0) (by decide) (by decide)) (by omega));have C1:=hid R;have HR:=hid hR;have a3:=hid X;have a0:=hid am;have au:=hid (show w.heap.size<b0 by simp at a9;omega);have a4:=hid (show w.heap.size<=rb by simp at bh;omega);have M:=R.on.size;clear R hR X a hh am;unfold ptrB
 go_wp2_with fail
 refine(KD.out).mono ?_;rintro e w2⟨ao,ln,cp,rfl,aj,H⟩;have ax:=hid aj;have av:=hid H;have ay:=hid (show w.heap.size<=w2.heap.size by have:=H.size;simp at M;omega);have az:=hid (show w2.heap.size≠w.heap.size by have:=H.size;simp at M;omega);clear aj H
 go_wp2_with fail
 go_loopw [10] (fun dn wr=>uU u c w n b0 nb fb rb w2.heap.size d (decT u n c) dn wr) (fun _ wr=>4000-Yk wr nb)
 case atStart=>exact aMV rfl rfl C1.out HR.out bg a3.out av.out ax.out a0.out
 case round=>
  obtain⟨N,s,r,a1,b1,c1,d1,D,J,E,rfl,y,p,al,ba,A,W,i,b,I,k,j⟩:=hrel;have hr:=y.few;have m0:wr.cell? ⟨w2.heap.size,0,none⟩=some (.bool (decide (fU a1 b1 c1 d1 n<0))):=bH A rfl;have m1:wr.cell? ⟨w2.heap.size,1,none⟩=some (.slice D J E):=bH A rfl;have r0:wr.cell? ⟨w.heap.size,0,none⟩=some (.bool false):=bH i rfl;have r1:wr.cell? ⟨w.heap.size,1,none⟩=some (.slice none 0 0):=bH i rfl;have f0:wr.frozen? ⟨w.heap.size,0,none⟩=false:=kN i;have f1:wr.frozen? ⟨w.heap.size,1,none⟩=false:=kN i;cases T:oF a1 b1 c1 d1 n
  ·have MO:=hid (aQs hc y (by omega) p (fun z C=>aJf (b z C) (by omega)) al);have DN:=hid (fun e L hM=>aPB (e:=e) (w5:=L) y p al ba A i I k au.out a4.out hM);have a5:=hid (aOu y);have ab:=hid b;have HA:=hid j;clear y p A W i b I k j
   go_wp2_with fail
   refine(MO.out).mono ?_;rintro e L hM;obtain⟨l,h,f,ap⟩:=DN.out e L hM;have r0:L.cell? ⟨w.heap.size,0,none⟩=some (.bool false):=bH f rfl;have r1:L.cell? ⟨w.heap.size,1,none⟩=some (.slice none 0 0):=bH f rfl;have f0:L.frozen? ⟨w.heap.size,0,none⟩=false:=kN f;have f1:L.frozen? ⟨w.heap.size,1,none⟩=false:=kN f
   rcases ap with⟨rfl,hs⟩|⟨s',z,bo,rfl,hs,O,q,bb,bc,B⟩
   ·have HO:=hid (fun U F=>aSA (own:=N) (e:=.outgrown) (u:=u) (s:=s) (d:=d) (U:=U) T hs hr f l h F);have HC:=hid f;clear hM l h f hs
    go_wp2_with fail
    obtain⟨U,F⟩:∃U,U=(L.setCell ⟨w.heap.size,0,none⟩ (.bool false)).setCell ⟨w.heap.size,1,none⟩ (.slice none 0 0):=⟨_,rfl⟩
    rw[<-F];have S:=tU F HC.out;have q0:U.cell? ⟨w.heap.size,0,none⟩=some (.bool false):=bH S.bV rfl;have q1:U.cell? ⟨w.heap.size,1,none⟩=some (.slice none 0 0):=bH S.bV rfl;refine bodyPost_ret (v:=.tuple #[.agg #[.bool false,.slice none 0 0],.int .i64 6]) (by simp[results,results17,go_sem,q0,q1]) rfl ?_;rw[HA.out];exact HO.out U S
   ·obtain⟨a2,b2,c2,d2,C⟩:∃a2 b2 c2 d2,withZ z a1 b1 c1 d1=[a2,b2,c2,d2]:=⟨_,_,_,_,rfl⟩
    rw[C]at q
    have ah:∀x∈[a2,b2,c2,d2],x.natAbs<2^(2*(r+1)+1):=by rw[<-C];exact aGC ab.out
    have ca:=O.few;obtain⟨x1,x2,x3,x4,x5,x6,x7,x8,a,hh⟩:=aKX q;have k1:=bH (o:=1) a rfl;have k2:=bH (o:=2) a rfl;have k3:=bH (o:=3) a rfl;have k4:=bH (o:=4) a rfl;have k5:=bH (o:=5) a rfl;have k6:=bH (o:=6) a rfl;have k7:=bH (o:=7) a rfl;have k8:=bH (o:=8) a rfl;have a6:=hid (aGr (n:=n) hh (fun z C=>aJf (ah z C) (by omega)) (by omega));have DL:=hid (fun Y U ao ln cp h1 h2 h3=>aPA (n:=n) (ans:=decT u n c) (w6:=Y) (U:=U) (ao:=ao) (ln:=ln) (cp:=cp) C T hs hr ab.out O q bb bc B f az.out ay.out l h HA.out h1 h2 h3);have ae:=hid B;clear hM l h f hs O q B a hh ah C
    go_wp2_with fail
    refine(a6.out).mono ?_;rintro e Y⟨b3,ci,b4,rfl,ak,P⟩;have g:=(P.block _ (gE ae.out)).trans ae.out;have cj:Y.cell? ⟨w2.heap.size,0,none⟩=some _:=bH g rfl;have ck:Y.cell? ⟨w2.heap.size,1,none⟩=some _:=bH g rfl;have g0:Y.frozen? ⟨w2.heap.size,0,none⟩=false:=kN g;have g1:Y.frozen? ⟨w2.heap.size,1,none⟩=false:=kN g;have ad:=hid ak;have aa:=hid P;have af:=hid g;clear ak P g
    go_wp2_with fail
    go_roundw
    case rel=>exact(DL.out _ _ _ _ _ aa.out ad.out (tU rfl af.out)).1
    case measure=>
     have:=(DL.out _ _ _ _ _ aa.out ad.out (tU rfl af.out)).2;rw[a5.out];exact this
  ·have HE:=hid (fun U F=>aSy (own:=N) (u:=u) (s:=s) (d:=d) (U:=U) T hr (aSx (m:=2*r+1) (by omega) (b _ (by simp)) (b _ (by simp)) (b _ (by simp)) (b _ (by simp)) hn) W i I k F);have HC:=hid i;have HA:=hid j;clear y p A W i b I k j
   go_wp2_with fail
   obtain⟨U,F⟩:∃U,U=(wr.setCell ⟨w.heap.size,0,none⟩ (.bool (decide (fU a1 b1 c1 d1 n<0)))).setCell ⟨w.heap.size,1,none⟩ (.slice D J E):=⟨_,rfl⟩
   rw[<-F];have S:=tU F HC.out;have q0:U.cell? ⟨w.heap.size,0,none⟩=some (.bool (decide (fU a1 b1 c1 d1 n<0))):=bH S.bV rfl;have q1:U.cell? ⟨w.heap.size,1,none⟩=some (.slice D J E):=bH S.bV rfl;refine bodyPost_ret (v:=.tuple #[.agg #[.bool (decide (fU a1 b1 c1 d1 n<0)),.slice D J E],.int .i64 0]) (by simp[results,results17,go_sem,q0,q1]) rfl ?_;rw[HA.out];exact HE.out U S
structure ExAt (w:World) (xb:Nat) (t:Rd.Tr):Prop where
 ex:∃rb rv,w.heap[xb]?=some (.cells #[rv] 68 (0,0))/\fZ rb w t rv
 wf:Rd.Wf t
 mF:Rd.mF t<=40
theorem ExAt.aS {w b:World}{a:Nat}{t:Rd.Tr}(h:ExAt w a t)(hc:Chg w b []):ExAt b a t:=by
 obtain⟨i,j,e,f⟩:=h.ex;exact⟨⟨i,j,hc.at e (by simp),fZ.aS (Oe hc) f⟩,h.wf,h.mF⟩
theorem ExAt.ok {b:Nat}{t:Rd.Tr}(h:ExAt w b t){u:Wt}(a:planT t=some u):u.Ok:=(Wp t u h.wf (by have:=h.mF;omega) a).1
theorem aKf (w:World)(b:Nat)(t:Rd.Tr)(k f:Int)(h:ExAt w b t)(k0:¬k<0)(k1:¬60<k)(f0:¬f<0)(f1:¬3000<f):Calls prog 16 #[.pointer (some ⟨b,0,none⟩),.int .i64 k,.int .i64 f] w (dQ w (planT t)):=by
 obtain⟨x,n,i,j⟩:=h.ex;have p:=hid (aXu t h.wf (by have:=h.mF;omega) w n j);have c0:w.cell? ⟨b,0,none⟩=some n:=bH i rfl;clear i j h
 go_enter func16,ntmps16
 go_wp2_with fail
 refine(p.out).mono ?_;rintro e y a;obtain⟨v,q,rfl,_,_⟩:=a.one;have o:=hid a;clear a
 go_wp2_with fail
 refine bodyPost_ret (v:=.tuple #[v,.int .i64 q]) (by simp[results,results16,go_sem]) rfl ?_;exact o.out
section
variable {u:Wt} {c:Nat} {w wr:World} {B nb fb d k r:Nat} {ans:Option (List Int)} {l:Value} {zs:LN} {g:ON} {own:Nat->Option Own} {s:Rf.St}
end
def tV (w:World)(a:LN)(b i:Value)(wr:World):Prop:=
 ∃(k:Nat) (R:Int) (q:LN),i=.int .i64 ((k:Int)-1)/\k<=a.length/\b=.int .u64 R/\0<=R/\R<1000000000/\dR wr w.heap.size q/\q.length=a.length/\Nm.dE 4294967296 q/\Below w.heap.size w wr/\
  Nm.val 4294967296 (a.drop k)=Nm.val 4294967296 (q.drop k)*1000000000+R
theorem aL8 {x z Q y:Int}(h:z=Q*1000000000+y):x+4294967296*z=((y*4294967296+x)/1000000000+4294967296*Q)*1000000000+(y*4294967296+x)%1000000000:=by
 have:=Int.emod_add_mul_ediv (y*4294967296+x) 1000000000;generalize (y*4294967296+x)/1000000000=d at*;generalize (y*4294967296+x)%1000000000=r at*;subst h;omega
theorem aFA (w:World)(a:LN)(v:Value)(z:Lims w a v)(O:a.length<=10000000)(F:Nm.dE 4294967296 a):
  Calls prog 36 #[v,.int .u32 1000000000] w fun e J=>∃I Q,e=.returned (.tuple #[I,.int .u32 (Nm.val 4294967296 a%1000000000)])/\cE w.heap.size J Q I/\Nm.Good 4294967296 Q/\Nm.val 4294967296 Q=Nm.val 4294967296 a/1000000000/\Below w.heap.size w J:=by
 obtain⟨ao,N,rfl,_⟩:=z.shape;have S:=run_make_row' (P:=prog) 54 81 (.int .u32 0) 4 underlying54 kR rfl .i64 .i64 a.length (by omega) (by omega);have M:=hid z;have L:=hid F;clear z F
 go_enter func36,ntmps36
 go_wp2_with fail
 go_loopw [7,8] (fun r i wr=>tV w a r i wr) (fun _ i _=>(intOf i+1).toNat)
 case atStart=>exact⟨a.length,0,List.replicate a.length 0,rfl,Nat.le_refl _,rfl,by omega,by omega,dR.made w _,by simp,Nm.dE.mB (by decide) _,aW (Below.refl _ _) (Nat.le_refl _) _,by simp[Nm.val]⟩
 case round=>
  obtain⟨k,R,q,rfl,hk,rfl,U,W,b,j,f,d,l⟩:=hrel
  cases k with
  |zero=>
   have H:Nm.val 4294967296 a=Nm.val 4294967296 q*1000000000+R:=by simpa using l
   have C:=hid (Nm.Ty (by decide) H U W);have E:=hid (Cm wr q _ 0 (b.rA (by omega)) (by omega));have A:=Nm.xI q;have D:=hid (b.used (B:=w.heap.size) (by omega) (Nat.le_refl _));rw[j]at E A D;have u:=hid (Nm.Cq f);have y:=hid (Nm.Cn 4294967296 q);have p:=hid d;generalize T:(Nm.strip q).length=n at*;clear H T b j f d l
   go_wp2_with fail
   refine(E.out).mono ?_;rintro e w1⟨rfl,rfl⟩
   go_wp2_with fail
   refine bodyPost_ret (v:=.tuple #[.slice (some ⟨w.heap.size,0,none⟩) n a.length,.int .u32 R]) (by simp[results,results36,go_sem]) rfl ⟨_,Nm.strip q,by rw[C.out.2],D.out,u.out,by rw[y.out];exact C.out.1.symm,p.out⟩
  |succ k=>
   obtain⟨g,rfl,hc⟩:=(M.out.below d).place (by omega);have x1:=hc k (by omega);have a0:=L.out.at' (by decide) k;have k1:=b.cell k (by omega);have k2:=b.frozen k
   have s:Hid (∀X,X=R*4294967296+Nm.at' a k->tV w a (.int .u64 (X%1000000000)) (.int .i64 ((k:Int)-1)) (wr.setCell ⟨w.heap.size,k,none⟩ (.int .u32 (X/1000000000)))):=by
    rintro X rfl;refine⟨k,_,q.set k ((R*4294967296+Nm.at' a k)/1000000000),by simp,by omega,rfl,by omega,by omega,b.set _ _,by simpa using j,f.set _ (by omega) (by omega),d.setCell (by simp) _,?_⟩;rw[Nm.Lu 4294967296 a k (by omega),Zw (by omega)];exact aL8 l
   clear hc b j f d l;generalize Nm.at' a k=x at*;generalize Nm.at' q k=o at*;obtain⟨a1,Y⟩:=a0
   go_wp2_with fail
   go_roundw
   case rel=>
    first
     |exact s.out _ rfl
     | (have h:=s.out _ rfl
        have e:(R*4294967296+x)/1000000000%4294967296=(R*4294967296+x)/1000000000:=Int.emod_eq_of_lt (by omega) (by omega);rw[e]
        exact h)
   case measure=>simp[intOf]
namespace Rd
def Rh (x:Nat):UInt8:=UInt8.ofNat (48+x%10)
def fix:Nat->Nat->List UInt8
 |0,_=>[]
 |c+1,x=>fix c (x/10)++[Rh x]
theorem aSz:∀c h lo,0<h->lo<10^c->Lib.decDigits (h*10^c+lo)=Lib.decDigits h++fix c lo:=by
 intro c
 induction c with
 |zero=>intro h lo b a;simp at a;subst a;simp[fix]
 |succ c j=>
  intro h lo b a;have i:1<=10^c:=Nat.one_le_pow _ _ (by decide);rw[Nat.pow_succ]at a
  have e:h*10^(c+1)+lo=(h*10^c+lo/10)*10+lo%10:=by
   rw[Nat.pow_succ,<-Nat.mul_assoc];omega
  rw[e];have f:1<=h*10^c:=Nat.mul_pos b i
  have d:((h*10^c+lo/10)*10+lo%10)/10=h*10^c+lo/10:=by omega
  have g:((h*10^c+lo/10)*10+lo%10)%10=lo%10:=by omega
  rw[Lib.decDigits,dif_neg (by omega),d,g,j h (lo/10) b (by omega),fix,Rh,List.append_assoc]
end Rd
def Nm.text (z:Int):EW:=(bif decide (z<0)then [45]else [])++Lib.decDigits z.natAbs
theorem aJG {t:ByteArray}(h:0<t.size):(t.toList==[])=false/\t.toList.isEmpty=false:=by
 rw[ByteArray.toList_eq];obtain⟨d⟩:=t;obtain⟨l⟩:=d
 cases l with
 |nil=>exact absurd h (by simp[ByteArray.size])
 |cons b r=>exact⟨rfl,rfl⟩
open Go.Shelf Go.RowKit Go.Sort Go.Lib
def aHD:Go.Shelf.Ren:=⟨fun|171=>37|243=>63|246=>91|283=>115|284=>116|285=>117|286=>118|129=>131|317=>130|318=>132|319=>133|320=>134|337=>153|338=>154|n=>n,fun|3=>3|9=>9|2=>2|4=>4|171=>175|0=>0|53=>113|37=>62|5=>5|173=>178|212=>199|51=>81|20=>20|213=>200|46=>114|232=>220|233=>221|n=>n,fun|17=>0|18=>1|19=>2|n=>n⟩
theorem yM:Go.Proofs.LaysM.n171 prog aHD:={
 mixed:=by kernel_rfl
 f129:=func131.trans (congrArg some (by kernel_rfl))
 f171:=func37.trans (congrArg some (by kernel_rfl))
 f243:=func63.trans (congrArg some (by kernel_rfl))
 f246:=func91.trans (congrArg some (by kernel_rfl))
 f283:=func115.trans (congrArg some (by kernel_rfl))
 f284:=func116.trans (congrArg some (by kernel_rfl))
 f285:=func117.trans (congrArg some (by kernel_rfl))
 f286:=func118.trans (congrArg some (by kernel_rfl))
 f317:=func130.trans (congrArg some (by kernel_rfl))
 f318:=func132.trans (congrArg some (by kernel_rfl))
 f319:=func133.trans (congrArg some (by kernel_rfl))
 f320:=func134.trans (congrArg some (by kernel_rfl))
 f337:=func153.trans (congrArg some (by kernel_rfl))
 f338:=func154.trans (congrArg some (by kernel_rfl))
 t0:=underlying0
 a0:=Tryz.isAgg0
 z0:=Tryz.sizeOf0
 v0:=Tryz.zeroValue0
 t2:=underlying2
 a2:=Tryz.isAgg2
 z2:=Tryz.sizeOf2
 v2:=Tryz.zeroValue2
 t3:=underlying3
 a3:=Tryz.isAgg3
 z3:=Tryz.sizeOf3
 v3:=Tryz.zeroValue3
 t4:=underlying4
 a4:=Tryz.isAgg4
 z4:=Tryz.sizeOf4
 v4:=Tryz.zeroValue4
 t5:=underlying5
 a5:=Tryz.isAgg5
 z5:=Tryz.sizeOf5
 v5:=Tryz.zeroValue5
 t9:=underlying9
 a9:=Tryz.isAgg9
 z9:=Tryz.sizeOf9
 v9:=Tryz.zeroValue9
 t20:=underlying20
 a20:=Tryz.isAgg20
 z20:=Tryz.sizeOf20
 v20:=Tryz.zeroValue20
 t37:=underlying62
 a37:=Tryz.isAgg62
 z37:=Tryz.sizeOf62
 v37:=Tryz.zeroValue62
 t46:=underlying114
 a46:=Tryz.isAgg114
 z46:=Tryz.sizeOf114
 v46:=Tryz.zeroValue114
 t51:=underlying81
 a51:=Tryz.isAgg81
 z51:=Tryz.sizeOf81
 v51:=Tryz.zeroValue81
 t53:=underlying113
 a53:=Tryz.isAgg113
 z53:=Tryz.sizeOf113
 v53:=Tryz.zeroValue113
 t171:=underlying175
 a171:=Tryz.isAgg175
 z171:=Tryz.sizeOf175
 v171:=Tryz.zeroValue175
 t173:=underlying178
 a173:=Tryz.isAgg178
 z173:=Tryz.sizeOf178
 v173:=Tryz.zeroValue178
 t212:=underlying199
 a212:=Tryz.isAgg199
 z212:=Tryz.sizeOf199
 v212:=Tryz.zeroValue199
 t213:=underlying200
 a213:=Tryz.isAgg200
 z213:=Tryz.sizeOf200
 t232:=underlying220
 a232:=Tryz.isAgg220
 z232:=Tryz.sizeOf220
 v232:=Tryz.zeroValue220
 t233:=underlying221
 a233:=Tryz.isAgg221
 z233:=Tryz.sizeOf221
 v233:=Tryz.zeroValue221
 g17:=by kernel_rfl
 g18:=by kernel_rfl
 g19:=by kernel_rfl
 i0:=by kernel_rfl
 i2:=by kernel_rfl
 i3:=by kernel_rfl
 i4:=by kernel_rfl
 i5:=by kernel_rfl
 i9:=by kernel_rfl
 i20:=by kernel_rfl
 i37:=by kernel_rfl
 i46:=by kernel_rfl
 i51:=by kernel_rfl
 i53:=by kernel_rfl
 i171:=by kernel_rfl
 i173:=by kernel_rfl
 i212:=by kernel_rfl
 i232:=by kernel_rfl
 i233:=by kernel_rfl
 m17:=by kernel_rfl
 m18:=by kernel_rfl
 m19:=by kernel_rfl}
theorem aNA (n:Int)(h0:-9223372036854775808<=n)(h1:n<=9223372036854775807)(w:World)(htab:Lib.TabIs prog w "internal/strconv.uint64pow10" .u64 Lib.pow10Tab):
  Calls prog 37 #[.int .i64 n] w fun e w'=>e=.returned (.string ⟨(Lib.itoa n).toArray⟩)/\∃k os,w'=grow (w.drewN k) os:=Any.strconv_Itoa yM n h0 h1 w htab
end Go.Proofs.YthhffdeihoofiaaGreatDoor
namespace Go.Proofs.YthhffdeihoofiaaGreatDoor
open Go.Proofs.Tryz
open Go.RowKit
def mS (w:World):Prop:=Lib.TabIs prog w "internal/strconv.uint64pow10" .u64 Lib.pow10Tab
theorem mS.below {w b:World}(h:mS w)(a:Below w.heap.size w b):mS b:=Lib.tabBelow_of_tabIs h b a
theorem Od (v:Int)(hv:Rd.cQ v)(w:World)(b:mS w):
  Calls prog 37 #[.int .i64 v] w fun e a=>∃s:ByteArray,e=.returned (.string s)/\s.data.toList=Rd.dec v/\s.size<=9/\Below w.heap.size w a:=by
 obtain⟨u,rfl⟩:∃u:Nat,v=u:=⟨v.toNat,by have:=hv.1;omega⟩
 refine(aNA u (by omega) (by have:=hv.2;omega) w b).mono ?_;rintro e a⟨rfl,k,os,rfl⟩;refine⟨_,rfl,?_,?_,Lib.below_grow _ _ (Nat.le_refl _) _ _⟩
 ·rw[Lib.itoa_nonneg];simp[Rd.dec]
 ·have:=Rd.yV hv;rw[Lib.itoa_nonneg]
  simpa[Rd.dec,ByteArray.size]using this
theorem aIZ (k:Int)(a:1<=k/\k<=13)(w:World):Calls prog 70 #[.int .i64 k] w fun e b=>e=.returned (.int .i64 (Rd.aN k))/\w=b:=by
 have h:k=1\/k=2\/k=3\/k=4\/k=5\/k=6\/k=7\/k=8\/k=9\/k=10\/k=11\/k=12\/k=13:=by omega
 clear a
 rcases h with rfl|rfl|rfl|rfl|rfl|rfl|rfl|rfl|rfl|rfl|rfl|rfl|rfl
 all_goals
  go_enter func70,ntmps70
  go_wp2_with fail
  go_ret
  exact⟨rfl,rfl⟩
theorem Zc (k:Int)(a:2<=k/\k<=13)(w:World):Calls prog 69 #[.int .i64 k] w fun e b=>e=.returned (.string ⟨(Rd.sym k).toArray⟩)/\w=b:=by
 have h:k=2\/k=3\/k=4\/k=5\/k=6\/k=7\/k=8\/k=9\/k=10\/k=11\/k=12\/k=13:=by omega
 clear a
 rcases h with rfl|rfl|rfl|rfl|rfl|rfl|rfl|rfl|rfl|rfl|rfl|rfl
 all_goals
  go_enter func69,ntmps69
  go_wp2_with fail
  go_ret
  exact⟨rfl,rfl⟩
theorem aO {p:Prop}(h:p):Hid p:=h
structure eH (s:ByteArray) (l:EW):Prop where
 eq:s.data.toList=l
theorem eH.size {s:ByteArray}{A:EW}(h:eH s A):s.size=A.length:=by
 rw[<-h.eq,Array.length_toList];rfl
variable {s:ByteArray}{A:EW}
theorem eH.app {t:ByteArray}{m:EW}(h:eH s A)(k:eH t m):eH (s++t) (A++m):=⟨by rw[<-h.eq,<-k.eq];simp[ByteArray.data_append]⟩
theorem eH.mk' (l:EW):eH ⟨l.toArray⟩ l:=⟨by simp⟩
theorem eH.to {m:EW}(h:eH s A)(e:A=m):eH s m:=e▸h
variable {n:World}
theorem aNy {tb:Nat}{ts:LN}{a:Array Value}(d:n.heap[tb]?=some (.cells a 3 (0,0)))(e:a.toList.take ts.length=ts.map (Value.int .i64))(k:Nat)(b:k<ts.length):
  n.cell? ⟨tb,k,none⟩=some (.int .i64 (ts.getD k 0)):=by
 refine bH d ?_
 have:(ts.map (Value.int .i64))[k]?=some (.int .i64 (ts.getD k 0)):=by
  simp[List.getD,List.getElem?_eq_getElem b]
 rw[<-e,List.getElem?_take_of_lt b]at this
 simpa using this
def Ce (w:World)(ts:LN)(b a:Value)(wr:World):Prop:=
 ∃(k:Nat) (s:ByteArray),a=.int .i64 k/\b=.string s/\k<=ts.length/\eH s (Rd.eY ts k)/\Below w.heap.size w wr
theorem aHH (W:Nat)(w:World)(ts:LN)(I:Value)(S:dH W w ts I)(H:2<=ts.length)(P:ts.length<=9)(A:∀x∈ts,Rd.cQ x)(l:mS w):
  Calls prog 67 #[I] w fun e X=>∃s:ByteArray,e=.returned (.string s)/\eH s (Rd.eE ts)/\Below w.heap.size w X:=by
 rcases S with⟨h,_⟩|⟨tb,M,N,rfl,_,C,Y,D⟩
 ·rw[h]at H;simp at H
 have p:=aO A
 have l0:(0:Int)<ts.length:=by omega
 have T:0<ts.length:=by omega
 have l1:(1:Int)<ts.length:=by omega
 have U:1<ts.length:=by omega
 have L:=aO l;clear A l
 go_enter func67,ntmps67
 go_wp2_with fail
 go_loopw [3,4] (fun t i wr=>Ce w ts t i wr) (fun _ i _=>ts.length-(intOf i).toNat)
 case atStart=>exact⟨0,_,rfl,rfl,by omega,eH.mk' _,Below.refl _ _⟩
 case round=>
  obtain⟨k,s,rfl,rfl,hk,v,o⟩:=hrel
  have R:s.size<=102:=by have:=Rd.Zb p.out k;rw[v.size];omega
  by_cases z:(k:Int)<ts.length
  ·have a:k<ts.length:=by omega
   have hc:=aNy (by rw[o.block tb (fQ C)];exact C) D k a;have b:=aO (Rd.aNk p.out k);have f:=aO (L.out.below o);have q:=aO v;have j:=aO o;clear v o C D;have r:=aO (show Rd.eY ts (k+1)=Rd.eY ts k++(Rd.sep k++Rd.dec (ts.getD k 0))from rfl);generalize ts.getD k 0=x at hc b r;have d:=aO (show Rd.sep k=Rd.sep k from rfl)
   by_cases y:(k:Int)=0
   ·obtain rfl:k=0:=by omega
    clear d y z
    go_wp2_with (go_at_call 37;refine(Od _ b.out _ f.out).mono ?_;rintro e J⟨u,rfl,B,n,g⟩)
    go_roundw
    case rel=>exact⟨1,_,by simp,rfl,a,(q.out.app ⟨B⟩).to (by rw[r.out];rfl),j.out.trans (g.mono j.out.size)⟩
    case measure=>simp[intOf];omega
   ·by_cases E:(k:Int)=1
    ·obtain rfl:k=1:=by omega
     clear d y E z
     go_wp2_with (go_at_call 37;refine(Od _ b.out _ f.out).mono ?_;rintro e J⟨u,rfl,B,n,g⟩)
     go_roundw
     case rel=>exact⟨2,_,by simp,rfl,a,((q.out.app (eH.mk' [59,32])).app ⟨B⟩).to (by rw[r.out];simp[Rd.sep]),j.out.trans (g.mono j.out.size)⟩
     case measure=>simp[intOf];omega
    ·have F:Rd.sep k=[44,32]:=by
      unfold Rd.sep;rw[show(k==0)=false by simp;omega,show(k==1)=false by simp;omega];rfl
     rw[F]at r;clear F d
     have O:(1:Int)<k:=by omega
     go_wp2_with (go_at_call 37;refine(Od _ b.out _ f.out).mono ?_;rintro e J⟨u,rfl,B,n,g⟩)
     go_roundw
     case rel=>exact⟨k+1,_,by simp,rfl,a,((q.out.app (eH.mk' [44,32])).app ⟨B⟩).to (by rw[r.out];simp),j.out.trans (g.mono j.out.size)⟩
     case measure=>simp[intOf];omega
  ·obtain rfl:k=ts.length:=by omega
   have q:=aO v;have j:=aO o;clear v o C D
   go_wp2_with fail
   go_ret
   exact⟨_,rfl,q.out.app (eH.mk' [93]),j.out⟩
open Go.Deep (BT)
def dS (w:World)(l:EW)(e:Ending)(a:World):Prop:=∃s:ByteArray,e=.returned (.string s)/\eH s l/\Below w.heap.size w a
theorem aTX {t:Rd.Tr}(h:Rd.Wf t):1<=Rd.aR t/\Rd.aR t<=13:=by
 cases t with
 |nil=>exact h.elim
 |node p q a l r=>
  simp only[Rd.aR]
  rcases h with⟨b,_⟩|⟨b,_⟩|⟨b,_⟩|⟨b,_⟩|⟨b,_⟩<;>omega
variable {w:Nat}
theorem aKt {t:Rd.Tr}{x:Value}(h:fZ w n t x)(f:Rd.Wf t):∃b,x=.pointer (some ⟨b,0,none⟩)/\b<n.heap.size/\n.cell? ⟨b,0,none⟩=some (.int .i64 (Rd.aR t)):=by
 cases t with
 |nil=>exact f.elim
 |node p q a l r=>
  obtain⟨b,k,i,j,e,g,d,_⟩:=h;exact⟨b,e,fQ d,bH d rfl⟩
theorem aFS (D:Nat)(t:Rd.Tr)(v:Value)(a:Int)(w:World)(q:fZ D w t v)(l:Rd.Wf t)(g:(Rd.text t).length<=1000000)(u:Calls prog 39 #[v] w (dS w (Rd.text t))):
  Calls prog 68 #[v,.int .i64 a] w (dS w (Rd.oA (decide (Rd.aN (Rd.aR t)<a)) (Rd.text t))):=by
 obtain⟨b,rfl,y,hc⟩:=aKt q l;have z:=aTX l;have o:=aO u;clear u q l;generalize Rd.aR t=k at*;generalize Rd.text t=x at*;have p:=aO (aIZ k z);generalize B:Rd.aN k=r at*;clear B z
 by_cases h:r<a
 ·rw[decide_eq_true h]
  go_enter func68,ntmps68
  go_wp2_with fail
  refine(o.out).mono ?_;rintro e n⟨s,rfl,f,d⟩
  have j:n.cell? ⟨b,0,none⟩=some (.int .i64 k):=by rw[d.cell (by exact y)];exact hc
  have C:s.size<=1000000:=by rw[f.size];exact g
  have i:=aO f;clear f
  go_wp2_with (go_at_call 70;refine(p.out _).mono ?_;rintro e E⟨rfl,rfl⟩)
  go_ret
  exact⟨_,rfl,(((eH.mk' [40]).app i.out).app (eH.mk' [41])).to (by simp[Rd.oA]),d⟩
 ·rw[decide_eq_false h]
  go_enter func68,ntmps68
  go_wp2_with fail
  refine(o.out).mono ?_;rintro e n⟨s,rfl,f,d⟩
  have j:n.cell? ⟨b,0,none⟩=some (.int .i64 k):=by rw[d.cell (by exact y)];exact hc
  have i:=aO f;clear f
  have A:a<=r:=by omega
  go_wp2_with (go_at_call 70;refine(p.out _).mono ?_;rintro e E⟨rfl,rfl⟩)
  go_ret
  exact⟨_,rfl,i.out,d⟩
theorem aQH (b:Nat)(w:World)(x:Int)(g:Rd.cQ x)(o l n:Value)(h:w.heap[b]?=some (.cells #[.int .i64 1,.int .i64 x,o,l,n] 91 (0,0)))(d:mS w):
  Calls prog 39 #[.pointer (some ⟨b,0,none⟩)] w (dS w (Rd.dec x)):=by
 have c0:w.cell? ⟨b,0,none⟩=some (.int .i64 1):=bH h rfl;have c1:w.cell? ⟨b,1,none⟩=some (.int .i64 x):=bH h rfl;have j:=aO g;have i:=aO d;clear g d h
 go_enter func39,ntmps39
 go_wp2_with (go_at_call 37;refine(Od _ j.out _ i.out).mono ?_;rintro e p⟨u,rfl,k,f,a⟩)
 go_ret
 exact⟨_,rfl,⟨k⟩,a⟩
theorem aMf (b:Nat)(w:World)(k:Int)(a:k=2\/k=3)(x g d f:Value)(h:w.heap[b]?=some (.cells #[.int .i64 k,x,g,d,f] 91 (0,0))):
  Calls prog 39 #[.pointer (some ⟨b,0,none⟩)] w (dS w (Rd.sym k)):=by
 have c0:w.cell? ⟨b,0,none⟩=some (.int .i64 k):=bH h rfl;clear h
 rcases a with rfl|rfl
 all_goals
  go_enter func39,ntmps39
  go_wp2_with (go_at_call 69;refine(Zc _ (by decide) _).mono ?_;rintro e i⟨rfl,rfl⟩)
  go_ret
  exact⟨_,rfl,eH.mk' _,Below.refl _ _⟩
theorem aTL (l b:Nat)(w:World)(ts:LN)(x f r s:Value)(h:w.heap[b]?=some (.cells #[.int .i64 4,x,f,r,s] 91 (0,0)))(d:dH l w ts f)(i:2<=ts.length)(j:ts.length<=9)(a:∀x∈ts,Rd.cQ x)(k:mS w):
  Calls prog 39 #[.pointer (some ⟨b,0,none⟩)] w (dS w (Rd.eE ts)):=by
 have c0:w.cell? ⟨b,0,none⟩=some (.int .i64 4):=bH h rfl;have c2:w.cell? ⟨b,2,none⟩=some f:=bH h rfl;have n:=aO (aHH l w ts f d i j a k)
 rcases d with⟨h,_⟩|⟨tb,o,p,rfl,_⟩
 ·rw[h]at i;simp at i
 clear h a k
 go_enter func39,ntmps39
 go_wp2_with (go_at_call 67;refine(n.out).mono ?_;rintro e v⟨u,rfl,q,g⟩)
 go_ret
 exact⟨_,rfl,q,g⟩
theorem aMg (b f:Nat)(w:World)(l:EW)(x o n:Value)(h:w.heap[b]?=some (.cells #[.int .i64 5,x,o,.pointer (some ⟨f,0,none⟩),n] 91 (0,0)))(a:l.length<=1000010)
  (g:Calls prog 68 #[.pointer (some ⟨f,0,none⟩),.int .i64 3] w (dS w l)):
  Calls prog 39 #[.pointer (some ⟨b,0,none⟩)] w (dS w (45::l)):=by
 have c0:w.cell? ⟨b,0,none⟩=some (.int .i64 5):=bH h rfl;have c3:w.cell? ⟨b,3,none⟩=some (.pointer (some ⟨f,0,none⟩)):=bH h rfl;have j:=aO g;clear h g
 go_enter func39,ntmps39
 go_wp2_with (go_at_call 68;refine(j.out).mono ?_;rintro e p⟨u,rfl,i,d⟩;have k:u.size<=1000010:=by(rw[i.size];exact a))
 go_ret
 exact⟨_,rfl,(eH.mk' [45]).app i,d⟩
theorem aTM (b q:Nat)(w:World)(k:Int)(A:k=10\/k=11\/k=12\/k=13)(l:EW)(x D C:Value)(h:w.heap[b]?=some (.cells #[.int .i64 k,x,D,.pointer (some ⟨q,0,none⟩),C] 91 (0,0)))(f:l.length<=1000010)
  (s:Calls prog 39 #[.pointer (some ⟨q,0,none⟩)] w (dS w l)):
  Calls prog 39 #[.pointer (some ⟨b,0,none⟩)] w (dS w (Rd.sym k++40::(l++[41]))):=by
 have c0:w.cell? ⟨b,0,none⟩=some (.int .i64 k):=bH h rfl;have c3:w.cell? ⟨b,3,none⟩=some (.pointer (some ⟨q,0,none⟩)):=bH h rfl;have j:=fQ h;have y:=aO s;clear h s
 have d:2<=k/\k<=13:=by omega
 have r:=aO (Zc k d);generalize g:(⟨(Rd.sym k).toArray⟩:ByteArray)=sy at r
 have i:eH sy (Rd.sym k):=by rw[<-g];exact eH.mk' _
 have n:sy.size<=4:=by rw[i.size];exact Rd.Pf k
 have v:=aO i;clear i g d
 rcases A with rfl|rfl|rfl|rfl
 all_goals
  go_enter func39,ntmps39
  go_wp2_with fail
  refine(y.out).mono ?_;rintro e E⟨u,rfl,o,a⟩
  have B:u.size<=1000010:=by rw[o.size];exact f
  rw[<-a.cell (p:=⟨b,0,none⟩) j]at c0;have z:=aO o;clear o
  go_wp2_with (go_at_call 69;refine(r.out _).mono ?_;rintro e F⟨rfl,rfl⟩)
  go_ret
  exact⟨_,rfl,(((v.out.app (eH.mk' [40])).app z.out).app (eH.mk' [41])).to (by simp),a⟩
theorem aTN (b B qb:Nat)(w:World)(k r:Int)(v:Rd.aN k=r)(H:k=6\/k=7\/k=8\/k=9)(l m:EW)(x U:Value)(h:w.heap[b]?=some (.cells #[.int .i64 k,x,U,.pointer (some ⟨B,0,none⟩),.pointer (some ⟨qb,0,none⟩)] 91 (0,0)))(O:l.length<=1000010)(P:m.length<=1000010)
  (E:Calls prog 68 #[.pointer (some ⟨B,0,none⟩),.int .i64 r] w (dS w l))
  (F:∀n,Below w.heap.size w n->Calls prog 68 #[.pointer (some ⟨qb,0,none⟩),.int .i64 (r+1)] n (dS n m)):
  Calls prog 39 #[.pointer (some ⟨b,0,none⟩)] w (dS w (l++32::(Rd.sym k++32::m))):=by
 have c0:w.cell? ⟨b,0,none⟩=some (.int .i64 k):=bH h rfl;have c3:w.cell? ⟨b,3,none⟩=some (.pointer (some ⟨B,0,none⟩)):=bH h rfl;have c4:w.cell? ⟨b,4,none⟩=some (.pointer (some ⟨qb,0,none⟩)):=bH h rfl;have g:=fQ h;have J:=aO E;have L:=aO F;clear h E F
 have i:2<=k/\k<=13:=by omega
 have D:=aO (Zc k i);have C:=aO (aIZ k (by omega));rw[v]at C
 have y:1<=r/\r<=2:=by rw[<-v];rcases H with rfl|rfl|rfl|rfl<;>decide
 obtain⟨R,S⟩:=y;clear v;generalize j:(⟨(Rd.sym k).toArray⟩:ByteArray)=sy at D
 have q:eH sy (Rd.sym k):=by rw[<-j];exact eH.mk' _
 have z:sy.size<=4:=by rw[q.size];exact Rd.Pf k
 have M:=aO q;clear q j i
 rcases H with rfl|rfl|rfl|rfl
 all_goals
  go_enter func39,ntmps39
  go_wp2_with (go_at_call 70;refine(C.out _).mono ?_;rintro e X⟨rfl,rfl⟩)
  refine(J.out).mono ?_;rintro e n⟨u,rfl,A,a⟩
  have T:u.size<=1000010:=by rw[A.size];exact O
  have d4:=(a.cell (p:=⟨b,4,none⟩) g).trans c4;have N:=aO A;clear A
  go_wp2_with fail
  refine(L.out n a).mono ?_;rintro e Y⟨W,rfl,d,s⟩
  have I:W.size<=1000010:=by rw[d.size];exact P
  have f:Below w.heap.size w Y:=a.trans (s.mono a.size);have d0:=(f.cell (p:=⟨b,0,none⟩) g).trans c0;have o:=aO d;clear d
  go_wp2_with (go_at_call 69;refine(D.out _).mono ?_;rintro e X⟨rfl,rfl⟩)
  go_ret
  exact⟨_,rfl,((((N.out.app (eH.mk' [32])).app M.out).app (eH.mk' [32])).app o.out).to (by simp),f⟩
theorem aJp {t:Rd.Tr}{x:Value}(h:fZ w n t x)(d:Rd.Wf t):∃b,x=.pointer (some ⟨b,0,none⟩):=by
 obtain⟨b,a,_⟩:=aKt h d;exact⟨b,a⟩
theorem aOS (z:Nat):∀(t:Rd.Tr) (w:World) (v:Value),Rd.Wf t->(Rd.text t).length<=1000000->fZ z w t v->mS w->Calls prog 39 #[v] w (dS w (Rd.text t)):=by
 intro t
 induction t with
 |nil=>intro w v h;exact h.elim
 |node p q a l r s H=>
  intro w v S d N y;obtain⟨k,x,ts⟩:=a;obtain⟨b,A,I,E,rfl,W,n,D,o,M⟩:=N;simp only at n D
  rcases S with⟨f,g,_⟩|⟨f,_⟩|⟨f,g,u,L,_⟩|⟨f,g,_⟩|⟨f,g,u,_⟩
  ·simp only at f g;subst f;exact aQH b w x g A I E n y
  ·simp only at f
   have e:Rd.text (.node p q (k,x,ts) l r)=Rd.sym k:=by
    rcases f with rfl|rfl<;>rfl
   rw[e];exact aMf b w k f _ A I E n
  ·simp only at f g u L;subst f;exact aTL z b w ts _ A I E n D u L g y
  ·simp only at f;obtain⟨F,rfl⟩:=aJp o g
   by_cases P:k=5
   ·subst P;have e:Rd.text (.node p q (5,x,ts) l r)=45::Rd.oA (decide (Rd.aN (Rd.aR l)<3)) (Rd.text l):=rfl;rw[e]at d ⊢;have i:=Rd.Mg (decide (Rd.aN (Rd.aR l)<3)) (Rd.text l)
    have j:(Rd.text l).length<=1000000:=by
     revert d
     cases decide (Rd.aN (Rd.aR l)<3)<;>simp[Rd.oA]<;>omega
    exact aMg b F w _ _ A E n (by omega) (aFS z l _ 3 w o g j (s w _ g j o y))
   ·have B:k=10\/k=11\/k=12\/k=13:=by omega
    have e:Rd.text (.node p q (k,x,ts) l r)=Rd.sym k++40::(Rd.text l++[41]):=by
     rcases B with rfl|rfl|rfl|rfl<;>rfl
    rw[e]at d ⊢
    have j:(Rd.text l).length<=1000000:=by simp at d;omega
    exact aTM b F w k B _ _ A E n (by omega) (s w _ g j o y)
  ·simp only at f;obtain⟨F,rfl⟩:=aJp o g;obtain⟨qb,rfl⟩:=aJp M u
   have e:Rd.text (.node p q (k,x,ts) l r)=Rd.oA (decide (Rd.aN (Rd.aR l)<Rd.aN k)) (Rd.text l)++32::(Rd.sym k++32::Rd.oA (decide (Rd.aN (Rd.aR r)<Rd.aN k+1)) (Rd.text r)):=by
    rcases f with rfl|rfl|rfl|rfl<;>rfl
   rw[e]at d ⊢;have i:=Rd.Mg (decide (Rd.aN (Rd.aR l)<Rd.aN k)) (Rd.text l);have O:=Rd.Mg (decide (Rd.aN (Rd.aR r)<Rd.aN k+1)) (Rd.text r)
   have T:(Rd.text l).length<=(Rd.oA (decide (Rd.aN (Rd.aR l)<Rd.aN k)) (Rd.text l)).length:=by
    cases decide (Rd.aN (Rd.aR l)<Rd.aN k)<;>simp[Rd.oA]<;>omega
   have U:(Rd.text r).length<=(Rd.oA (decide (Rd.aN (Rd.aR r)<Rd.aN k+1)) (Rd.text r)).length:=by
    cases decide (Rd.aN (Rd.aR r)<Rd.aN k+1)<;>simp[Rd.oA]<;>omega
   have R:(Rd.oA (decide (Rd.aN (Rd.aR l)<Rd.aN k)) (Rd.text l)).length+(Rd.oA (decide (Rd.aN (Rd.aR r)<Rd.aN k+1)) (Rd.text r)).length<=1000000:=by
    simp only[List.length_append,List.length_cons]at d;omega
   refine aTN b F qb w k _ rfl f _ _ _ A n (by omega) (by omega) (aFS z l _ _ w o g (by omega) (s w _ g (by omega) o y)) ?_;intro J i;have C:fZ z J r (.pointer (some ⟨qb,0,none⟩)):=fZ.aS (bE.eF i) M;exact aFS z r _ _ J C u (by omega) (H J _ u (by omega) C (y.below i))
theorem aES (B:Nat)(w:World)(t:Rd.Tr)(v:Value)(h:hO B w (some t) v)(j:Rd.Wf t)(d:(Rd.text t).length<=1000000)(i:mS w):Calls prog 20 #[v] w (dS w (Rd.text t)):=by
 obtain⟨p,q,r,rfl,l,o,a,⟨b,rfl⟩,g⟩:=h;have c0:w.cell? ⟨q,0,none⟩=some (.pointer (some ⟨b,0,none⟩)):=bH a rfl;have k:=aO (aOS p t w _ j d g i);clear g j d i a
 go_enter func20,ntmps20
 go_wp2_with (go_at_call 39;refine(k.out).mono ?_;rintro e s⟨u,rfl,n,f⟩)
 go_ret
 exact⟨_,rfl,n,f⟩
theorem aPJ:∀c,Rd.fix c 0=List.replicate c 48:=by
 intro c
 induction c with
 |zero=>rfl
 |succ c a=>
  rw[Rd.fix,Nat.zero_div,a,List.replicate_succ'];rfl
theorem aNc:∀c x,x<10^c->0<c->(Lib.decDigits x).length<=c/\Rd.fix c x=List.replicate (c-(Lib.decDigits x).length) 48++Lib.decDigits x:=by
 intro c
 induction c with
 |zero=>intro x _ h;omega
 |succ c f=>
  intro x a _
  by_cases h:x<10
  ·have e:Lib.decDigits x=[Rd.Rh x]:=by
    rw[Lib.decDigits,dif_pos h,Rd.Rh,Nat.mod_eq_of_lt h]
   rw[Rd.fix,Nat.div_eq_of_lt h,aPJ,e];exact⟨by simp,by simp⟩
  ·have e:Lib.decDigits x=Lib.decDigits (x/10)++[Rd.Rh x]:=by
    conv=>lhs;rw[Lib.decDigits,dif_neg h]
    rfl
   rw[Nat.pow_succ]at a
   have hc:0<c:=by
    rcases Nat.eq_zero_or_pos c with h0|h0
    ·subst h0;simp at a;omega
    ·exact h0
   obtain⟨b,d⟩:=f (x/10) (by omega) hc;rw[Rd.fix,d,e];refine⟨by simp;exact b,?_⟩;simp only[List.length_append,List.length_singleton,List.append_assoc];congr 2;omega
variable {k:Nat}
theorem yV {x:Nat}(h:x<2^k):(Lib.decDigits x).length<=k+1:=by
 have a:2^k<=10^(k+1):=by
  rw[Nat.pow_succ];have:=Nat.pow_le_pow_left (show 2<=10 by decide) k;omega
 exact(aNc (k+1) x (by omega) (by omega)).1
def mR (N:Nat)(R:LN)(l:EW):Prop:=(N=0/\R=[]/\l=[])\/(0<N/\(R=[]->l=Lib.decDigits N)/\(R≠[]->Lib.decDigits (Nm.val 4294967296 R).toNat++l=Lib.decDigits N))
def Tm (w:World)(N a:Nat)(d b:Value)(wr:World):Prop:=
 ∃(s:ByteArray) (l:EW) (R:LN),d=.string s/\eH s l/\Lims wr R b/\Nm.Good 4294967296 R/\R.length<=10000000/\a=(Nm.val 4294967296 R).toNat/\mR N R l/\Below w.heap.size w wr
variable {s:LN}
theorem aQC (h:mR w s A)(e:w<2^k):A.length<=k+1:=by
 rcases h with⟨_,_,rfl⟩|⟨_,b,d⟩
 ·simp
 ·have:=yV e
  by_cases a:s=[]
  ·rw[b a];exact this
  ·rw[<-d a]at this;simp at this;omega
theorem aOP {Q:LN}(h:mR w s A)(d:s≠[])(i:Nm.Good 4294967296 s)(b:Nm.Good 4294967296 Q)(p:Nm.val 4294967296 Q=Nm.val 4294967296 s/1000000000):
  mR w Q ((bif Q.isEmpty then Lib.decDigits (Nm.val 4294967296 s%1000000000).toNat else Rd.fix 9 (Nm.val 4294967296 s%1000000000).toNat)++A):=by
 rcases h with⟨_,k,_⟩|⟨j,_,g⟩
 ·exact absurd k d
 ·refine Or.inr ⟨j,?_,?_⟩
  ·intro a;have o:=(Nm.Fx (by decide) b).2 a;have f:=Nm.rS (by decide) i.eU;subst a;rw[show([]:LN).isEmpty=true from rfl,cond_true,<-g d];congr 2;omega
  ·intro a
   have o:Nm.val 4294967296 Q≠0:=fun e=>a ((Nm.Fx (by decide) b).1 e)
   have f:=Nm.rS (by decide) b.eU
   have n:Q.isEmpty=false:=by cases Q with|nil=>exact absurd rfl a|cons _ _=>rfl
   rw[n,cond_false,<-g d,<-List.append_assoc];congr 1;have:=Rd.aSz 9 (Nm.val 4294967296 Q).toNat (Nm.val 4294967296 s%1000000000).toNat (by omega) (by omega);rw[<-this];congr 1;omega
theorem aMU (x:Nat):0<(Lib.decDigits x).length:=by
 rw[Lib.decDigits]
 split<;>simp
def Kz (w:World)(Q:LN)(d:EW)(a:Value)(wr:World):Prop:=
 ∃(s:ByteArray) (j:Nat),a=.string s/\eH s (List.replicate j 48++d)/\j+d.length<=9/\(Q=[]->j=0)/\wr=w
theorem aMp (w:World)(F:Bool)(a:LN)(S:Option Addr)(g n N:Nat)(ha:Lims w a (.slice S a.length g))(ga:Nm.Good 4294967296 a)(bm:a.length<=1000000)(hN:Nm.val 4294967296 a=N)(hn:N<2^n)(bo:n<=1000000)(ht:mS w):
  Calls prog 18 #[.agg #[.bool F,.slice S a.length g]] w (dS w (bif decide (N=0)then [48]else(bif F then [45]else [])++Lib.decDigits N)):=by
 have HA:=hid ha;have GA:=hid ga;have HT:=hid ht;have Y:=hid hN;have aa:=hid hn;have v:Hid (Below w.heap.size w (w.alloc (.cells #[.bool F,.slice S a.length g] 56))):=aW (Below.refl _ _) (Nat.le_refl _) _;clear ha ga ht hN hn
 go_enter func18,ntmps18
 go_wp2_with fail
 go_loopg [3,4] N (fun gk t r wr=>Tm (w.alloc (.cells #[.bool F,.slice S a.length g] 56)) N gk t r wr)
 case atStart=>
  refine⟨_,[],a,rfl,eH.mk' [],HA.out.alloc _,GA.out,by omega,by rw[Y.out];simp,?_,Below.refl _ _⟩;have hz:=Nm.Fx (by decide) GA.out;rw[Y.out]at hz
  by_cases h:N=0
  ·exact Or.inl ⟨h,hz.1 (by omega),rfl⟩
  ·refine Or.inr ⟨by omega,fun e=>absurd (hz.2 e) (by omega),fun _=>?_⟩;rw[Y.out];simp
 case round=>
  obtain⟨s,l,R,rfl,hS,hR,gR,bh,L,b,q⟩:=hrel;have E:=hid hS;have HR:=hid hR;have H:=hid gR;have X:=hid L;have x:=hid b;have D:=hid q;have aj:=aQC b aa.out
  have br:s.size<=1000010:=by rw[hS.size];omega
  obtain⟨ro,rc,rfl,_⟩:=hR.shape;clear hS hR gR L b q aj
  by_cases k:R=[]
  ·subst k
   have r0:wr.cell? ⟨w.heap.size,0,none⟩=some (.bool F):=by
    rw[D.out.cell (by simp)];exact bH (vN _ _) rfl
   by_cases J:N=0
   ·have O:l=[]:=by
     rcases x.out with⟨_,_,h⟩|⟨h,_⟩
     ·exact h
     ·omega
    have ai:s=⟨#[]⟩:=by
     have:=E.out.size;rw[O]at this;obtain⟨d⟩:=s;have h2:d.size=0:=this;rw[Array.eq_empty_of_size_eq_zero h2]
    subst ai
    go_wp2_with fail
    go_ret
    exact⟨_,rfl,(eH.mk' [48]).to (by rw[decide_eq_true J];rfl),v.out.trans (D.out.mono v.out.size)⟩
   ·have O:l=Lib.decDigits N:=by
     rcases x.out with⟨h,_⟩|⟨_,h,_⟩
     ·omega
     ·exact h rfl
    have ah:0<s.size:=by rw[E.out.size,O];exact aMU N
    obtain⟨z1,z2⟩:=aJG ah;have HL:=hid O;have HD:=hid (decide_eq_false J);clear O;cases F
    ·go_wp2_with fail
     go_ret
     exact⟨_,rfl,E.out.to (by rw[HD.out,HL.out];rfl),v.out.trans (D.out.mono v.out.size)⟩
    ·go_wp2_with fail
     go_ret
     exact⟨_,rfl,((eH.mk' [45]).app E.out).to (by rw[HD.out,HL.out];rfl),v.out.trans (D.out.mono v.out.size)⟩
  ·have bj:(0:Int)<R.length:=by have:=List.length_pos_iff.2 k;omega
   have bi:=Nm.rS (by decide) H.out.eU
   have bk:Nm.val 4294967296 R≠0:=fun e=>k ((Nm.Fx (by decide) H.out).1 e)
   have DS:=hid (aFA wr R _ HR.out (by omega) H.out.eU)
   go_wp2_with fail
   refine(DS.out).mono ?_;rintro e w1⟨qv,Q,rfl,A,T,U,B⟩;have bp:=B.size;obtain⟨qo,qc,rfl,_⟩:=A.shape;have bf:=Gh T H.out (by rw[U];omega);have TS:=hid (aOP x.out k H.out T U)
   have f:Hid ((Nm.val 4294967296 Q).toNat<gk):=by show _<_;rw[X.out,U];omega
   have m0:0<=Nm.val 4294967296 R%1000000000:=by omega
   have m1:Nm.val 4294967296 R%1000000000<1000000000:=by omega
   have HQ:=hid (A.bO (Nat.zero_le _));have GQ:=hid T;have W:=hid (D.out.trans (B.mono D.out.size));have IT:=hid (Od (Nm.val 4294967296 R%1000000000) ⟨m0,m1⟩ w1 ((HT.out.below v.out).below (W.out.mono (by simp))));clear A T U B DS;generalize Nm.val 4294967296 R%1000000000=low at*
   go_wp2_with fail
   refine(IT.out).mono ?_;rintro e w2⟨u,rfl,hu,a7,o⟩;have bq:=o.size
   obtain⟨wo,al⟩:∃wo:World,wo=wr:=⟨_,rfl⟩
   subst al
   have P:Rd.dec low=Lib.decDigits low.toNat:=by unfold Rd.dec;rfl
   rw[P]at hu
   have ad:Hid (eH u (Lib.decDigits low.toNat)):=⟨hu⟩
   have FP:=hid (aNc 9 low.toNat (by omega) (by decide));have B2:=hid (W.out.trans (o.mono W.out.size));have I:=hid (HQ.out.below o);clear hu P IT o
   go_wp2_with fail
   go_loopw [7] (fun p wr=>Kz w2 Q (Lib.decDigits low.toNat) p wr) (fun p _=>match p with|.string t=>9-t.size|_=>0)
   case atStart=>exact⟨u,0,rfl,ad.out.to (by simp),by have:=FP.out.1;omega,fun _=>rfl,rfl⟩
   case round=>
    obtain⟨t,j,rfl,hT,hj,M,rfl⟩:=hrel
    have bt:t.size=j+(Lib.decDigits low.toNat).length:=by rw[hT.size];simp
    have y:=hid hT
    have bs:t.size<=9:=by omega
    clear hT
    by_cases i:Q=[]
    ·subst i;have j0:=M rfl;subst j0;have z:Hid (mR N [] (Lib.decDigits low.toNat++l)):=TS.out;have ab:Hid (eH t (Lib.decDigits low.toNat)):=y.out;clear M
     go_wp2_with fail
     go_roundg 0
     case measure=>exact f.out
     case rel=>exact⟨_,_,[],rfl,ab.out.app E.out,I.out,GQ.out,by simp,rfl,z.out,B2.out⟩
    ·have bg:(0:Int)<Q.length:=by have:=List.length_pos_iff.2 i;omega
     by_cases h9:(t.size:Int)<9
     ·go_wp2_with fail
      go_roundw
      case rel=>exact⟨_,j+1,rfl,((eH.mk' [48]).app y.out).to (by rw[List.replicate_succ];rfl),by omega,fun e=>absurd e i,rfl⟩
      case measure=>
       simp only[ByteArray.size_append];have h1:(⟨#[48]⟩:ByteArray).size=1:=rfl;omega
     ·have C:Hid (List.replicate j 48++Lib.decDigits low.toNat=Rd.fix 9 low.toNat):=by
       show _=_;rw[FP.out.2];congr 2;omega
      have he:Q.isEmpty=false:=by cases Q with|nil=>exact absurd rfl i|cons _ _=>rfl
      have z:Hid (mR N Q (Rd.fix 9 low.toNat++l)):=by have:=TS.out;rw[he]at this;exact this
      go_wp2_with fail
      go_roundg ((Nm.val 4294967296 Q).toNat)
      case measure=>exact f.out
      case rel=>exact⟨_,_,Q,rfl,(y.out.app E.out).to (by rw[C.out]),I.out,GQ.out,by omega,rfl,z.out,B2.out⟩
theorem aPc (w:World)(z:Int)(v:Value)(n:Nat)(h:WhoAt w z v)(f:z.natAbs<2^n)(l:n<=1000000)(o:mS w):Calls prog 18 #[v] w (dS w (Nm.text z)):=by
 obtain⟨j,i,b,rfl,k,g,hv⟩:=h.open;have p:=xN g hv f;have a:=aMp w (decide (z<0)) j i b n z.natAbs k g (by omega) hv f l o
 have e:(bif decide (z.natAbs=0)then [48]else(bif decide (z<0)then [45]else [])++Lib.decDigits z.natAbs)=Nm.text z:=by
  unfold Nm.text
  by_cases d:z.natAbs=0
  ·rw[decide_eq_true d,d,decide_eq_false (show¬z<0 by omega)];show [48]=[]++Lib.decDigits 0;rw[Lib.decDigits_one (by decide)];rfl
  ·rw[decide_eq_false d];rfl
 rw[e]at a;exact a
open Ab
open Rf (Wt dU)
theorem aPN {m:Int}{x g:Value}(h:aU true n [m] [x,g]):WhoAt n m (.agg #[x,g]):=by
 obtain⟨b,⟨a,d,e,f⟩,_⟩:=h;subst b;exact⟨a,g,rfl,d,e,f⟩
def Yt (w:World)(a:Option Int)(e:Ending)(b:World):Prop:=Chg w b []/\match a with
 |none=>e=.returned (.tuple #[.string ⟨#[]⟩,.int .i64 6])
 |some m=>∃s:ByteArray,e=.returned (.tuple #[.string s,.int .i64 0])/\eH s (Nm.text m)
theorem aIa (w:World)(y:Nat)(T:Rd.Tr)(u:Wt)(n c:Nat)(r:ExAt w y T)(q:planT T=some u)(N:n<=60)(hc:c<=3000)(z:mS w):Calls prog 8 #[.pointer (some ⟨y,0,none⟩),.int .i64 (n:Int),.int .i64 (c:Int)] w (Yt w (decT u n c)):=by
 have D:=hid (aKf w y T n c r (by omega) (by omega) (by omega) (by omega));have J:=hid (r.ok q);have I:=hid q;have H:=hid z;clear r q z
 go_enter func8,ntmps8
 go_wp2_with fail
 refine(D.out).mono ?_;rintro e O a;rw[I.out]at a;obtain⟨d,v,rfl,p⟩:=a;obtain⟨pb,rfl⟩:=aJ.ptr u v p;have i:=hid d;have E:=hid p;clear d p;unfold ptrB
 go_wp2_with fail
 refine(aLy _ u pb n c J.out E.out N hc).mono ?_;rintro e x⟨f,h⟩;have j:=hid f;clear f
 cases g:decT u n c with
 |none=>
  rw[g]at h;simp only at h;subst h
  go_wp2_with fail
  refine bodyPost_ret (v:=.tuple #[.string ⟨#[]⟩,.int .i64 6]) (by simp[results,results8,go_sem]) rfl ?_;rw[g];exact⟨(i.out.trans j.out).trans (Chg.alloc _ _),rfl⟩
 |some m=>
  rw[g]at h;simp only at h;obtain⟨L,ln,cp,rfl,B,A⟩:=h;have WT:=hid (fun o=>aPc (x.alloc o) m (.agg #[.bool (decide (m<0)),.slice L ln cp]) 20000 (aPN (mC (Chg.alloc x o).on B)) A (by decide) (Lib.tabBelow_of_tabIs H.out _ (((i.out.trans j.out).trans (Chg.alloc x o)).below (Nat.le_refl _) (fun k M=>by simp at M))));clear B A
  go_wp2_with fail
  refine(WT.out _).mono ?_;rintro e P⟨s,rfl,C,b⟩;have F:=hid C;have l:=hid b;clear C b
  go_wp2_with fail
  refine bodyPost_ret (v:=.tuple #[.string s,.int .i64 0]) (by simp[results,results8,go_sem]) rfl ?_;rw[g];exact⟨((i.out.trans j.out).trans (Chg.alloc _ _)).trans (Chg.eF l.out),s,rfl,F.out⟩
namespace Rf
open Nw
def sh (δ:Int)(s:St):St:=⟨s.nodes,s.clock-δ⟩
def Sh {b:Type}(a:Int)(bad:b)(x y:St×b):Prop:=(x.2=bad->y.2=bad)/\(x.2≠bad->(0<=x.1.clock-a/\y=(sh a x.1,x.2))\/(x.1.clock-a<0/\y.2=bad))
variable {v:Int}{s:St}
theorem Sh.same {b:Type}{bad:b}{a:b}(h:0<=s.clock-v)(hv:a≠bad):Sh v bad (s,a) (sh v s,a):=⟨fun e=>absurd e hv,fun _=>Or.inl ⟨h,rfl⟩⟩
theorem Sh.bad {a:Type}{v:Int}{bad:a}{s t:St}:Sh v bad (s,bad) (t,bad):=⟨fun _=>rfl,fun e=>absurd rfl e⟩
theorem Sh.out {a:Type}{b:Int}{bad:a}{t:St}{v:a}(h:s.clock-b<0):Sh b bad (s,v) (t,bad):=⟨fun _=>rfl,fun _=>Or.inr ⟨h,rfl⟩⟩
variable {i:Nat}
theorem aPa {δ:Int}{f:St}{n:Nd}(h:wide s i n k=some f):wide (sh δ s) i n k=some (sh δ f)/\f.clock=s.clock:=by
 unfold wide at*;split at h
 ·rename_i e;rw[if_pos e];obtain⟨d,g,j⟩:=Option.bind_eq_some_iff.1 h;obtain⟨ns,l,rfl⟩:=Option.map_eq_some_iff.1 j;have a:deeper (sh δ s).nodes n=some d:=g;refine⟨?_,rfl⟩;rw[a];simp only[Option.bind_some];have b:put d.1 i {n with args:=n.args++[d.2],read:=n.read++[0]}=some ns:=l;rw[b];rfl
 ·rename_i e;rw[if_neg e];cases h;exact⟨rfl,rfl⟩
variable {x:St×Bool}
theorem aPi (p:0<=v)(h:after s i k=some x):(∃y,after (sh v s) i k=some y/\Sh v false x y)/\(x.2=true->x.1.clock=s.clock-1):=by
 unfold after at*;obtain⟨n,g,j⟩:=Option.bind_eq_some_iff.1 h;obtain⟨ns,l,d⟩:=Option.bind_eq_some_iff.1 j;have a:(sh v s).nodes[i]?=some n:=g;have b:put (sh v s).nodes i {n with read:=bump n.read k}=some ns:=l;simp only[a,b,Option.bind_some];have hc:(sh v s).clock=s.clock-v:=rfl;rw[hc];split at d
 ·rename_i e;cases d;rw[if_pos (by omega)];exact⟨⟨_,rfl,Sh.bad⟩,fun e=>by cases e⟩
 ·rename_i e;obtain⟨q,o,rfl⟩:=Option.map_eq_some_iff.1 d;refine⟨?_,fun _=>rfl⟩
  by_cases f:s.clock-v-1<0
  ·rw[if_pos f];exact⟨_,rfl,Sh.out (by simp only;omega)⟩
  ·rw[if_neg f,o];refine⟨_,rfl,⟨(fun e:true=false=>absurd e (by decide)),fun _=>Or.inl ⟨(by omega:0<=s.clock-1-v),?_⟩⟩⟩;simp only[sh];congr 2;omega
theorem aJ9 (h:after s i k=some x):x.1.clock<=s.clock:=by
 unfold after at h;obtain⟨n,e,b⟩:=Option.bind_eq_some_iff.1 h;obtain⟨ns,f,a⟩:=Option.bind_eq_some_iff.1 b;split at a
 ·cases a;simp only;omega
 ·obtain⟨d,g,rfl⟩:=Option.map_eq_some_iff.1 a;simp only;omega
theorem aQn (M:0<=v){l:St->Nat->Nat->Option (St×Option Int)}(A:∀s i j x,l s i j=some x->0<=s.clock-v->(∃y,l (sh v s) i j=some y/\Sh v none x y)/\x.1.clock<=s.clock){d:Nd}(hc:0<=s.clock-v)(h:reads l s i d=some x):(∃y,reads l (sh v s) i d=some y/\Sh v false x y)/\x.1.clock<=s.clock:=by
 unfold reads at*;split at h
 ·rename_i e;rw[if_pos e];obtain⟨m,B,H⟩:=Option.bind_eq_some_iff.1 h;obtain⟨ns,I,rfl⟩:=Option.map_eq_some_iff.1 H;rw[B];simp only[Option.bind_some];have o:put (sh v s).nodes i {d with part:=d.part.mul m,k:=d.k+1}=some ns:=I;rw[o];have q:(sh v s).clock=s.clock-v:=rfl;rw[q];refine⟨⟨_,rfl,⟨?_,?_⟩⟩,(by show s.clock-1<=s.clock;omega)⟩
  ·intro L;have L:decide (0<=s.clock-1)=false:=L;rw[decide_eq_false_iff_not]at L;exact decide_eq_false (by omega)
  ·intro g
   have g:0<=s.clock-1:=by
    have:¬decide (0<=s.clock-1)=false:=g;rw[decide_eq_false_iff_not,Decidable.not_not]at this;exact this
   by_cases O:0<=s.clock-1-v
   ·refine Or.inl ⟨O,?_⟩
    have R:s.clock-v-1=s.clock-1-v:=by omega
    simp only[sh];rw[R];simp only[decide_eq_true O,decide_eq_true g]
   ·exact Or.inr ⟨(by show s.clock-1-v<0;omega),decide_eq_false (by omega)⟩
 ·rename_i e;rw[if_neg e];obtain⟨sd,B,H⟩:=Option.bind_eq_some_iff.1 h;obtain⟨P,I,U⟩:=Option.bind_eq_some_iff.1 H;obtain⟨n1,W,X⟩:=Option.bind_eq_some_iff.1 U;obtain⟨a,Y,h8⟩:=Option.bind_eq_some_iff.1 X;obtain⟨r,h9,D⟩:=Option.bind_eq_some_iff.1 h8;obtain⟨z,E,f⟩:=Option.bind_eq_some_iff.1 D;have C:side (sh v s).nodes d=some sd:=B;obtain⟨o,q⟩:=aPa (δ:=v) I;rw[C];simp only[Option.bind_some];rw[o];simp only[Option.bind_some];have J:(sh v P).nodes[i]?=some n1:=W;rw[J];simp only[Option.bind_some,Y,h9];obtain⟨⟨y,F,p⟩,w⟩:=A P a r z E (by omega);rw[F];simp only[Option.bind_some];obtain⟨zs,zv⟩:=z
  cases zv with
  |none=>
   simp only at f;cases f;have hy:=p.1 rfl;rw[hy];exact⟨⟨_,rfl,Sh.bad⟩,by simp only at w ⊢;omega⟩
  |some b=>
   simp only at f w;obtain⟨⟨u,S,T⟩,g3⟩:=aPi M f;have hx:x.1.clock<=zs.clock:=aJ9 f;refine⟨?_,by omega⟩
   rcases p.2 (by simp)with⟨k1,N⟩|⟨k1,N⟩
   ·rw[N];simp only;exact⟨u,S,T⟩
   ·rw[N];simp only;refine⟨_,rfl,fun _=>rfl,fun g=>Or.inr ⟨?_,rfl⟩⟩;simp only at k1;omega
theorem Qg:∀(f:Nat) (s:St) (i j:Nat) (x:St×Option Int),sym f s i j=some x->x.1.clock<=s.clock
 |0,s,i,j,x,h=>by simp[sym]at h
 |f+1,s,i,j,x,h=>by
  unfold sym at h;obtain⟨n,I,g⟩:=Option.bind_eq_some_iff.1 h
  cases u:n.out[j]? with
  |some c=>rw[u]at g;cases g;exact Int.le_refl _
  |none=>
   rw[u]at g;simp only at g;obtain⟨o,J,d⟩:=Option.bind_eq_some_iff.1 g
   cases o with
   |some c=>
    simp only at d;split at d
    ·cases d;simp only;omega
    ·obtain⟨F,e,k⟩:=Option.bind_eq_some_iff.1 d;obtain⟨ns,L,h8⟩:=Option.map_eq_some_iff.1 e;subst h8;have:=Qg f _ i j x k;simp only at this;omega
   |none=>
    simp only at d;obtain⟨z,e,k⟩:=Option.bind_eq_some_iff.1 d
    have B:z.1.clock<=s.clock:=by
     unfold reads at e;split at e
     ·obtain⟨m,k1,q⟩:=Option.bind_eq_some_iff.1 e;obtain⟨ns,w,rfl⟩:=Option.map_eq_some_iff.1 q;simp only;omega
     ·obtain⟨S,k1,q⟩:=Option.bind_eq_some_iff.1 e;obtain⟨F,w,C⟩:=Option.bind_eq_some_iff.1 q;obtain⟨P,M,D⟩:=Option.bind_eq_some_iff.1 C;obtain⟨a,N,E⟩:=Option.bind_eq_some_iff.1 D;obtain⟨r,O,l⟩:=Option.bind_eq_some_iff.1 E;obtain⟨y,p,b⟩:=Option.bind_eq_some_iff.1 l;have A:=Qg f _ _ _ y p;have R:=(aPa (δ:=0) w).2;obtain⟨T,H⟩:=y
      cases H with
      |none=>simp only at b;cases b;simp only at A ⊢;omega
      |some v=>
       simp only at b A;have:=aJ9 b;omega
    split at k
    ·have:=Qg f _ i j x k;omega
    ·cases k;exact B
theorem aRK {v:Int}(g:0<=v):∀(f:Nat) (s:St) (i j:Nat) (x:St×Option Int),sym f s i j=some x->0<=s.clock-v->(∃y,sym f (sh v s) i j=some y/\Sh v none x y)/\x.1.clock<=s.clock
 |0,s,i,j,x,h,_=>by simp[sym]at h
 |f+1,s,i,j,x,h,hc=>by
  have B:=aRK g f;unfold sym at h ⊢;obtain⟨n,I,d⟩:=Option.bind_eq_some_iff.1 h;have q:(sh v s).nodes[i]?=some n:=I;rw[q];simp only[Option.bind_some]
  cases E:n.out[j]? with
  |some c=>
   rw[E]at d;cases d;exact⟨⟨_,rfl,Sh.same hc (by simp)⟩,Int.le_refl _⟩
  |none=>
   rw[E]at d;simp only at d ⊢;obtain⟨o,J,b⟩:=Option.bind_eq_some_iff.1 d;have r:(if n.aP then some none else next (sh v s).nodes n)=some o:=J;rw[r];simp only[Option.bind_some]
   cases o with
   |some c=>
    simp only at b ⊢;have w:(sh v s).clock=s.clock-v:=rfl;rw[w];split at b
    ·rename_i e;cases b;rw[if_pos (by omega)];exact⟨⟨_,rfl,Sh.bad⟩,by simp only;omega⟩
    ·rename_i e;obtain⟨P,u,a⟩:=Option.bind_eq_some_iff.1 b;obtain⟨ns,L,h8⟩:=Option.map_eq_some_iff.1 u;subst h8
     by_cases D:s.clock-v-1<0
     ·rw[if_pos D];have A:x.1.clock<=s.clock-1:=Qg f _ i j x a;exact⟨⟨_,rfl,fun _=>rfl,fun _=>Or.inr ⟨by omega,rfl⟩⟩,by omega⟩
     ·rw[if_neg D];obtain⟨⟨y,p,k⟩,l⟩:=B ⟨ns,s.clock-1⟩ i j x a (by simp only;omega)
      have F:give (sh v s) i n c=some (sh v ⟨ns,s.clock-1⟩):=by
       unfold give;have:put (sh v s).nodes i {n with out:=n.out++[c],told:=n.told.mul (Mt.sym c),dT:=n.dT++[n.told.mul (Mt.sym c)]}=some ns:=L;rw[this];simp only[Option.map_some,sh];congr 2;omega
      rw[F];simp only[Option.bind_some];simp only at l;exact⟨⟨y,p,k⟩,by omega⟩
   |none=>
    simp only at b ⊢;obtain⟨z,u,a⟩:=Option.bind_eq_some_iff.1 b;obtain⟨⟨y,p,k⟩,l⟩:=aQn g B hc u;rw[p];simp only[Option.bind_some];obtain⟨N,M⟩:=z
    cases M with
    |false=>
     simp at a;cases a;rw[k.1 rfl];exact⟨⟨_,rfl,Sh.bad⟩,l⟩
    |true=>
     simp at a;have A:=Qg f _ i j x a;simp only at l
     rcases k.2 (by simp)with⟨k1,C⟩|⟨k1,C⟩
     ·rw[C];simp only[if_true];obtain⟨H,O⟩:=B N i j x a k1;exact⟨H,by omega⟩
     ·rw[C];simp only[Bool.false_eq_true,if_false];simp only at k1;exact⟨⟨_,rfl,fun _=>rfl,fun _=>Or.inr ⟨by omega,rfl⟩⟩,by omega⟩
end Rf
namespace Ab
open Rf (Nd Inv aZ Wt dU sh Sh)
theorem aRi {w:Nat}{n:Int}{top:Nat}{z:Int}(i:0<=z):∀(m:Nat) (s:Rf.St) (r:Nat) (a b c d:Int) (g:NU) (k:Nat) (n0:Nd),s.clock=(k:Int)->k<=3000->Inv s.nodes g k->s.nodes[top]?=some n0->r<=n0.out.length->k+g top+2<=w->0<=s.clock-z->mI w n top m (sh z s) r a b c d=none\/mI w n top m (sh z s) r a b c d=mI w n top m s r a b c d
 |0,s,r,a,b,c,d,g,k,n0,_,_,_,_,_,_,_=>Or.inl rfl
 |m+1,s,r,a,b,c,d,g,k,n0,l,L,I,q,O,J,H=>by
  unfold mI
  cases X:oF a b c d n with
  |true=>exact Or.inr rfl
  |false=>
   simp only[Bool.false_eq_true,if_false];obtain⟨x,u,N⟩:=Rf.total w s top r g k l L I n0 q O J;obtain⟨⟨y,R,p⟩,M⟩:=Rf.aRK i w s top r x u H;rw[u,R];obtain⟨U,v⟩:=x;obtain⟨Y,A⟩:=y
   cases v with
   |none=>
    have:A=none:=p.1 rfl;subst this;exact Or.inl rfl
   |some e=>
    rcases p.2 (by simp)with⟨o,j⟩|⟨o,j⟩
    ·simp only[Prod.mk.injEq]at j;obtain⟨rfl,rfl⟩:=j;obtain⟨h,S,W,B,C,D,T,E,F⟩:=N.ex e rfl;have P:h top=g top:=D.agree top (List.getElem?_eq_some_iff.1 q).1;exact aRi i m U (r+1) _ _ _ _ h S T B (by omega) C E F (by omega) o
    ·have:A=none:=j;subst this;exact Or.inl rfl
theorem aMT {H:Wt}(f:H.Ok){n c p:Nat}(hc:c<=3000)(l:p<=c):decT H n p=none\/decT H n p=decT H n c:=by
 obtain⟨ns,a,d,b,g,h,k,_⟩:=Rf.qB (c:=c) H [] (fun _=>0) f hc (Rf.Vq _ _);have j:ns[d]?=some ns[d]:=List.getElem?_eq_getElem h;unfold decT;rw[b,Option.bind_some,Option.bind_some]
 have i:c+a d+2<=dU H:=by unfold dU;omega
 have e:(⟨ns,(p:Int)⟩:Rf.St)=sh ((c:Int)-p) ⟨ns,c⟩:=by
  show _=(⟨ns,(c:Int)-((c:Int)-p)⟩:Rf.St);congr 1;omega
 have:=aRi (n:=n) (top:=d) (show(0:Int)<=(c:Int)-p by omega) 3002 ⟨ns,c⟩ 0 1 0 0 1 a c ns[d] rfl hc g.inv j (Nat.zero_le _) i (by show(0:Int)<=(c:Int)-((c:Int)-p);omega);rw[<-e]at this;exact this
end Ab
def pickI (c:Int)(n:Nat):Nat:=if c<0 then((-(c+1))%(n:Int)).toNat else(c%(n:Int)).toNat
theorem xO (c:Int)(n:Nat)(a:0<n):pickI c n<n:=by
 unfold pickI;split
 ·have:=Int.emod_lt_of_pos (-(c+1)) (show(0:Int)<n by omega);omega
 ·have:=Int.emod_lt_of_pos c (show(0:Int)<n by omega);omega
theorem vQ (c:Int)(n:Nat)(w:World)(d:-9223372036854775808<=c)(f:c<=9223372036854775807)(h:0<n)(g:n<=4000000):
  Calls prog 6 #[.int .i64 c,.int .i64 n] w fun e b=>e=.returned (.int .i64 (pickI c n))/\w=b:=by
 by_cases hc:c<0
 ·have a:-(c+1).tmod (n:Int)=(pickI c n:Int):=by
   rw[pickI,if_pos hc,<-Int.neg_tmod,Int.tmod_eq_emod_of_nonneg (by omega),Int.toNat_of_nonneg (Int.emod_nonneg _ (by omega))]
  generalize pickI c n=i at*;have E:=aC a;clear a
  go_enter func6,ntmps6
  go_wp2_with fail
  go_ret
  exact⟨zB E.out,rfl⟩
 ·have a:c%(n:Int)=(pickI c n:Int):=by
   rw[pickI,if_neg hc,Int.toNat_of_nonneg (Int.emod_nonneg _ (by omega))]
  generalize pickI c n=i at*;have E:=aC a;clear a
  go_enter func6,ntmps6
  go_wp2_with fail
  go_ret
  exact⟨zB E.out,rfl⟩
theorem Uq {b:World}(h:Chg n b []):Below n.heap.size n b:=h.below (Nat.le_refl _) (fun k a=>by simp at a)
theorem aPo {b J:World}(h:Below n.heap.size n b)(a:Below b.heap.size b J):Below n.heap.size n J:=h.trans (a.mono h.size)
theorem aGS (w:World):Chg w w.drew []:=⟨⟨rfl,rfl,rfl,Nat.le_refl _,fun _ _ h=>Or.inl h⟩,fun _ _ _=>rfl⟩
theorem aH9 (w:World)(b:Nat)(T:Rd.Tr)(k c:Nat)(g:ExAt w b T)(f:planT T=none)(n:k<=60)(hc:c<=3000):Calls prog 8 #[.pointer (some ⟨b,0,none⟩),.int .i64 (k:Int),.int .i64 (c:Int)] w fun e l=>e=.returned (.tuple #[.string ⟨#[]⟩,.int .i64 5])/\Chg w l []:=by
 have h:=hid (aKf w b T k c g (by omega) (by omega) (by omega) (by omega));have j:=hid f;clear g f
 go_enter func8,ntmps8
 go_wp2_with fail
 refine(h.out).mono ?_;rintro e o d;rw[j.out]at d;obtain⟨a,rfl⟩:=d;have i:=hid a;clear a
 go_wp2_with fail
 refine bodyPost_ret (v:=.tuple #[.string ⟨#[]⟩,.int .i64 5]) (by simp[results,results8,go_sem]) rfl ?_;exact⟨rfl,i.out⟩
def Hv (T:Rd.Tr)(n c:Nat)(s:ByteArray)(e:Int):Prop:=(planT T=none/\s=⟨#[]⟩/\e=5)\/∃u,planT T=some u/\((decT u n c=none/\s=⟨#[]⟩/\e=6)\/∃m,decT u n c=some m/\eH s (Nm.text m)/\e=0)
theorem aJn (w:World)(f:Nat)(T:Rd.Tr)(n c:Nat)(j:ExAt w f T)(i:n<=60)(hc:c<=3000)(k:mS w):Calls prog 8 #[.pointer (some ⟨f,0,none⟩),.int .i64 (n:Int),.int .i64 (c:Int)] w fun e g=>∃s e',e=.returned (.tuple #[.string s,.int .i64 e'])/\Hv T n c s e'/\Chg w g []:=by
 cases b:planT T with
 |none=>
  refine(aH9 w f T n c j b i hc).mono ?_;rintro e g⟨rfl,a⟩;exact⟨_,_,rfl,Or.inl ⟨b,rfl,rfl⟩,a⟩
 |some u=>
  refine(aIa w f T u n c j b i hc k).mono ?_;rintro e g⟨a,h⟩
  cases d:decT u n c with
  |none=>
   rw[d]at h;simp only at h;subst h;exact⟨_,_,rfl,Or.inr ⟨u,b,Or.inl ⟨d,rfl,rfl⟩⟩,a⟩
  |some m=>
   rw[d]at h;simp only at h;obtain⟨s,rfl,l⟩:=h;exact⟨s,_,rfl,Or.inr ⟨u,b,Or.inr ⟨m,d,l,rfl⟩⟩,a⟩
theorem aQI (m:Int):0<(Nm.text m).length:=by
 unfold Nm.text;have:=aMU m.natAbs;simp;omega
variable {s:ByteArray}{e:Int}
theorem aMS {a:World}{T:Rd.Tr}(q:ExAt a w T){n c c':Nat}{s':ByteArray}{e':Int}(hc:c<=3000)(p:c'<=c)(h:Hv T n c s e)(f:Hv T n c' s' e'):((e=0/\0<s.size)\/(e≠0/\s=⟨#[]⟩))/\((e'=6/\s'=⟨#[]⟩)\/(e'≠6/\e'=e/\s'=s)):=by
 rcases h with⟨g,rfl,rfl⟩|⟨u,g,h⟩
 ·rcases f with⟨_,rfl,rfl⟩|⟨v,b,_⟩
  ·exact⟨Or.inr ⟨by decide,rfl⟩,Or.inr ⟨by decide,rfl,rfl⟩⟩
  ·rw[g]at b;cases b
 ·rcases f with⟨b,_⟩|⟨v,b,f⟩
  ·rw[g]at b;cases b
  ·rw[g]at b;cases b;have i:=aMT (q.ok g) (n:=n) hc p
   rcases h with⟨j,rfl,rfl⟩|⟨m,j,o,rfl⟩
   ·refine⟨Or.inr ⟨by decide,rfl⟩,?_⟩
    rcases f with⟨d,rfl,rfl⟩|⟨r,d,_⟩
    ·exact Or.inl ⟨rfl,rfl⟩
    ·rcases i with e|e
     ·rw[d]at e;cases e
     ·rw[d,j]at e;cases e
   ·have l:0<s.size:=by have:=o.size;have:=aQI m;omega
    refine⟨Or.inl ⟨rfl,l⟩,?_⟩
    rcases f with⟨d,rfl,rfl⟩|⟨r,d,k,rfl⟩
    ·exact Or.inl ⟨rfl,rfl⟩
    ·rcases i with e|e
     ·rw[d]at e;cases e
     ·rw[d,j]at e;cases e;refine Or.inr ⟨by decide,rfl,?_⟩;have:=k.eq.trans o.eq.symm;cases s;cases s';simp only[ByteArray.mk.injEq];exact Array.toList_inj.1 this
theorem aNh (w:World)(f:Nat)(T:Rd.Tr)(t:ByteArray)(a b n o:Int)(y:Bool)(x:ExAt w f T)(F:mS w)(S:-9223372036854775808<=n)(U:n<=9223372036854775807)(X:-9223372036854775808<=o)(Y:o<=9223372036854775807):
  Calls prog 5 #[.agg #[.pointer (some ⟨f,0,none⟩),.string t,.int .i64 a,.int .i64 b,.bool y],.int .i64 n,.int .i64 o] w fun e A=>e=.returned (.bool true)/\Below w.heap.size w A:=by
 have O:=hid (fun w=>vQ n 7 w S U (by decide) (by decide));have P:=hid (fun w=>vQ o 1000 w X Y (by decide) (by decide));have ab:=xO n 7 (by decide);have ad:=xO o 1000 (by decide);have c1:Chg w (w.alloc (.cells #[.pointer (some ⟨f,0,none⟩),.string t,.int .i64 a,.int .i64 b,.bool y] 31)) []:=Chg.alloc _ _;have C:=hid (fun W (H:Chg w W []) c (hc:c<=3000)=>aJn W f T (pickI n 7) c (x.aS H) (by omega) hc (Lib.tabBelow_of_tabIs F W (Uq H)));have N:=hid (fun(s J:ByteArray) (e D:Int) h R=>aMS (s:=s) (s':=J) (e:=e) (e':=D) x (n:=pickI n 7) (c:=1000) (c':=pickI o 1000) (by decide) (by omega) h R);have I:(w.alloc (.cells #[.pointer (some ⟨f,0,none⟩),.string t,.int .i64 a,.int .i64 b,.bool y] 31)).cell? ⟨w.heap.size,0,none⟩=some (.pointer (some ⟨f,0,none⟩)):=bH (kO _ _) rfl;have g:=hid c1;generalize pickI n 7=i at*;generalize pickI o 1000=j at*;clear x F c1
 go_enter func5,ntmps5
 go_wp2_with fail
 refine(O.out _).mono ?_;rintro e w1⟨rfl,rfl⟩
 go_wp2_with fail
 refine(C.out _ g.out 1000 (by decide)).mono ?_;rintro e w2⟨s1,e1,rfl,p,k⟩;have r:=hid p;have B:=hid k;have z:w2.cell? ⟨w.heap.size,0,none⟩=some (.pointer (some ⟨f,0,none⟩)):=((Uq k).cell (by simp)).trans I;clear p k
 go_wp2_with fail
 go_region_held3 (fun A=>A.cell? ⟨w.heap.size,0,none⟩=some (.pointer (some ⟨f,0,none⟩))) (go_keep) (first
  |(go_at_call 6;refine(P.out _).mono ?_;rintro e L⟨rfl,rfl⟩)
  | (go_at_call 8
     refine(C.out _ ((g.out.trans B.out).trans (aGS _)) j (by omega)).mono ?_;rintro e L⟨s2,e2,rfl,q,l⟩;have x0:L.cell? ⟨w.heap.size,0,none⟩=some (.pointer (some ⟨f,0,none⟩)):=((Uq ((aGS _).trans l)).cell (Uo z)).trans z;have u:=hid (N.out _ _ _ _ r.out q);have M:=hid ((g.out.trans B.out).trans ((aGS _).trans l))
     clear q l))
 all_goals
  obtain⟨hA,E⟩:=u.out;have d:=hid (Uq M.out);clear x0 z I
  rcases hA with⟨rfl,hs⟩|⟨he,rfl⟩
  ·have ae:(0:Int)<s1.size:=by omega
   rcases E with⟨rfl,rfl⟩|⟨v,rfl,rfl⟩
   ·go_wp2_with fail
    go_ret
    exact⟨rfl,d.out⟩
   ·go_wp2_with fail
    go_ret
    exact⟨rfl,d.out⟩
  ·rcases E with⟨rfl,rfl⟩|⟨v,rfl,rfl⟩
   ·go_wp2_with fail
    go_ret
    exact⟨rfl,d.out⟩
   ·go_wp2_with fail
    go_ret
    exact⟨rfl,d.out⟩
namespace Rd
variable {ws:List Wd}
def Made (t:Tr)(st a:St):Prop:=Wf t/\mF t+st.nodes<=a.nodes
def sB (l t:Tr)(st a:St):Prop:=Wf t/\mF t+st.nodes<=a.nodes+mF l
theorem aO5 {x:Wd}(h:x.text.size<=9):cQ (valTo x.text x.text.size):=⟨aHK _ _,aLj _ _ h⟩
theorem aPe:cQ 0:=⟨by decide,by decide⟩
theorem aTK (a:kV ws)(st:St):cQ (term ws st).1/\(term ws st).2.nodes=st.nodes:=by
 unfold term
 cases b:((aB ws st.next).kind==1)with
 |false=>exact⟨aPe,rfl⟩
 |true=>
  have:=aO5 (a st.next (beq_iff_eq.1 b))
  cases valTo (aB ws st.next).text (aB ws st.next).text.size==0 with
  |true=>exact⟨aPe,rfl⟩
  |false=>exact⟨this,rfl⟩
theorem aQF (g:kV ws):∀f c ts st a b,terms ws f c ts st=some (some a,b)->(∀x∈ts,cQ x)->ts.length=c->c+f=9->(∀x∈a,cQ x)/\c+1<=a.length/\a.length<=9/\b.nodes=st.nodes:=by
 intro f
 induction f with
 |zero=>intro c ts st a b h;cases h
 |succ f r=>
  intro c ts st a b h e hc v;obtain⟨s,o⟩:=aTK g st;rw[terms]at h
  have d:∀x∈ts++[(term ws st).1],cQ x:=by
   intro x hx
   rcases List.mem_append.1 hx with hx|hx
   ·exact e x hx
   ·rw[List.mem_singleton.1 hx];exact s
  cases i:(st.okB&&(term ws st).2.okB)with
  |false=>rw[i]at h;cases h
  |true=>
   rw[i]at h;simp only[cond_true]at h
   cases j:((term ws st).1==0)with
   |true=>rw[j]at h;simp at h
   |false=>
    rw[j]at h;simp only[cond_false]at h
    cases k:tk ws (term ws st).2 ⟨#[93]⟩with
    |true=>
     rw[k]at h;simp only[cond_true,Option.some.injEq,Prod.mk.injEq]at h;obtain⟨rfl,rfl⟩:=h;exact⟨d,by simp;omega,by simp;omega,o⟩
    |false=>
     rw[k]at h;simp only[cond_false]at h
     cases l:(c==8)with
     |true=>rw[l]at h;simp at h
     |false=>
      rw[l]at h;simp only[cond_false]at h
      cases n:tk ws (term ws st).2 ⟨#[44]⟩with
      |false=>rw[n]at h;simp at h
      |true=>
       rw[n]at h;simp only[cond_true]at h;obtain⟨a1,u,p,q⟩:=r _ _ _ _ _ h d (by simp;omega) (by omega);exact⟨a1,by omega,p,q.trans o⟩
variable {st:St}
theorem aH2 (a:kV ws){b:St}{t:Tr}(h:continued ws st=some (some t,b)):Made t st b:=by
 unfold continued at h
 cases g:(decide (st.next<900)&&st.okB)with
 |false=>rw[g]at h;cases h
 |true=>
  rw[g]at h;simp only[cond_true]at h
  cases i:tk ws st ⟨#[91]⟩with
  |false=>rw[i]at h;simp at h
  |true=>
   rw[i]at h;simp only[cond_true]at h
   cases d:((aB ws st.aM.next).kind==1)with
   |false=>rw[d]at h;simp at h
   |true=>
    rw[d]at h;simp only[cond_true]at h
    cases j:tk ws st.aM.aM ⟨#[59]⟩with
    |false=>rw[j]at h;simp at h
    |true=>
     rw[j]at h;simp only[cond_true]at h
     cases f:terms ws 8 1 [valTo (aB ws st.aM.next).text (aB ws st.aM.next).text.size] st.aM.aM.aM with
     |none=>rw[f]at h;cases h
     |some y=>
      obtain⟨r,l⟩:=y;rw[f]at h
      cases r with
      |none=>simp[lO]at h
      |some ts=>
       simp only[lO]at h
       cases k:l.okB with
       |false=>rw[k]at h;cases h
       |true=>
        rw[k]at h;simp only[cond_true,Option.some.injEq,Prod.mk.injEq]at h;obtain⟨rfl,rfl⟩:=h;obtain⟨a1,p,n,q⟩:=aQF a _ _ _ _ _ _ f (by intro x o;rw[List.mem_singleton.1 o];exact aO5 (a _ (beq_iff_eq.1 d))) rfl rfl;have e:st.aM.aM.aM.nodes=st.nodes:=rfl;refine⟨Or.inr (Or.inr (Or.inl ⟨rfl,a1,by simp only;omega,n,rfl,rfl,rfl⟩)),?_⟩;show 0+0+1+st.nodes<=l.nodes+1;omega
variable {k:Int}{x:Option Tr}
theorem aLi (f:k=5\/k=10\/k=11\/k=12\/k=13){st0 d:St}{t:Tr}(h:eB k x st=some (some t,d))(g:∀y,x=some y->Made y st0 st):Made t st0 d:=by
 cases x with
 |none=>simp[eB]at h
 |some y=>
  obtain⟨a,b⟩:=g y rfl;simp only[eB]at h
  cases e:st.okB with
  |false=>rw[e]at h;cases h
  |true=>
   rw[e]at h;simp only[cond_true,Option.some.injEq,Prod.mk.injEq]at h;obtain⟨rfl,rfl⟩:=h;refine⟨Or.inr (Or.inr (Or.inr (Or.inl ⟨f,a,rfl,rfl⟩))),?_⟩;show mF y+0+1+st0.nodes<=st.nodes+1;omega
theorem aTc (f:k=6\/k=7\/k=8\/k=9){X:Tr}(g:Wf X){st0 d:St}{t:Tr}(h:operOf k X x st=some (some t,d))(i:∀y,x=some y->Made y st0 st):sB X t st0 d:=by
 cases x with
 |none=>simp[operOf]at h
 |some y=>
  obtain⟨a,b⟩:=i y rfl;simp only[operOf]at h
  cases e:st.okB with
  |false=>rw[e]at h;cases h
  |true=>
   rw[e]at h;simp only[cond_true,Option.some.injEq,Prod.mk.injEq]at h;obtain⟨rfl,rfl⟩:=h;refine⟨Or.inr (Or.inr (Or.inr (Or.inr ⟨f,g,a,rfl⟩))),?_⟩;show mF X+mF y+1+st0.nodes<=st.nodes+1+mF X;omega
structure W1 (ws:List Wd) (f:Nat):Prop where
 sum:∀l st t st',parse ws f 0 l st=some (some t,st')->Made t st st'
 sumL:∀l st t st',Wf l->parse ws f 1 (some l) st=some (some t,st')->sB l t st st'
 prod:∀l st t st',parse ws f 2 l st=some (some t,st')->Made t st st'
 prodL:∀l st t st',Wf l->parse ws f 3 (some l) st=some (some t,st')->sB l t st st'
 signed:∀l st t st',parse ws f 4 l st=some (some t,st')->Made t st st'
 atom:∀l st t st',parse ws f 5 l st=some (some t,st')->Made t st st'
 br:∀l st t st',parse ws f 6 l st=some (some t,st')->Made t st st'
theorem Vi {d b:Nat}(v:k=6\/k=7\/k=8\/k=9){X t:Tr}{a:St}(x:Wf X)(o:∀t g a,parse ws w b none g=some (some t,a)->Made t g a)(s:∀X st t a,Wf X->parse ws w d (some X) st=some (some t,a)->sB X t st a)
  (u:∀st t a,parse ws w d none st≠some (some t,a))
  (h:((parse ws w b none st.aM).next fun r i=>(operOf k X r i).next fun n j=>parse ws w d n j)=some (some t,a)):sB X t st a:=by
 obtain⟨r,i,p,h⟩:=qA h;obtain⟨n,j,q,h⟩:=qA h
 cases n with
 |none=>exact absurd h (u _ _ _)
 |some n=>
  obtain⟨a1,A⟩:=aTc v x (st0:=st.aM) q (fun y z=>o y _ _ (by rw[<-z];exact p));obtain⟨b1,b2⟩:=s _ _ _ _ a1 h;have e:st.aM.nodes=st.nodes:=rfl;exact⟨b1,by omega⟩
theorem Bj (f:Nat)(st:St)(t:Tr)(a:St):parse ws f 1 none st≠some (some t,a):=by
 cases f<;>simp[parse]
theorem Bk (f:Nat)(st:St)(t:Tr)(a:St):parse ws f 3 none st≠some (some t,a):=by
 cases f<;>simp[parse]
theorem aSc (s:kV ws)(f:Nat)(g:W1 ws f):W1 ws (f+1):=by
 constructor
 case sum=>
  intro l st t d h;rw[parse]at h;obtain⟨r,n,p,h⟩:=qA h
  cases r with
  |none=>exact absurd h (Bj _ _ _ _)
  |some r=>
   obtain⟨a1,B⟩:=g.prod _ _ _ _ p;obtain⟨b1,b2⟩:=g.sumL _ _ _ _ a1 h;exact⟨b1,by omega⟩
 case sumL=>
  intro l st t d q h;rw[parse]at h
  cases o:st.okB with
  |false=>rw[o]at h;cases h
  |true=>
   rw[o]at h;simp only[cond_true]at h
   cases i:tk ws st ⟨#[43]⟩with
   |true=>
    rw[i]at h;exact Vi (Or.inl rfl) q (fun t j d=>g.prod none j t d) g.sumL (Bj f) h
   |false=>
    rw[i]at h;simp only[cond_false]at h
    cases e:tk ws st ⟨#[45]⟩with
    |true=>
     rw[e]at h;exact Vi (Or.inr (Or.inl rfl)) q (fun t j d=>g.prod none j t d) g.sumL (Bj f) h
    |false=>
     rw[e]at h;simp only[cond_false,Option.some.injEq,Prod.mk.injEq]at h;obtain⟨rfl,rfl⟩:=h;exact⟨q,by omega⟩
 case prod=>
  intro l st t d h;rw[parse]at h;obtain⟨r,n,p,h⟩:=qA h
  cases r with
  |none=>exact absurd h (Bk _ _ _ _)
  |some r=>
   obtain⟨a1,B⟩:=g.signed _ _ _ _ p;obtain⟨b1,b2⟩:=g.prodL _ _ _ _ a1 h;exact⟨b1,by omega⟩
 case prodL=>
  intro l st t d q h;rw[parse]at h
  cases o:st.okB with
  |false=>rw[o]at h;cases h
  |true=>
   rw[o]at h;simp only[cond_true]at h
   cases i:tk ws st ⟨#[42]⟩with
   |true=>
    rw[i]at h;exact Vi (Or.inr (Or.inr (Or.inl rfl))) q (fun t j d=>g.signed none j t d) g.prodL (Bk f) h
   |false=>
    rw[i]at h;simp only[cond_false]at h
    cases e:tk ws st ⟨#[47]⟩with
    |true=>
     rw[e]at h;exact Vi (Or.inr (Or.inr (Or.inr rfl))) q (fun t j d=>g.signed none j t d) g.prodL (Bk f) h
    |false=>
     rw[e]at h;simp only[cond_false,Option.some.injEq,Prod.mk.injEq]at h;obtain⟨rfl,rfl⟩:=h;exact⟨q,by omega⟩
 case signed=>
  intro l st t d h;rw[parse]at h
  cases o:st.okB with
  |false=>rw[o]at h;cases h
  |true=>
   rw[o]at h;simp only[cond_true]at h
   cases i:tk ws st ⟨#[45]⟩with
   |false=>
    rw[i]at h;exact g.atom _ _ _ _ h
   |true=>
    rw[i]at h;simp only[cond_true]at h;obtain⟨x,n,p,h⟩:=qA h
    cases e:n.fV with
    |false=>rw[e]at h;cases h
    |true=>
     rw[e]at h;simp only[cond_true]at h
     exact aLi (Or.inl rfl) (st0:=st) h (fun y w=>by
      obtain⟨a,b⟩:=g.signed _ _ _ _ (by rw[<-w];exact p)
      exact⟨a,b⟩)
 case atom=>
  intro l st t d h;rw[parse]at h
  cases o:st.okB with
  |false=>rw[o]at h;cases h
  |true=>
   rw[o]at h;simp only[cond_true]at h
   cases i:((aB ws st.next).kind==1)with
   |true=>
    rw[i]at h;simp only[cond_true]at h
    cases e:st.aM.okB with
    |false=>rw[e]at h;cases h
    |true=>
     rw[e]at h;simp only[cond_true,Option.some.injEq,Prod.mk.injEq]at h;obtain⟨rfl,rfl⟩:=h;refine⟨Or.inl ⟨rfl,aO5 (s _ (beq_iff_eq.1 i)),rfl,rfl,rfl⟩,?_⟩;show 0+0+1+st.nodes<=st.nodes+1;omega
   |false=>
    rw[i]at h;simp only[cond_false]at h
    cases e:((aB ws st.next).kind==2)with
    |false=>rw[e]at h;exact g.br _ _ _ _ h
    |true=>
     rw[e]at h;simp only[cond_true,nameOf]at h
     have v:named (aB ws st.next).text=0\/named (aB ws st.next).text=2\/named (aB ws st.next).text=3\/named (aB ws st.next).text=4\/named (aB ws st.next).text=10\/named (aB ws st.next).text=11\/named (aB ws st.next).text=12\/named (aB ws st.next).text=13:=by
      unfold named;generalize (aB ws st.next).text=x
      cases isT x [112,105]<;>cases isT x [101]<;>cases isT x [99,102]<;>cases isT x [115,113,114,116]<;>cases isT x [101,120,112]<;>cases isT x [108,110,49,112]<;>cases isT x [97,116,97,110]<;>simp
     generalize named (aB ws st.next).text=k at h v
     cases k0:(k==0)with
     |true=>rw[k0]at h;simp at h
     |false=>
      rw[k0]at h;simp only[cond_false]at h
      cases u:(k==2||k==3)with
      |true=>
       rw[u]at h;simp only[cond_true]at h
       cases e:st.aM.okB with
       |false=>rw[e]at h;cases h
       |true=>
        rw[e]at h;simp only[cond_true,Option.some.injEq,Prod.mk.injEq]at h;obtain⟨rfl,rfl⟩:=h;refine⟨Or.inr (Or.inl ⟨by simpa using u,rfl,rfl,rfl,rfl⟩),?_⟩;show 0+0+1+st.nodes<=st.nodes+1;omega
      |false=>
       rw[u]at h;simp only[cond_false]at h
       cases z:(k==4)with
       |true=>
        rw[z]at h;have:=aH2 s h;exact this
       |false=>
        rw[z]at h;simp only[cond_false]at h;obtain⟨x,n,p,h⟩:=qA h;simp at k0 u z
        exact aLi (by omega) (st0:=st) h (fun y w=>by
         obtain⟨a,b⟩:=g.br _ _ _ _ (by rw[<-w];exact p)
         exact⟨a,b⟩)
 case br=>
  intro l st t d h;rw[parse]at h
  ·cases o:st.okB with
   |false=>rw[o]at h;cases h
   |true=>
    rw[o]at h;simp only[cond_true]at h
    cases i:tk ws st ⟨#[40]⟩with
    |false=>rw[i]at h;simp at h
    |true=>
     rw[i]at h;simp only[cond_true]at h;obtain⟨x,n,p,h⟩:=qA h;unfold iE at h
     cases e:n.fV with
     |false=>rw[e]at h;cases h
     |true=>
      rw[e]at h;simp only[cond_true]at h
      cases x with
      |none=>simp at h
      |some x=>
       simp only at h
       cases A:tk ws n.out ⟨#[41]⟩with
       |false=>rw[A]at h;simp at h
       |true=>
        rw[A]at h;simp only[cond_true,Option.some.injEq,Prod.mk.injEq]at h;obtain⟨rfl,rfl⟩:=h;obtain⟨a,b⟩:=g.sum _ _ _ _ p;exact⟨a,b⟩
  all_goals omega
theorem aUA (a:kV ws):∀f,W1 ws f:=by
 intro f
 induction f with
 |zero=>constructor<;>(intros;rename_i h;cases h)
 |succ f b=>exact aSc a f b
theorem aHv {t:Tr}{p:Int}(d:kV (split s (s.size+1) 0))(h:read w s=some (some t,e,p)):Wf t/\(text t).length<=1000000/\mF t<=40:=by
 unfold read at h
 cases g:decide (120<s.size)with
 |true=>rw[g]at h;simp at h
 |false=>
  rw[g]at h;simp only[cond_false]at h;split at h
  ·cases h
  ·simp at h
  ·rename_i j st i;obtain⟨a,b⟩:=(aUA d w).sum _ _ _ _ i
   cases c1:((aB (split s (s.size+1) 0) st.next).kind==0)with
   |false=>rw[c1]at h;simp at h
   |true=>
    rw[c1]at h;simp only[cond_true]at h
    cases c2:(decide (12<st.deepest)||decide (40<st.nodes))with
    |true=>rw[c2]at h;simp at h
    |false=>
     rw[c2]at h;simp only[cond_false,Option.some.injEq,Prod.mk.injEq]at h;obtain⟨rfl,_⟩:=h;simp only[Bool.or_eq_false_iff,decide_eq_false_iff_not]at c2;have:=aQG _ a;simp only at b;exact⟨a,by omega,by omega⟩
theorem aTs {t:Tr}{p:Int}(a:kV (split s (s.size+1) 0))(h:read w s=some (some t,e,p)):Wf t/\(text t).length<=1000000:=⟨(aHv a h).1,(aHv a h).2.1⟩
end Rd
namespace Rd
abbrev Tok:=Int×List UInt8
def dg (c:UInt8):Bool:=cO (c.toNat:Int)
def lt (c:UInt8):Bool:=isLet (c.toNat:Int)
def an (c:UInt8):Bool:=lt c||dg c
def lY (r:EW):Nat:=((r.take 8).takeWhile dg).length
def jT (r:EW):Nat:=(r.takeWhile an).length
def toksF:Nat->List UInt8->List Tok
 |0,_=>[]
 |_+1,[]=>[]
 |f+1,c::r=>
  bif c==32 then toksF f r
  else bif dg c then(1,c::r.take (lY r))::toksF f (r.drop (lY r))
  else bif lt c then(2,c::r.take (jT r))::toksF f (r.drop (jT r))
  else(3,[c])::toksF f r
def toks (l:EW):List Tok:=toksF (l.length+1) l
theorem aQJ:∀(f g:Nat) (l:EW),l.length<f->l.length<g->toksF f l=toksF g l:=by
 intro f
 induction f with
 |zero=>intro g l h;omega
 |succ f e=>
  intro g l b d
  cases g with
  |zero=>omega
  |succ g=>
   cases l with
   |nil=>rfl
   |cons c r=>
    simp only[List.length_cons]at b d
    have a:∀n,toksF f (r.drop n)=toksF g (r.drop n):=fun n=>e g _ (by simp;omega) (by simp;omega)
    have k0:=a 0;simp only[List.drop_zero]at k0;simp only[toksF,k0,a]
theorem aGA (h:A.length<w):toksF w A=toks A:=aQJ _ _ _ h (by omega)
theorem Lt:toks []=[]:=rfl
theorem Pa (c:UInt8)(r:EW):toks (c::r)=
  bif c==32 then toks r
  else bif dg c then(1,c::r.take (lY r))::toks (r.drop (lY r))
  else bif lt c then(2,c::r.take (jT r))::toks (r.drop (jT r))
  else(3,[c])::toks r:=by
 have a:∀n,toksF (r.length+1) (r.drop n)=toks (r.drop n):=fun n=>aGA (by simp;omega)
 have k0:=a 0;simp only[List.drop_zero]at k0;simp only[toks,List.length_cons];show toksF (r.length+1+1) (c::r)=_;simp only[toksF];rw[a,a];simp only[k0];rfl
theorem xJ {c:UInt8}(h:an c=false)(a:(c==32)=false)(r:EW):toks (c::r)=(3,[c])::toks r:=by
 rw[Pa];simp only[an,Bool.or_eq_false_iff]at h;simp[a,h.1,h.2]
theorem Lp (r:EW):toks (32::r)=toks r:=by rw[Pa];simp
variable {p:UInt8->Bool}{a b:EW}
theorem aEh (d:∀c,b.head?=some c->p c=false):(a++b).takeWhile p=a.takeWhile p:=by
 induction a with
 |nil=>
  cases b with
  |nil=>rfl
  |cons x r=>simp[List.takeWhile,d x rfl]
 |cons x r e=>
  simp only[List.cons_append,List.takeWhile]
  cases p x with
  |true=>simp[e]
  |false=>rfl
theorem aP6 (d:∀c,b.head?=some c->dg c=false):lY (a++b)=lY a:=by
 unfold lY;rw[List.take_append];rw[aEh];intro c hc
 cases b with
 |nil=>simp at hc
 |cons x r=>
  cases h:8-a.length with
  |zero=>rw[h]at hc;simp at hc
  |succ n=>rw[h]at hc;simp at hc;exact d c (by simp[hc])
theorem aS7 (a:EW):lY a<=a.length:=by
 unfold lY;exact Nat.le_trans ((List.takeWhile_sublist _).length_le) (by simp;omega)
theorem aP2 (a:EW):jT a<=a.length:=(List.takeWhile_sublist _).length_le
theorem aQK:∀(n:Nat) (a b:EW),a.length<=n->(∀c,b.head?=some c->an c=false)->toks (a++b)=toks a++toks b:=by
 intro n
 induction n with
 |zero=>intro a b h _;cases a with
  |nil=>simp[Lt]
  |cons x r=>simp at h
 |succ n e=>
  intro a b h d
  cases a with
  |nil=>simp[Lt]
  |cons c r=>
   simp only[List.length_cons]at h
   have k:∀c,b.head?=some c->dg c=false:=fun c hc=>by have:=d c hc;simp[an]at this;exact this.2
   have i:=aP6 (a:=r) k
   have j:jT (r++b)=jT r:=by unfold jT;rw[aEh d]
   have f:=aS7 r;have g:=aP2 r;rw[List.cons_append,Pa,Pa c r,i,j];rw[List.take_append_of_le_length f,List.take_append_of_le_length g,List.drop_append_of_le_length f,List.drop_append_of_le_length g];rw[e r b (by omega) d,e (r.drop (lY r)) b (by simp;omega) d,e (r.drop (jT r)) b (by simp;omega) d]
   cases c==32<;>cases dg c<;>cases lt c<;>simp
theorem vM {c:UInt8}(h:an c=false)(b:EW):toks (a++c::b)=toks a++toks (c::b):=
 aQK _ a (c::b) (Nat.le_refl _) (fun d e=>by simp at e;subst e;exact h)
def dL (w:Wd):Tok:=(w.kind,w.text.data.toList)
theorem Uh (s:ByteArray)(e:Nat)(a:e<s.data.toList.length):aQ s e=((s.data.toList[e]).toNat:Int):=by grind [aQ]
theorem Ll (s:ByteArray):s.data.toList.length=s.size:=Array.length_toList
theorem aJJ (s:ByteArray)(a:Nat):∀f e,a<e->e<=a+9->a+9-e<=f->cJ s a f e=e+(((s.data.toList.drop e).take (a+9-e)).takeWhile dg).length:=by
 intro f
 induction f with
 |zero=>
  intro e i j k
  have h:a+9-e=0:=by omega
  simp[cJ,h]
 |succ f n=>
  intro e i j k;unfold cJ
  by_cases b:e<s.size
  ·by_cases d:e-a<9
   ·have g:e<s.data.toList.length:=by simpa using b
    rw[List.drop_eq_getElem_cons g,show a+9-e=(a+9-(e+1))+1 by omega,List.take_succ_cons,List.takeWhile];have l:aQ s e=((s.data.toList[e]).toNat:Int):=Uh s _ g;rw[show dg s.data.toList[e]=cO (aQ s e) by rw[l];rfl]
    cases o:cO (aQ s e)with
    |false=>simp
    |true=>
     simp only[b,d,and_self,decide_true,Bool.and_self,cond_true];rw[n (e+1) (by omega) (by omega) (by omega)];simp;omega
   ·have:a+9-e=0:=by omega
    simp[d,this]
  ·have:s.data.toList.drop e=[]:=by rw[List.drop_eq_nil_iff];simpa using b
   simp[b,this]
theorem aIt (s:ByteArray):∀f e,s.size-e<=f->bS s f e=e+((s.data.toList.drop e).takeWhile an).length:=by
 intro f
 induction f with
 |zero=>
  intro e h;have g:=Ll s
  have:s.data.toList.drop e=[]:=by rw[List.drop_eq_nil_iff];omega
  simp[bS,this]
 |succ f i=>
  intro e h;unfold bS
  by_cases a:e<s.size
  ·have b:e<s.data.toList.length:=by simpa using a
   rw[List.drop_eq_getElem_cons b,List.takeWhile];have d:aQ s e=((s.data.toList[e]).toNat:Int):=Uh s _ b;rw[show an s.data.toList[e]=(isLet (aQ s e)||cO (aQ s e)) by rw[d];rfl]
   cases j:(isLet (aQ s e)||cO (aQ s e))with
   |false=>simp
   |true=>
    simp only[a,decide_true,Bool.and_self,cond_true];rw[i (e+1) (by omega)];simp;omega
  ·have:s.data.toList.drop e=[]:=by rw[List.drop_eq_nil_iff];simpa using a
   simp[a,this]
theorem aPE (s:ByteArray)(a e:Nat):(s.extract a e).data.toList=(s.data.toList.drop a).take (e-a):=by
 rw[ByteArray.data_extract,Array.toList_extract]
theorem aMa (s:ByteArray):∀f a,s.size-a<f->(split s f a).map dL=toksF f (s.data.toList.drop a)++[(0,[])]:=by
 intro f
 induction f with
 |zero=>intro a h;omega
 |succ f A=>
  intro a h;have w:=Ll s
  by_cases x:a<s.size
  ·have p:a<s.data.toList.length:=by omega
   have z:=Ic s a;have u:=A (wordEnd s a) (by omega);have o:aQ s a=((s.data.toList[a]).toNat:Int):=Uh s _ p
   have j:cO (aQ s a)=dg s.data.toList[a]:=by rw[o];rfl
   have q:isLet (aQ s a)=lt s.data.toList[a]:=by rw[o];rfl
   have v:=aJJ s a 9 (a+1) (by omega) (by omega) (by omega);have y:=aIt s s.size (a+1) (by omega);rw[show a+9-(a+1)=8 by omega]at v
   have l:(aQ s a != 32)=!(s.data.toList[a]==32):=by
    rw[o]
    by_cases g:s.data.toList[a]=32
    ·rw[g];rfl
    ·have:((s.data.toList[a]).toNat:Int)≠32:=by
      intro B;apply g;apply UInt8.toNat_inj.1;show(s.data.toList[a]).toNat=32;omega
     simp only[bne,beq_eq_false_iff_ne.2 this,beq_eq_false_iff_ne.2 g]
   unfold split toksF;rw[List.drop_eq_getElem_cons p];simp only[x,decide_true,cond_true,l];generalize hc:s.data.toList[a]=c at*
   have d:wordEnd s a=bif dg c then a+1+lY (s.data.toList.drop (a+1))else bif lt c then a+1+jT (s.data.toList.drop (a+1))else a+1:=by
    unfold wordEnd;rw[j,q,v,y];rfl
   have r:∀n,wordEnd s a=a+1+n->(s.extract a (wordEnd s a)).data.toList=c::(s.data.toList.drop (a+1)).take n:=by
    intro n i;rw[aPE,i,List.drop_eq_getElem_cons p,hc,show a+1+n-a=n+1 by omega,List.take_succ_cons]
   have k:∀n,wordEnd s a=a+1+n->s.data.toList.drop (wordEnd s a)=(s.data.toList.drop (a+1)).drop n:=by
    intro n i;rw[i,List.drop_drop]
   cases g:c==32 with
   |true=>
    have:c=32:=by simpa using g
    subst this
    have i:wordEnd s a=a+1+0:=by rw[d];rfl
    simp only[Bool.not_true,cond_false,cond_true];rw[u,k 0 i];rfl
   |false=>
    simp only[Bool.not_false,cond_true,cond_false,List.map_cons,u]
    cases b:dg c with
    |true=>
     rw[b]at d;simp only[cond_true]at d ⊢;rw[k _ d];simp only[dL,r _ d,kindOf,j,b,cond_true,List.cons_append]
    |false=>
     cases e:lt c with
     |true=>
      rw[b,e]at d;simp only[cond_true,cond_false]at d ⊢;rw[k _ d];simp only[dL,r _ d,kindOf,j,b,q,e,cond_true,cond_false,List.cons_append]
     |false=>
      rw[b,e]at d;simp only[cond_false]at d ⊢;rw[k 0 d];simp only[dL,r 0 d,kindOf,j,b,q,e,cond_false,List.cons_append,List.take_zero,List.drop_zero]
  ·have:s.data.toList.drop a=[]:=by rw[List.drop_eq_nil_iff];omega
   unfold split;simp[x,this,toksF,dL]
theorem aMn (s:ByteArray):(split s (s.size+1) 0).map dL=toks s.data.toList++[(0,[])]:=by grind [split,dL,toks,aMa,Ll,aGA]
def rM (n:Int)(c:UInt8):Int:=bif dg c then n*10+((c.toNat:Int)-48)else n
def tY (l:EW):Int:=l.foldl rM 0
theorem aMj (t:ByteArray):∀k,k<=t.size->valTo t k=tY (t.data.toList.take k):=by
 intro k
 induction k with
 |zero=>intro _;rfl
 |succ k b=>
  intro h
  have a:k<t.data.toList.length:=by rw[Ll];omega
  rw[List.take_succ_eq_append_getElem a,tY,List.foldl_append];unfold valTo;rw[b (by omega),Uh t k a];rfl
theorem aMi {t:ByteArray}(h:t.data.toList=A):valTo t t.size=tY A:=by grind [valTo,tY,aMj,Ll]
theorem Us (u:Nat)(h:u<10):dg (UInt8.ofNat (48+u))=true/\((UInt8.ofNat (48+u)).toNat:Int)-48=u:=by
 have a:(UInt8.ofNat (48+u)).toNat=48+u:=by
  rw[UInt8.toNat_ofNat'];omega
 refine⟨?_,by rw[a];omega⟩;unfold dg cO;rw[a];simp;omega
theorem aQW (u:Nat):tY (Lib.decDigits u)=u:=by
 induction u using Nat.strongRecOn with
 |_ u d=>
  by_cases h:u<10
  ·obtain⟨a,b⟩:=Us u h;rw[Lib.decDigits_one h];simp only[tY,List.foldl_cons,List.foldl_nil,rM,a,cond_true,b];omega
  ·obtain⟨a,b⟩:=Us (u%10) (by omega);rw[Lib.decDigits,dif_neg h,tY,List.foldl_append];have:=d (u/10) (by omega);unfold tY at this;rw[this];simp only[List.foldl_cons,List.foldl_nil,rM,a,cond_true,b];omega
variable {v:Int}
theorem aJ3 {t:ByteArray}(h:t.data.toList=dec v)(hv:0<=v):valTo t t.size=v:=by
 rw[aMi h,dec,aQW];omega
theorem aEQ (u:Nat):∀c∈Lib.decDigits u,dg c=true:=by
 induction u using Nat.strongRecOn with
 |_ u a=>
  intro c hc
  by_cases h:u<10
  ·rw[Lib.decDigits_one h]at hc;rw[List.mem_singleton.1 hc];exact(Us u h).1
  ·rw[Lib.decDigits,dif_neg h]at hc
   rcases List.mem_append.1 hc with hc|hc
   ·exact a (u/10) (by omega) c hc
   ·rw[List.mem_singleton.1 hc];exact(Us (u%10) (by omega)).1
theorem aHG (h:∀c∈A,p c=true):A.takeWhile p=A:=by
 induction A with
 |nil=>rfl
 |cons x r a=>
  rw[List.takeWhile,h x (by simp)];rw[a (fun c hc=>h c (by simp[hc]))]
theorem Ig (hv:cQ v):toks (dec v)=[(1,dec v)]:=by
 have f:=yV hv;have i:=aEQ v.toNat
 have g:1<=(dec v).length:=by rw[dec,Lib.decDigits_length];exact Lib.nDigits_pos _
 cases e:dec v with
 |nil=>rw[e]at g;simp at g
 |cons c r=>
  have a:∀x∈c::r,dg x=true:=by rw[<-e];exact i
  have d:r.length<=8:=by rw[e]at f;simpa using f
  have hc:=a c (by simp)
  have j:lY r=r.length:=by
   unfold lY;rw[List.take_of_length_le d,aHG (fun x k=>a x (by simp[k]))]
  have b:(c==32)=false:=by
   cases h:c==32 with
   |false=>rfl
   |true=>
    have:c=32:=by simpa using h
    subst this;exact absurd hc (by decide)
  rw[Pa,b,hc,j];simp[Lt]
def dK:List Int->List Tok
 | []=>[(3,[93])]
 | [x]=>[(1,dec x),(3,[93])]
 |x::r=>(1,dec x)::(3,[44])::dK r
def uT:List Int->List Tok
 | []=>[]
 |x::r=>(2,[99,102])::(3,[91])::(1,dec x)::(3,[59])::dK r
def bAQ (a:Int×Int×List Int)(x y:List Tok):List Tok:=
 bif a.1==1 then [(1,dec a.2.1)]
 else bif a.1==4 then uT a.2.2
 else bif a.1==5 then(3,[45])::x
 else bif a.1==14 then(3,[40])::(x++[(3,[41])])
 else bif decide (10<=a.1/\a.1<=13)then(2,sym a.1)::x
 else bif decide (6<=a.1/\a.1<=9)then x++(3,sym a.1)::y
 else [(2,sym a.1)]
def tw:Tr->List Tok
 |.nil=>[]
 |.node _ _ a l r=>bAQ a (tw l) (tw r)
def dep:Tr->Nat
 |.nil=>0
 |.node _ _ a l r=>bif a.1==5||a.1==14 then dep l+1 else max (dep l) (dep r)
def ndc:Tr->Nat
 |.nil=>0
 |.node _ _ a l r=>bif a.1==14 then ndc l else ndc l+ndc r+1
def strip:Tr->Tr
 |.nil=>.nil
 |.node p q a l r=>bif a.1==14 then strip l else .node p q a (strip l) (strip r)
def Db (ts:LN):Prop:=∃x r,ts=x::r/\cQ x/\(∀y∈r,cQ y/\y≠0)/\1<=r.length/\r.length<=8
def Good:Tr->Prop
 |.nil=>False
 | .node p q a l r=>p=0/\q=0/\(
  (a.1=1/\cQ a.2.1/\a.2.2=[]/\l=.nil/\r=.nil)\/
  ((a.1=2\/a.1=3)/\a.2=(0,[])/\l=.nil/\r=.nil)\/
  (a.1=4/\a.2.1=0/\Db a.2.2/\l=.nil/\r=.nil)\/
  (a.1=5/\a.2=(0,[])/\Good l/\3<=aN (aR l)/\r=.nil)\/
  ((a.1=10\/a.1=11\/a.1=12\/a.1=13)/\a.2=(0,[])/\Good l/\aR l=14/\r=.nil)\/
  (a.1=14/\a.2=(0,[])/\Good l/\r=.nil)\/
  ((a.1=6\/a.1=7\/a.1=8\/a.1=9)/\a.2=(0,[])/\Good l/\Good r/\aN a.1<=aN (aR l)/\aN a.1+1<=aN (aR r)))
def Seg (a:List Wd):Nat->List Tok->Prop
 |_,[]=>True
 |i,t::r=>dL (aB a i)=t/\Seg a (i+1) r
theorem aJb {d:List Wd}:∀(a b:List Tok) (i:Nat),Seg d i (a++b)↔Seg d i a/\Seg d (i+a.length) b:=by
 intro a
 induction a with
 |nil=>intro b i;simp[Seg]
 |cons t r e=>
  intro b i;simp only[List.cons_append,Seg,e,List.length_cons,and_assoc];rw[show i+1+r.length=i+(r.length+1) by omega]
variable {k:Int}
theorem rW {a:List Wd}{st:St}(h:dL (aB a st.next)=(k,b))(c:ByteArray):tk a st c=(!(k==0)&&b==c.data.toList):=by
 simp only[dL,Prod.mk.injEq]at h;unfold tk isT;rw[h.1,h.2]
theorem Dp {a:List Wd}(h:dL (aB a w)=(k,b)):(aB a w).kind=k:=by grind [dL,aB]
theorem Ma {ws:List Wd}(h:dL (aB ws w)=(k,b)):(aB ws w).text.data.toList=b:=by grind [dL,aB]
def NO {d:Type}(a b:Option d):Prop:=a=none\/a=b
theorem NO.refl {b:Type}(a:Option b):NO a a:=Or.inr rfl
theorem NO.no {a:Type}(b:Option a):NO none b:=Or.inl rfl
theorem NO.trans {d:Type}{a b c:Option d}(h:NO a b)(k:NO b c):NO a c:=by
 rcases h with h|h
 ·exact Or.inl h
 ·rw[h];exact k
theorem NO.next {a b:pV}(h:NO a b)(F:Option Tr->St->pV):NO (a.next F) (b.next F):=by
 rcases h with h|h
 ·rw[h];exact Or.inl rfl
 ·rw[h];exact Or.inr rfl
def bK (c:Tr)(st:St):St:=⟨st.next+(tw c).length,st.around,max st.deepest (st.around+dep c),st.nodes+ndc c⟩
def oN (a:List Wd)(n:Nat):Prop:=∀st:St,st.next=n->tk a st ⟨#[42]⟩=false/\tk a st ⟨#[47]⟩=false
variable {a:List Wd}
theorem aHh (h:dL (aB a w)=(k,b))(d:b≠[42])(e:b≠[47]):oN a w:=by grind [dL,aB,oN,rW]
theorem p1 (d:List Wd)(f:Nat)(l:Tr)(st:St):parse d (f+1) 1 (some l) st=
  bif st.okB then
   bif tk d st ⟨#[43]⟩then(parse d f 2 none st.aM).next fun r a=>(operOf 6 l r a).next fun e b=>parse d f 1 e b
   else bif tk d st ⟨#[45]⟩then(parse d f 2 none st.aM).next fun r a=>(operOf 7 l r a).next fun e b=>parse d f 1 e b
   else some (some l,st)
  else none:=rfl
theorem p3 (d:List Wd)(f:Nat)(l:Tr)(st:St):parse d (f+1) 3 (some l) st=
  bif st.okB then
   bif tk d st ⟨#[42]⟩then(parse d f 4 none st.aM).next fun r a=>(operOf 8 l r a).next fun e b=>parse d f 3 e b
   else bif tk d st ⟨#[47]⟩then(parse d f 4 none st.aM).next fun r a=>(operOf 9 l r a).next fun e b=>parse d f 3 e b
   else some (some l,st)
  else none:=rfl
theorem p4 (b:List Wd)(f:Nat)(st:St):parse b (f+1) 4 none st=
  bif st.okB then
   bif tk b st ⟨#[45]⟩then(parse b f 4 none st.aM.lI).next fun x a=>bif a.fV then eB 5 x a.out else none
   else parse b f 5 none st
  else none:=rfl
theorem p5 (a:List Wd)(f:Nat)(st:St):parse a (f+1) 5 none st=
  bif st.okB then
   bif (aB a st.next).kind==1 then
    (bif st.aM.okB then some (some (dD 1 (valTo (aB a st.next).text (aB a st.next).text.size) []),st.aM.leaf)else none)
   else bif (aB a st.next).kind==2 then nameOf a (named (aB a st.next).text) st (fun b=>parse a f 6 none b)
   else parse a f 6 none st
  else none:=rfl
theorem p6 (a:List Wd)(f:Nat)(st:St):parse a (f+1) 6 none st=
  bif st.okB then
   bif tk a st ⟨#[40]⟩then(parse a f 0 none st.aM.lI).next fun x b=>iE a x b
   else some (none,st)
  else none:=rfl
structure BB (ws:List Wd) (c:Tr):Prop where
 b6:aR c=14->∀f st,Seg ws st.next (tw c)->NO (parse ws f 6 none st) (some (some (strip c),bK c st))
 b5:aN (aR c)=4->∀f st,Seg ws st.next (tw c)->NO (parse ws f 5 none st) (some (some (strip c),bK c st))
 b4:3<=aN (aR c)->∀f st,Seg ws st.next (tw c)->NO (parse ws f 4 none st) (some (some (strip c),bK c st))
 b2:2<=aN (aR c)->∀f st,Seg ws st.next (tw c)->∃f',NO (parse ws f 2 none st) (parse ws f' 3 (some (strip c)) (bK c st))
 b0:∀f st,Seg ws st.next (tw c)->oN ws (bK c st).next->∃f',NO (parse ws f 0 none st) (parse ws f' 1 (some (strip c)) (bK c st))
theorem Xq {c:Tr}(h:∀f st,Seg a st.next (tw c)->NO (parse a f 4 none st) (some (some (strip c),bK c st))):
  ∀f st,Seg a st.next (tw c)->∃b,NO (parse a f 2 none st) (parse a b 3 (some (strip c)) (bK c st)):=by
 intro f st d
 cases f with
 |zero=>exact⟨0,NO.no _⟩
 |succ f=>exact⟨f,(h f st d).next _⟩
theorem Hp {t:Tr}{st:St}(h:oN a st.next)(f:Nat):NO (parse a f 3 (some t) st) (some (some t,st)):=by
 cases f with
 |zero=>exact NO.no _
 |succ f=>
  obtain⟨b,d⟩:=h st rfl;rw[p3]
  cases st.okB with
  |false=>exact NO.no _
  |true=>simp only[b,d,cond_true,cond_false];exact NO.refl _
theorem aSf {c:Tr}(h:∀f st,Seg a st.next (tw c)->∃b,NO (parse a f 2 none st) (parse a b 3 (some (strip c)) (bK c st))):
  ∀f st,Seg a st.next (tw c)->oN a (bK c st).next->∃b,NO (parse a f 0 none st) (parse a b 1 (some (strip c)) (bK c st)):=by
 intro f st g e
 cases f with
 |zero=>exact⟨0,NO.no _⟩
 |succ f=>
  obtain⟨b,d⟩:=h f st g;exact⟨f,(d.trans (Hp e b)).next _⟩
variable {r:List Tok}
theorem aSg {c:Tr}(g:tw c=(k,b)::r)(i:b≠[45])(h:∀f st,Seg a st.next (tw c)->NO (parse a f 5 none st) (some (some (strip c),bK c st))):
  ∀f st,Seg a st.next (tw c)->NO (parse a f 4 none st) (some (some (strip c),bK c st)):=by
 intro f st d
 cases f with
 |zero=>exact NO.no _
 |succ f=>
  have e:=h f st d;rw[g]at d
  have j:tk a st ⟨#[45]⟩=false:=by rw[rW d.1];simp[i]
  rw[p4]
  cases st.okB with
  |false=>exact NO.no _
  |true=>simp only[j,cond_true,cond_false];exact e
theorem Pu {c:Tr}(g:aR c=14->∀f st,Seg a st.next (tw c)->NO (parse a f 6 none st) (some (some (strip c),bK c st)))(d:tw c=(k,b)::r)(e:b≠[45])(h:∀f st,Seg a st.next (tw c)->NO (parse a f 5 none st) (some (some (strip c),bK c st))):BB a c:=
 ⟨g,fun _=>h,fun _=>aSg d e h,fun _=>Xq (aSg d e h),aSf (Xq (aSg d e h))⟩
theorem aKy (a b:Nat):(bif decide (a<b)then b else a)=max a b:=by
 by_cases h:a<b
 ·simp[h];omega
 ·simp[h];omega
theorem aJ8 (st:St):st.aM.leaf=⟨st.next+1,st.around,max st.deepest st.around,st.nodes+1⟩:=by
 unfold St.leaf St.aM;simp only[aKy]
theorem aSS (st:St):st.leaf=⟨st.next,st.around,max st.deepest st.around,st.nodes+1⟩:=by
 unfold St.leaf;simp only[aKy]
theorem aT8 (d:List Wd)(hv:cQ v):BB d (dD 1 v []):=by
 refine Pu (k:=1) (b:=dec v) (r:=[]) (fun e=>absurd (show(1:Int)=14 from e) (by decide)) rfl ?_ ?_
 ·intro e;have:=aEQ v.toNat 45 (by rw[show Lib.decDigits v.toNat=dec v from rfl,e];simp);exact absurd this (by decide)
 ·intro f st g;have a:dL (aB d st.next)=(1,dec v):=g.1
  cases f with
  |zero=>exact NO.no _
  |succ f=>
   rw[p5,Dp a,aJ3 (Ma a) hv.1]
   cases st.okB with
   |false=>exact NO.no _
   |true=>
    cases st.aM.okB with
    |false=>exact NO.no _
    |true=>
     right;simp only[cond_true,beq_self_eq_true,aJ8];rfl
theorem aPh (d:List Wd)(a:k=2\/k=3):BB d (dD k 0 []):=by
 refine Pu (k:=2) (b:=sym k) (r:=[]) (fun e=>absurd (show k=14 from e) (by omega)) (by rcases a with rfl|rfl<;>rfl) (by rcases a with rfl|rfl<;>decide) ?_;intro f st i
 have g:dL (aB d st.next)=(2,sym k):=by rcases a with rfl|rfl<;>exact i.1
 have h:named (aB d st.next).text=k:=by
  unfold named isT;rw[Ma g]
  rcases a with rfl|rfl<;>rfl
 cases f with
 |zero=>exact NO.no _
 |succ f=>
  rw[p5,Dp g,h];unfold nameOf
  cases st.okB with
  |false=>exact NO.no _
  |true=>
   cases st.aM.okB with
   |false=>rcases a with rfl|rfl<;>exact NO.no _
   |true=>
    right;rw[aJ8]
    rcases a with rfl|rfl<;>rfl
end Rd
end Go.Proofs.YthhffdeihoofiaaGreatDoor
