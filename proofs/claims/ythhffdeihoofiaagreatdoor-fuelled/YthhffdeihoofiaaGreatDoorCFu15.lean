import Derived.Test.YthhffdeihoofiaaGreatDoorCFu14
import Derived.Test.YthhffdeihoofiaaGreatDoorCFu12
import Derived.Test.YthhffdeihoofiaaGreatDoorCards
import Derived.Test.YthhffdeihoofiaaGreatDoorTie
import Derived.Deep.Slices
import Derived.ChangeSame
import Derived.ProofKit
import Derived.OpenShut
import Derived.WalkKit
import Derived.Carry
import Derived.Deep.DeepHandedRow
import Derived.Lib.LaidTab
import Derived.Stop.LaidErr
set_option linter.all false
set_option maxRecDepth 100000
set_option maxHeartbeats 2000000
namespace Go.Proofs.YthhffdeihoofiaaGreatDoor
open List (getElem_mem)
open Nat (le_refl add_assoc)
open Go.Proofs.Tryz
open Go.RowKit
open Go.Deep (BT)
theorem aOG (w0 w:World)(s:Nat)(f:List It)(k a b c:Int)(k1:k≠1)(k2:k≠2)(P:KInv w0 w s f)(hT:mS w0)(hp:0<f.length)(hn:f.length<=3000000)(h0:-9223372036854775808<=a)(h1:a<=9223372036854775807)(h2:-9223372036854775808<=b)(h3:b<=9223372036854775807)(h4:-9223372036854775808<=c)(h5:c<=9223372036854775807):
  Calls prog 7 #[.pointer (some ⟨s,0,none⟩),Sr k a b c] w (kL w0 s f.length):=by
 have hx:=xO a f.length hp;have hy:=xO b f.length hp;have PA:=aO (fun w=>vQ a f.length w h0 h1 hp (by omega));have PB:=aO (fun w=>vQ b f.length w h2 h3 hp (by omega));generalize pickI a f.length=x at*;generalize pickI b f.length=y at*;obtain⟨g,S,c0,hc⟩:=P.item x hx;have IX:=P.all f[x] (getElem_mem hx);have IY:=P.all f[y] (getElem_mem hy);obtain⟨d0,d1,d2,d3,d4⟩:=hc x hx;obtain⟨e0,e1,e2,e3,e4⟩:=hc y hy;generalize f[x]=X at*;generalize f[y]=Y at*;obtain⟨xb,O,xa,xo,xk⟩:=X;obtain⟨yb,yt,ya,yo,yk⟩:=Y;simp only at d0 d1 d2 d3 d4 e0 e1 e2 e3 e4;have HI:=aO P;have HT:=aO hT;have j:=aO IX;have D:=aO IY;have aa:=fQ (P.bV.choose_spec.1);have l:=Ob d0;simp only at l
 have bx:¬s=w.heap.size:=by omega
 have bz:¬s=w.heap.size+1:=by omega
 have b0:¬s=w.heap.size+1+1:=by omega
 have b1:¬s=w.heap.size+2:=by omega
 have b2:¬g=w.heap.size:=by omega
 have b3:¬g=w.heap.size+1:=by omega
 have b4:¬g=w.heap.size+1+1:=by omega
 have b6:¬g=w.heap.size+2:=by omega
 have bu:((f.length:Int)==0)=false:=beq_eq_false_iff_ne.2 (by omega)
 have f1:(k==1)=false:=by simpa using k1
 have f2:(k==2)=false:=by simpa using k2
 clear P hT IX IY hc k1 k2
 go_enter func7,ntmps7
 go_wp2_with fail
 go_region_held3 (fun n=>n.cell? ⟨s,0,none⟩=some (.slice (some ⟨g,0,none⟩) f.length S)/\n.cell? ⟨g,x*5,none⟩=some (.pointer (some ⟨xb,0,none⟩))/\n.cell? ⟨g,x*5+1,none⟩=some (.string O)/\n.cell? ⟨g,x*5+2,none⟩=some (.int .i64 xa)/\n.cell? ⟨g,x*5+3,none⟩=some (.int .i64 xo)/\n.cell? ⟨g,x*5+4,none⟩=some (.bool xk)/\n.cell? ⟨w.heap.size,1,none⟩=some (.int .i64 a)) (go_keep)
  ((go_at_call 6;refine(PA.out _).mono ?_;rintro e w2⟨rfl,rfl⟩))
 all_goals
  go_wp2_with fail
  obtain⟨V,T⟩:∃V,V=((w.alloc (.cells #[.int .i64 k,.int .i64 a,.int .i64 b,.int .i64 c] 39)).alloc (.cells #[.pointer (some ⟨xb,0,none⟩),.string O,.int .i64 xa,.int .i64 xo,.bool xk] 31)).drew:=⟨_,rfl⟩
  rw[<-T]
  have d:Below w.heap.size w V:=by rw[T];exact(((Below.refl w.heap.size w).alloc (le_refl _) _).alloc (by simp) _).trans ((Gy _).mono (by simp;omega))
  have v:V.heap[w.heap.size]?=some (.cells #[.int .i64 k,.int .i64 a,.int .i64 b,.int .i64 c] 39 (0,0)):=by rw[T];exact uL (kO _ _)
  have E:V.heap[w.heap.size+1]?=some (.cells #[.pointer (some ⟨xb,0,none⟩),.string O,.int .i64 xa,.int .i64 xo,.bool xk] 31 (0,0)):=by rw[T];exact Dr (by simp)
  have R:=aO (HI.out.below d);have az:=(d.cell (p:=⟨s,0,none⟩) aa).trans c0;have a0:=(d.cell (p:=⟨g,y*5,none⟩) l).trans e0;have a1:=(d.cell (p:=⟨g,y*5+1,none⟩) l).trans e1;have a2:=(d.cell (p:=⟨g,y*5+2,none⟩) l).trans e2;have a3:=(d.cell (p:=⟨g,y*5+3,none⟩) l).trans e3;have a4:=(d.cell (p:=⟨g,y*5+4,none⟩) l).trans e4;have o0:=bH (o:=0) v rfl;have o2:=bH (o:=2) v rfl;have o3:=bH (o:=3) v rfl;obtain⟨x0,x1,x2,x3⟩:=cl4 E rfl rfl rfl rfl;have x4:=bH (o:=4) E rfl;have ab:=fQ v;have C:=fQ E;have b8:=Nat.lt_of_lt_of_le aa d.size;have b9:=Nat.lt_of_lt_of_le l d.size;clear T d v E c0 d0 d1 d2 d3 d4 e0 e1 e2 e3 e4 PA
  go_region_held3 (fun n=>n.cell? ⟨s,0,none⟩=some (.slice (some ⟨g,0,none⟩) f.length S)/\n.cell? ⟨g,y*5,none⟩=some (.pointer (some ⟨yb,0,none⟩))/\n.cell? ⟨g,y*5+1,none⟩=some (.string yt)/\n.cell? ⟨g,y*5+2,none⟩=some (.int .i64 ya)/\n.cell? ⟨g,y*5+3,none⟩=some (.int .i64 yo)/\n.cell? ⟨g,y*5+4,none⟩=some (.bool yk)/\n.cell? ⟨w.heap.size,2,none⟩=some (.int .i64 b)) (go_keep)
   ((go_at_call 6;refine(PB.out _).mono ?_;rintro e w2⟨rfl,rfl⟩))
  all_goals
   obtain⟨U,hU⟩:∃U,U=(V.alloc (.cells #[.pointer (some ⟨yb,0,none⟩),.string yt,.int .i64 ya,.int .i64 yo,.bool yk] 31)).drew:=⟨_,rfl⟩
   rw[<-hU]
   have i:Below V.heap.size V U:=by rw[hU];exact((Below.refl V.heap.size V).alloc (le_refl _) _).trans ((Gy _).mono (by simp))
   have M:U.heap[V.heap.size]?=some (.cells #[.pointer (some ⟨yb,0,none⟩),.string yt,.int .i64 ya,.int .i64 yo,.bool yk] 31 (0,0)):=by rw[hU];exact kO _ _
   have I:=aO (R.out.below i);have p0:=(i.cell (p:=⟨w.heap.size,0,none⟩) ab).trans o0;have p3:=(i.cell (p:=⟨w.heap.size,3,none⟩) ab).trans o3;have u0:=(i.cell (p:=⟨w.heap.size+1,0,none⟩) C).trans x0;have u1:=(i.cell (p:=⟨w.heap.size+1,1,none⟩) C).trans x1;have u2:=(i.cell (p:=⟨w.heap.size+1,2,none⟩) C).trans x2;have u3:=(i.cell (p:=⟨w.heap.size+1,3,none⟩) C).trans x3;have u4:=(i.cell (p:=⟨w.heap.size+1,4,none⟩) C).trans x4;obtain⟨y0,y1,y2,y3⟩:=cl4 M rfl rfl rfl rfl;have y4:=bH (o:=4) M rfl;clear hU i M o0 o2 o3 x0 x1 x2 x3 x4 az a0 a1 a2 a3 a4 PB HI R;generalize V.heap.size=yy at*
   by_cases k3:k=3
   ·subst k3
    go_wp2_with fail
    refine(aTP _ _ O yt O.data.toList yt.data.toList xa xo xk ya yo yk c _ h4 h5 ⟨rfl⟩ ⟨rfl⟩ (Mk j.out) (Mk D.out) j.out.sp D.out.sp).mono ?_;rintro e v1⟨sg,N,u,p,q,r,rfl,W,B,z⟩;have HW:=aO (aWA N j.out.txt D.out.txt);have A:=aTQ (Mk j.out) (Mk D.out) sg;have J:=aO A;have F:=aO (I.out.below z);have HU:=aO W;have L:=aO B;clear z W B A
    go_wp2_with fail
    refine(Qb w0 _ s f u _ p q r HU.out J.out HW.out L.out (F.out.below ((Below.refl _ _).alloc (le_refl _) _)) HT.out hn).mono ?_;rintro e w2⟨rfl,h⟩;have H:=aO h;clear h
    go_wp2_with fail
    go_ret
    exact⟨rfl,H.out⟩
   by_cases k4:k=4
   ·subst k4
    go_wp2_with fail
    refine(aL7 _ O O.data.toList xa xo xk c _ h4 h5 ⟨rfl⟩ (Mk j.out) j.out.sp).mono ?_;rintro e v1⟨sg,N,u,p,q,r,rfl,W,B,z⟩;have HW:=aO (aPb N j.out.txt);have A:=aTa (Mk j.out) sg;have J:=aO A;have F:=aO (I.out.below z);have HU:=aO W;have L:=aO B;clear z W B A
    go_wp2_with fail
    refine(Qb w0 _ s f u _ p q r HU.out J.out HW.out L.out (F.out.below ((Below.refl _ _).alloc (le_refl _) _)) HT.out hn).mono ?_;rintro e w2⟨rfl,h⟩;have H:=aO h;clear h
    go_wp2_with fail
    go_ret
    exact⟨rfl,H.out⟩
   have f3:(k==3)=false:=by simpa using k3
   have f4:(k==4)=false:=by simpa using k4
   go_wp2_with fail
   go_ret
   exact⟨rfl,f,I.out,by omega⟩
theorem aND (d w:World)(e:Nat)(f:List It)(k a b c:Int)(g:KInv d w e f)(n:mS d)(o:f.length<=3000000)(h:-9223372036854775808<=a)(i:a<=9223372036854775807)(j:-9223372036854775808<=b)(l:b<=9223372036854775807)(s:-9223372036854775808<=c)(u:c<=9223372036854775807):
  Calls prog 7 #[.pointer (some ⟨e,0,none⟩),Sr k a b c] w (kL d e f.length):=by
 by_cases k1:k=1
 ·subst k1;exact aQy d w e f a b c g n o h i j l
 by_cases q:k=2
 ·subst q;exact aMc d w e f a b c g n o h i j l
 cases f with
 |nil=>exact aOH d w e k a b c k1 q g
 |cons p r=>
  exact aOG d w e (p::r) k a b c k1 q g n (by simp) o h i j l s u
open Go.ChangeShapes Go.WideShapes Go.RowKit
open Go.Deep (open_slice choose_lt add_add)
abbrev Hx:=Int×Int×Int×Int
structure Yw (x:Hx):Prop where
 k0:-9223372036854775808<=x.1
 k1:x.1<=9223372036854775807
 a0:-9223372036854775808<=x.2.1
 a1:x.2.1<=9223372036854775807
 b0:-9223372036854775808<=x.2.2.1
 b1:x.2.2.1<=9223372036854775807
 c0:-9223372036854775808<=x.2.2.2
 c1:x.2.2.2<=9223372036854775807
structure ScrK (w:World) (v:Value) (l:List Hx):Prop where
 sl:∃ ao cap,v=.slice ao l.length cap/\l.length<=cap/\cap<=maxLen/\(l=[]\/∃ b off,ao=some ⟨b,off,none⟩/\∀ (i:Nat) (h:i<l.length),
  w.cell? ⟨b,off+i*4,none⟩=some (.int .i64 l[i].1)/\w.cell? ⟨b,off+i*4+1,none⟩=some (.int .i64 l[i].2.1)/\w.cell? ⟨b,off+i*4+2,none⟩=some (.int .i64 l[i].2.2.1)/\w.cell? ⟨b,off+i*4+3,none⟩=some (.int .i64 l[i].2.2.2))
 ok:∀x∈l,Yw x
theorem Bm:(prog.underlying 39).map (fun t=>match t with|.struct a=>a.toList.map (fun f=>(f.offset,f.type))|_=>[])=some [(0,3),(1,3),(2,3),(3,3)]:=by kernel_rfl
theorem wO:prog.cellsOf 39=4:=by kernel_rfl
theorem lX:prog.cellsOf 3=1:=by kernel_rfl
theorem Bn:∃a,prog.underlying 39=some (.struct a)/\a.toList.map (fun f=>(f.offset,f.type))=[(0,3),(1,3),(2,3),(3,3)]:=by
 have h:=Bm
 cases e:prog.underlying 39 with
 |none=>rw[e]at h;simp at h
 |some t=>
  rw[e]at h
  cases t<;>simp at h
  exact⟨_,rfl,h⟩
section
variable {H:Type} {enc:TypeId×Value->H} {w:World} {base:Nat} {spare:Nat->Bool} {held:Bool}
theorem aTb {n:Nat}{cs:LB}{x:DataW H×List MemPlace}(h:DataW.trod enc prog w base spare held n 39 cs=some x):
  ∃s:Hx,cs=[.int .i64 s.1,.int .i64 s.2.1,.int .i64 s.2.2.1,.int .i64 s.2.2.2]/\Yw s:=by
 obtain⟨C,T,g⟩:=Bn;obtain⟨F,k,_,_,e,W,i⟩:=DataW.trod_struct T h;rw[wO]at e
 match cs,e with
 | [v0,v1,v2,v3],_=>
  have U:C.size=4:=by
   have:=congrArg List.length g
   simpa using this
  have d:∀(j:Nat) (o:Nat) (t:TypeId),[(0,3),(1,3),(2,3),(3,3)][j]?=some (o,t)->∃f,C[j]?=some f/\f.offset=o/\f.type=t:=by
   intro j o t l;rw[<-g]at l;simp only[List.getElem?_map,Option.map_eq_some_iff]at l;obtain⟨f,S,p⟩:=l;simp only[Prod.mk.injEq]at p;exact⟨f,by simpa using S,p.1,p.2⟩
  have val:∀j:Nat,j<4->∃y,F[j]?=some y:=fun j l=>⟨F[j],List.getElem?_eq_getElem (by omega)⟩
  obtain⟨f0,N,X,Y⟩:=d 0 0 3 rfl;obtain⟨f1,O,o1,t1⟩:=d 1 1 3 rfl;obtain⟨f2,P,o2,t2⟩:=d 2 2 3 rfl;obtain⟨f3,R,o3,t3⟩:=d 3 3 3 rfl;obtain⟨y0,I⟩:=val 0 (by omega);obtain⟨y1,J⟩:=val 1 (by omega);obtain⟨y2,L⟩:=val 2 (by omega);obtain⟨y3,M⟩:=val 3 (by omega);have k0:=i 0 f0 N;have k1:=i 1 f1 O;have D:=i 2 f2 P;have E:=i 3 f3 R;rw[X,Y,lX,I]at k0;rw[o1,t1,lX,J]at k1;rw[o2,t2,lX,L]at D;rw[o3,t3,lX,M]at E;obtain⟨a,v,_,wa⟩:=DataW.trod_int underlying3 k0;obtain⟨b,z,_,wb⟩:=DataW.trod_int underlying3 k1;obtain⟨c,A,_,wc⟩:=DataW.trod_int underlying3 D;obtain⟨s,B,_,ws⟩:=DataW.trod_int underlying3 E;simp at v z A B;subst v z A B;have q:=bounds_i64 wa;have r:=bounds_i64 wb;have u:=bounds_i64 wc;have bs:=bounds_i64 ws;exact⟨(a,b,c,s),rfl,⟨q.1,q.2,r.1,r.2,u.1,u.2,bs.1,bs.2⟩⟩
theorem aP8 {n:Nat}{v:Value}{x:DataW H×List MemPlace}(h:DataW.trod enc prog w base spare held n 22 [v]=some x):∃l,ScrK w v l:=by
 rcases open_slice underlying22 h with⟨e,_⟩|⟨a,len,y,m,k,D,T,e,U,O,R,B,_,E⟩
 ·simp only[List.cons.injEq,and_true]at e;subst e;exact⟨[],⟨none,0,rfl,le_refl _,Nat.zero_le _,Or.inl rfl⟩,fun x E=>by cases E⟩
 ·simp only[List.cons.injEq,and_true]at e;subst e
  have P:len<=m:=by rw[B];split<;>omega
  have p:∀i,i<len->∃s:Hx,Yw s/\∀j u,[Value.int .i64 s.1,.int .i64 s.2.1,.int .i64 s.2.2.1,.int .i64 s.2.2.2][j]?=some u->w.cell? (a.add (i*4+j))=some u:=by
   intro i hi;obtain⟨L,I,M⟩:=E i (by omega);rw[wO]at I;obtain⟨_,d,g⟩:=World.cells?_some I;obtain⟨s,rfl,C⟩:=aTb M;refine⟨s,C,fun j u J=>?_⟩;have A:j<4:=(List.getElem?_eq_some_iff.1 J).1;rw[<-add_add,g j A];exact J
  obtain⟨f,z⟩:=choose_lt p
  have d:((List.range len).map f).length=len:=by simp
  refine⟨(List.range len).map f,⟨some a,y,by rw[d],by rw[d];exact O,R,?_⟩,?_⟩
  ·rcases Nat.eq_zero_or_pos len with h0|h0
   ·exact Or.inl (by rw[h0];rfl)
   ·right;obtain⟨b,F,r⟩:=a;have c0:=(z 0 h0).2 0 _ rfl
    have o:r=none:=by simpa[Addr.add]using World.cell?_spot c0
    subst o;refine⟨b,F,rfl,fun i hi=>?_⟩;rw[d]at hi
    have N:((List.range len).map f)[i]'(by rw[d];exact hi)=f i:=by simp
    rw[N];have q:=(z i hi).2;refine⟨?_,?_,?_,?_⟩
    ·simpa[add_plain,add_assoc]using q 0 _ rfl
    ·simpa[add_plain,add_assoc]using q 1 _ rfl
    ·simpa[add_plain,add_assoc]using q 2 _ rfl
    ·simpa[add_plain,add_assoc]using q 3 _ rfl
  ·intro s S;obtain⟨i,hi,rfl⟩:=List.mem_map.1 S;exact(z i (List.mem_range.1 hi)).1
end
theorem KInv.start (w:World):KInv w (w.alloc (.cells #[.slice none 0 0] 36)) w.heap.size []:=
 ⟨⟨_,kO _ _,World.ownsRow_nil _ _ _ _⟩,le_refl _,(fun p a=>by cases a),(Below.refl _ _).alloc (le_refl _) _,(fun p a=>by cases a)⟩
def Ek (w:World)(l:List Hx)(i:Value)(wr:World):Prop:=
 ∃(k:Nat) (a:List It),k<=l.length/\i=.int .i64 k/\a.length<=k/\KInv w wr w.heap.size a
def zN (w:World)(e:Ending)(b:World):Prop:=∃v,e=.returned (.tuple #[v,.bool true])/\Below w.heap.size w b/\∃a:List It,b.ownsRow w.heap.size 31 5 v a.length (dP a)/\a.length<=1048576/\(∀p∈a,ItOk p)/\∀p∈a,iS b p.1
theorem aPX (w:World)(v:Value)(l:List Hx)(h:ScrK w v l)(D:mS w):Calls prog 4 #[v] w (zN w):=by
 obtain⟨P,L,rfl,R,S,o⟩:=h.sl;have J:=aO D;clear D
 by_cases r:(l.length:Int)>1048576
 ·have T:(1048576<(l.length:Int))=True:=eq_true r
  go_enter func4,ntmps4
  go_wp2_with fail
  refine bodyPost_ret (v:=.tuple #[.slice none 0 0,.bool true]) (by simp[results,results4,go_sem]) rfl ?_;exact⟨_,rfl,(Below.refl _ _).alloc (le_refl _) _,[],World.ownsRow_nil _ _ _ _,by decide,(fun p u=>by cases u),(fun p u=>by cases u)⟩
 ·have W:l.length<=1048576:=by omega
  go_enter func4,ntmps4
  go_wp2_with fail
  go_loopw [13] (fun i wr=>Ek w l i wr) (fun i _=>l.length-(intOf i).toNat)
  case atStart=>exact⟨0,[],Nat.zero_le _,rfl,le_refl _,KInv.start w⟩
  case round=>
   obtain⟨k,n,U,rfl,M,d⟩:=hrel
   by_cases f:k<l.length
   ·rcases o with o|⟨b,O,rfl,o⟩
    ·rw[o]at f;simp at f
    have a:=aO (h.ok l[k] (getElem_mem f));obtain⟨c0,c1,c2,c3⟩:=o k f;generalize l[k]=x at*;obtain⟨N,A,B,C⟩:=x;simp only at c0 c1 c2 c3;have d0:=(d.Ac.cell (Ob c0)).trans c0;have d1:=(d.Ac.cell (Ob c1)).trans c1;have d2:=(d.Ac.cell (Ob c2)).trans c2;have d3:=(d.Ac.cell (Ob c3)).trans c3;have H:=aO d;clear o c0 c1 c2 c3 d
    go_wp2_with fail
    refine(aND w _ w.heap.size n N A B C H.out J.out (by omega) a.out.a0 a.out.a1 a.out.b0 a.out.b1 a.out.c0 a.out.c1).mono ?_;rintro e X⟨rfl,z,q,E⟩;have s:=aO q;clear q d0 d1 d2 d3
    go_wp2_with fail
    go_roundw
    case rel=>exact⟨k+1,z,by omega,by simp,by omega,s.out⟩
    case measure=>simp[intOf];omega
   ·obtain rfl:k=l.length:=by omega
    obtain⟨y,g,j⟩:=d.bV;have c0:wr.cell? ⟨w.heap.size,0,none⟩=some y:=bH g rfl;have F:=aO d.Ac;have I:=aO (show∃n:List It,wr.ownsRow w.heap.size 31 5 y n.length (dP n)/\n.length<=1048576/\(∀p∈n,ItOk p)/\∀p∈n,iS wr p.1 from⟨n,j,by omega,d.all,d.ex⟩);clear d g j
    go_wp2_with fail
    refine bodyPost_ret (v:=.tuple #[y,.bool true]) (by simp[results,results4,go_sem]) rfl ?_;exact⟨_,rfl,F.out,I.out⟩
open Ab
variable {n:World}
theorem iS.ex {b:Nat}(h:iS n b):∃T,ExAt n b T:=by
 obtain⟨T,a,d,i,k,j,e,_,_,f,g⟩:=h;cases e;exact⟨T,⟨i,j,f,g.2⟩,a,d⟩
theorem aQc {w:Nat}{x:Value}{b:List It}(h:n.ownsRow w 31 5 x b.length (dP b))(i:Nat)(hi:i<b.length):∃g d,x=.slice (some ⟨g,0,none⟩) b.length d/\n.cell? ⟨g,i*5,none⟩=some (.pointer (some ⟨b[i].1,0,none⟩))/\n.cell? ⟨g,i*5+1,none⟩=some (.string b[i].2.1)/\n.cell? ⟨g,i*5+2,none⟩=some (.int .i64 b[i].2.2.1)/\n.cell? ⟨g,i*5+3,none⟩=some (.int .i64 b[i].2.2.2.1)/\n.cell? ⟨g,i*5+4,none⟩=some (.bool b[i].2.2.2.2):=by
 have q:=h
 rcases h.2 with⟨_,e⟩|⟨g,d,p,rfl,_⟩
 ·omega
 ·obtain⟨a0,a1,k,l,o⟩:=aIk b i hi
  have a:∀j u,(dP b)[j]?=some u->n.cell? ⟨g,j,none⟩=some u:=fun j u r=>by
   have:=q.cells (g:=g) rfl j u r
   by_cases f:j=0
   ·subst f
    simpa[Addr.add]using this
   ·simpa[Addr.add,f]using this
  exact⟨g,d,rfl,a _ _ a0,a _ _ a1,a _ _ k,a _ _ l,a _ _ o⟩
theorem aJs (w:World)(v:Value)(l:List Hx)(h:ScrK w v l)(u:mS w)(a k o:Int)(N:-9223372036854775808<=a)(O:a<=9223372036854775807)(P:-9223372036854775808<=k)(R:k<=9223372036854775807)(S:-9223372036854775808<=o)(U:o<=9223372036854775807):
  Calls prog 3 #[v,.int .i64 a,.int .i64 k,.int .i64 o] w fun e w'=>e=.returned (.bool true)/\Below w.heap.size w w':=by
 have F:=hid (aPX w v l h u);have D:=hid u;obtain⟨ao,s,rfl,_⟩:=h.sl;clear h u
 go_enter func3,ntmps3
 go_wp2_with fail
 refine(F.out).mono ?_;rintro e w2⟨lv,rfl,B,d,b,W,y,f⟩;have q:=hid B;clear B y
 by_cases Y:d.length=0
 ·obtain⟨I,z,J,rfl⟩:=aGu b
  have x:z=0:=by
   rcases b.2 with⟨e,_⟩|⟨g,s,L,e,_⟩
   ·cases e;rfl
   ·cases e;exact Y
  subst x;clear b f
  go_wp2_with fail
  go_ret
  exact⟨rfl,q.out⟩
 ·have H:=hid (fun w=>vQ a d.length w N O (by omega) (by omega));have n:=xO a d.length (by omega);generalize pickI a d.length=i at*;obtain⟨g,A,rfl,d0,d1,d2,d3,M⟩:=aQc b i n;obtain⟨T,C⟩:=(f d[i] (getElem_mem n)).ex;have E:=hid C;clear b f C;generalize d[i]=p at*;obtain⟨xb,t,lo,hi,kn⟩:=p;simp only at d0 d1 d2 d3 M
  have aa:¬(d.length:Int)=0:=by omega
  have X:(i:Int)<d.length:=by omega
  go_wp2_with fail
  refine(H.out _).mono ?_;rintro e w3⟨rfl,rfl⟩
  go_wp2_with fail
  refine(aNh _ xb T t lo hi k o kn E.out (Lib.tabBelow_of_tabIs D.out _ q.out) P R S U).mono ?_;rintro e w4⟨rfl,j⟩;have r:=hid j;clear j
  go_wp2_with fail
  go_ret
  exact⟨rfl,aPo q.out r.out⟩
open Go.ChangeShapes Go.WideShapes Go.ChangeAt Go.RowKit
theorem own:ownKnob prog.godebug=none:=by kernel_rfl
theorem laidOut:laidOutB prog=true:=by kernel_rfl
theorem aZx:prog.globalNamed "internal/strconv.uint64pow10"=some 0:=by kernel_rfl
theorem Av:(prog.globals[0]?).map (·.type)=some 199:=by kernel_rfl
theorem Cb:prog.underlying 199=some (.array 20 113):=by kernel_rfl
theorem Ca:prog.cellsOf 199=20:=by kernel_rfl
theorem Cf:prog.cellsOf 113=1:=by kernel_rfl
theorem Cg:prog.underlying 113=some (.int .u64):=by kernel_rfl
theorem rJ (h:laidMetH prog Rows.fuelledRow.laid n):mS n:=
 Lib.tabIs_of_head (rest:=[]) aZx Av Cb Cg Cf Ca (laidMet.tail (laidMet.tail h))
theorem nG (H:Type)(d:TypeId×Value->H)(W:World)(base:Nat)(args:Array Value)(w M:List (DataW H))(b:List MemPlace)
  (a:∀(j:Nat) t v,Tryz.f3.params[j]?=some t->args[j]?=some v->Value.okWide prog W .any base t v)
  (A:DataW.Whole d prog Tryz.f3.params.toList Rows.fuelledSpec.vars false W args.toList w M b) (N:laidMetH prog Rows.fuelledRow.laid W):
  Calls prog 3 args W fun e u=>∃v,e=.returned v/\Rows.fuelledSpec.post d prog Tryz.f3 false true false false W args v u:=by
 have f:=A;obtain⟨p,q,g,O,rfl,S,U⟩:=A;have z:DataW.TrodAll d prog W 0 (fun _=>true) true Tryz.f3.params.toList args.toList w p:=g;rw[params3]at z a;obtain⟨v0,v1,v2,v3,d0,d1,d2,d3,p0,p1,p2,p3,rfl,rfl,rfl,y,I,J,L⟩:=trodAll_four z;obtain⟨rfl,rfl⟩:=trodVars_none O;obtain⟨a0,len,o,rfl⟩:=okWide_slice underlying22 (a 0 22 v0 rfl rfl);obtain⟨Y,rfl,rfl,rfl,C⟩:=open_int underlying3 (a 1 3 v1 rfl rfl) I;obtain⟨n2,rfl,rfl,rfl,D⟩:=open_int underlying3 (a 2 3 v2 rfl rfl) J;obtain⟨n3,rfl,rfl,rfl,E⟩:=open_int underlying3 (a 3 3 v3 rfl rfl) L;have r:=y;obtain⟨fuel,R⟩:=y;clear g;simp only[List.append_nil]at f
 have s:∀x∈p0,x.block<W.heap.size:=fun x X=>by simpa using f.lt x X
 obtain⟨l,T⟩:=aP8 (v:=.slice a0 len o) R;obtain⟨b1,i⟩:=bounds_i64 C;obtain⟨b2,k⟩:=bounds_i64 D;obtain⟨F,n⟩:=bounds_i64 E
 refine(aJs W _ l T (rJ N) Y n2 n3 b1 i b2 k F n).mono fun e u ⟨P,B⟩=>?_
 subst P;exact⟨_,rfl,_,_,_,[],_,[],f,trodAll_mk1 (shut_bool underlying4 _),trodAll_mk4 (Below.trod laidOut (by kernel_rfl) (of_decide_eq_true (by kernel_rfl)) r B s) (shut_int underlying3 C) (shut_int underlying3 D) (shut_int underlying3 E),rfl,B.frame _,fun h=>by cases h⟩
def putCells (a:Array Value):Obj->Obj
 |.cells _ t f=>.cells a t f
 |o=>o
def qZ (w:World):World:=
 {w with heap:=((w.heap.modify 0 (putCells #[.int .u64 1,.int .u64 10,.int .u64 100,.int .u64 1000,.int .u64 10000,.int .u64 100000,.int .u64 1000000,.int .u64 10000000,.int .u64 100000000,.int .u64 1000000000,.int .u64 10000000000,.int .u64 100000000000,.int .u64 1000000000000,.int .u64 10000000000000,.int .u64 100000000000000,.int .u64 1000000000000000,.int .u64 10000000000000000,.int .u64 100000000000000000,.int .u64 1000000000000000000,.int .u64 10000000000000000000])).modify 1 (putCells #[.int .u8 0,.int .u8 1,.int .u8 28,.int .u8 2,.int .u8 29,.int .u8 14,.int .u8 24,.int .u8 3,.int .u8 30,.int .u8 22,.int .u8 20,.int .u8 15,.int .u8 25,.int .u8 17,.int .u8 4,.int .u8 8,.int .u8 31,.int .u8 27,.int .u8 13,.int .u8 23,.int .u8 21,.int .u8 19,.int .u8 16,.int .u8 7,.int .u8 26,.int .u8 12,.int .u8 18,.int .u8 6,.int .u8 11,.int .u8 5,.int .u8 10,.int .u8 9])).modify 2 (putCells #[.int .u8 0,.int .u8 1,.int .u8 56,.int .u8 2,.int .u8 57,.int .u8 49,.int .u8 28,.int .u8 3,.int .u8 61,.int .u8 58,.int .u8 42,.int .u8 50,.int .u8 38,.int .u8 29,.int .u8 17,.int .u8 4,.int .u8 62,.int .u8 47,.int .u8 59,.int .u8 36,.int .u8 45,.int .u8 43,.int .u8 51,.int .u8 22,.int .u8 53,.int .u8 39,.int .u8 33,.int .u8 30,.int .u8 24,.int .u8 18,.int .u8 12,.int .u8 5,.int .u8 63,.int .u8 55,.int .u8 48,.int .u8 27,.int .u8 60,.int .u8 41,.int .u8 37,.int .u8 16,.int .u8 46,.int .u8 35,.int .u8 44,.int .u8 21,.int .u8 52,.int .u8 32,.int .u8 23,.int .u8 11,.int .u8 54,.int .u8 26,.int .u8 40,.int .u8 15,.int .u8 34,.int .u8 20,.int .u8 31,.int .u8 10,.int .u8 25,.int .u8 14,.int .u8 19,.int .u8 9,.int .u8 13,.int .u8 8,.int .u8 7,.int .u8 6])}
theorem oJ (os:Os):laidMet prog Rows.fuelledRow.laid ((qZ (World.holding prog os ⟨#[],#[],[]⟩)).forCall (fun _ _=>0) ⟨#[],#[.slice none 0 0,.int .i64 0,.int .i64 0,.int .i64 0],[]⟩).memory:=
 laidMet_of_run' 8 (by kernel_rfl) (by kernel_rfl)
theorem rH (os:Os){H:Type}(b:TypeId×Value->H):∃a,DataW.whole b prog ((qZ (World.holding prog os ⟨#[],#[],[]⟩)).forCall (fun _ _=>0) ⟨#[],#[.slice none 0 0,.int .i64 0,.int .i64 0,.int .i64 0],[]⟩).memory Tryz.f3.params.toList Rows.fuelledSpec.vars false #[Value.slice none 0 0,Value.int .i64 0,Value.int .i64 0,Value.int .i64 0].toList 8=some ([.nil,.lit (.int .i64 0),.lit (.int .i64 0),.lit (.int .i64 0)],[],a):=
 ⟨[],by kernel_rfl⟩
theorem pT (os:Os)(b:os.Started)(H:Type)(a:TypeId×Value->H)(F:Stop.Interp):
  ReturnsInHanded {} Tryz.checked os 3 .any ((OpenSpec.ofChange Rows.fuelledSpec).preRow a prog Tryz.f3 Rows.fuelledRow.domain false Rows.fuelledRow.laid) (((OpenSpec.ofChange Rows.fuelledSpec).at F).post a prog Tryz.f3 false true false false):=by
 obtain⟨f,n⟩:=rH os a
 refine returnsInHanded_of_row (C:=Tryz.checked) (s:=OpenSpec.ofChange Rows.fuelledSpec) own b (by kernel_rfl) func3
  (witness_row_at (enc:=a) (C:=Tryz.checked) false (qZ (World.holding prog os ⟨#[],#[],[]⟩)) #[.slice none 0 0,.int .i64 0,.int .i64 0,.int .i64 0] rfl (by kernel_rfl) (by kernel_rfl) (by kernel_rfl)
   (OpenSpec.preRow_of_cond 8 n (by kernel_rfl) (fun k l=>by cases l) (by kernel_rfl) (oJ os))) ?_
 intro W base args g h d e j _ _ _ i _ _;exact nG H a W base args g h d e j i
theorem tO:Rows.FuelledSaid:=
 OpenClaim.holds_of_cond 3 Tryz.f3 rfl rfl rfl rfl rfl rfl rfl ⟨rfl,rfl,rfl,rfl,rfl⟩ rfl rfl rfl rfl rfl (by kernel_rfl) func3 (by kernel_rfl)
  (of_decide_eq_true (by kernel_rfl)) (by unfold Func.isWrapper;first|(rw[if_pos (by decide +kernel)];kernel_rfl)|(rw[if_neg (by decide +kernel)];exact⟨rfl,rfl⟩))
  (fun os a H b _ F=>by rw[OpenClaim.pre_eq_preRow];exact pT os a H b F)
theorem rE (f:FuncId)(fn:Func)(hf:Tryz.pinned.checked.prog.funcNamed "reals/realskeep.Fuelled"=some f)(hfn:Tryz.pinned.checked.prog.funcs[f]?=some fn):
  false=Tryz.pinned.checked.prog.looks []/\∀(j:Nat) t,fn.params[j]?=some t->Tryz.pinned.checked.prog.wantsStandIn t=false:=by
 obtain rfl:f=3:=Option.some.inj ((show prog.funcNamed "reals/realskeep.Fuelled"=some 3 by kernel_rfl).symm.trans hf) |>.symm
 obtain rfl:fn=Tryz.f3:=(Option.some.inj (func3.symm.trans hfn)).symm;refine⟨by kernel_rfl,fun j t ht=>?_⟩;rw[params3]at ht
 have hm:t=22\/t=3:=by have:=Array.mem_of_getElem? ht;simp at this;rcases this with h|h<;>simp[h]
 rcases hm with rfl|rfl
 ·exact(show prog.wantsStandIn 22=false by kernel_rfl)
 ·exact(show prog.wantsStandIn 3=false by kernel_rfl)
theorem fuelled_holds:Rows.FuelledCardSaid:=
 Claim7.holds_tied_plain_at .later [] _ _ _ _ tO (fun _ h=>by cases h) (by kernel_rfl) (fun _ h=>by cases h) fuelled_row_tie rfl ⟨rfl,rfl⟩ (by kernel_rfl) rfl rE (by kernel_rfl)
end Go.Proofs.YthhffdeihoofiaaGreatDoor
