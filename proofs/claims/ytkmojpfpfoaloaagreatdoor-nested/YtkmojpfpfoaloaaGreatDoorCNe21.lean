import Derived.Test.YtkmojpfpfoaloaaGreatDoorCNe20
import Derived.Test.YtkmojpfpfoaloaaGreatDoorCNe19
import Derived.Deep.AppendLies
set_option linter.all false
set_option maxRecDepth 100000
set_option maxHeartbeats 2000000
namespace Go.Proofs.YtkmojpfpfoaloaaGreatDoor
open Go.Proofs.Tryz
open Go.RowKit
open Go.Deep (BT)
variable {n:World}
theorem aIW {b:World}{row:Option Nat}(h:n.drew.grownBy b row):n.grownBy b row:=⟨h.os,h.tape,h.output,h.size,h.block⟩
theorem aNZ {h:World}{b k p:Nat}{z:Value}{j:Array Value}{T:TypeId}{i:List Value}{o:Obj}
  (a:n.heap[b]?=some (.cells j T (0,0))) (g:T≠31) (d:n.ownsRow k 31 5 z p i) (q:(n.alloc o).grownBy h z.ownBlock):
  h.heap[b]?=some (.cells j T (0,0)):=by
 rw[q.block b (by simp;have:=eZ a;omega) ?_]
 ·rw[Below.heap_alloc _ _ _ (eZ a)];exact a
 ·intro e;obtain⟨i,r,f,l⟩:=Zw d b e.symm;rw[a]at f;simp only[Option.some.injEq,Obj.cells.injEq]at f;exact g (f.2.1.trans l)
theorem aPO (l w:World)(g:Nat)(f:List It)(t:ByteArray)(a b:Int)(k:Bool)(i:t.size<=maxLen)(h:KInv l w g f)(j:Rd.read 1300 t=some (none,1,0))(q:120<t.size):
  Calls prog 9 #[.pointer (some ⟨g,0,none⟩),.string t,sv a b k] w (iY l g f.length):=by
 have X:=aL (fun w=>Lx 1300 t w (none,1,0) i j);have o:=aL (h.below ((Below.refl w.heap.size w).alloc (Nat.le_refl _) (.cells #[.int .i64 a,.int .i64 b,.bool k] 29)))
 have p:(120:Int)<t.size:=by omega
 clear h j i
 go_enter func9,ntmps9
 go_wp2_with fail
 refine(X.out _).mono ?_;rintro e r⟨v,rfl,hv,d⟩;rw[show v=Value.pointer none from hv];clear hv;have n:=aL d;clear d
 go_wp2_with fail
 go_ret
 exact⟨rfl,f,o.out.below n.out,by omega⟩
theorem aKK (l w:World)(g:Nat)(f:List It)(t:ByteArray)(a b:Int)(k:Bool)(i:t.size<=maxLen)(h:KInv l w g f)(j:Rd.read 1300 t=some (none,3,0))(q:¬120<t.size):
  Calls prog 9 #[.pointer (some ⟨g,0,none⟩),.string t,sv a b k] w (iY l g f.length):=by
 have X:=aL (fun w=>Lx 1300 t w (none,3,0) i j);have o:=aL (h.below ((Below.refl w.heap.size w).alloc (Nat.le_refl _) (.cells #[.int .i64 a,.int .i64 b,.bool k] 29)))
 have p:¬(120:Int)<t.size:=by omega
 clear h j i
 go_enter func9,ntmps9
 go_wp2_with fail
 refine(X.out _).mono ?_;rintro e r⟨v,rfl,hv,d⟩;rw[show v=Value.pointer none from hv];clear hv;have n:=aL d;clear d
 go_wp2_with fail
 go_ret
 exact⟨rfl,f,o.out.below n.out,by omega⟩
theorem aVo (w0 w:World)(S:Nat)(ps:List It)(t:ByteArray)(c:Rd.Tr)(a b:Int)(k:Bool)(hc:Rd.Good c)(ht:Rd.toks t.data.toList=Rd.tw c)(ag:SpOk a b)(hm:t.size<=maxLen)(hI:KInv w0 w S ps)(hT:oU w0)(hn:ps.length<=4000000)
  (hr:Rd.read 1300 t=some (some (Rd.strip c),0,0)) (hl:¬120<t.size) (hd:Rd.dep c<=12) (a5:Rd.ndc c<=40):
  Calls prog 9 #[.pointer (some ⟨S,0,none⟩),.string t,sv a b k] w (iY w0 S ps.length):=by
 have X:=aL (fun w=>Lx 1300 t w (some (Rd.strip c),0,0) hm hr);have x:=aL (Rd.aSQ (Zp t (t.size+1) 0) hr);have ax:=aL (Rd.Zl (Zp t (t.size+1) 0) hr).2.2;have bj:=(Rd.aQG c hc).pos;have RA:=aL (fun(u:ByteArray) (O:u.data.toList=Rd.text (Rd.strip c))=>Rd.aLT hc hd a5 O)
 have a0:Hid (∀n,ItOk (n,t,a,b,k)):=fun n=>⟨⟨c,hc,ht⟩,by show t.size<=120;omega,ag⟩
 obtain⟨i,hi,hz,W,a4⟩:=info_parts Aj;have HI:=aL (hI.below ((Below.refl w.heap.size w).alloc (Nat.le_refl _) (.cells #[.int .i64 a,.int .i64 b,.bool k] 29)));have HT:=aL hT
 have bs:¬(120:Int)<t.size:=by omega
 clear hI hr hm hT hc ht ag;generalize Rd.strip c=T at*
 go_enter func9,ntmps9
 go_wp2_with fail
 refine(X.out _).mono ?_;rintro e z⟨v,rfl,hv,U⟩
 have a6:∃n,v=.pointer (some ⟨n,0,none⟩):=by obtain⟨rb,n,rv,h1,_⟩:=hv;exact⟨n,h1⟩
 obtain⟨n,rfl⟩:=a6;have HV:=aL (gM.zero hv);have I:=aL (HI.out.below U);have M:z.heap[w.heap.size]?=some (cK a b k):=(U.block _ (by simp)).trans (jC _ _);obtain⟨am,ap,aq⟩:=nS M rfl rfl rfl;clear hv U;obtain⟨lv,q,l⟩:=I.out.cD;have c0:z.cell? ⟨S,0,none⟩=some lv:=bK q rfl;have f0:z.frozen? ⟨S,0,none⟩=false:=nD q;have bh:=eZ q;have bt:=I.out.lo;have bq:=I.out.zK.size;have A:=aL q;obtain⟨ao,ln,cp,rfl⟩:=aGt l;clear q
 go_wp2_with fail
 refine aGa (fun P:World=>P.cell? ⟨S,0,none⟩=some (.slice ao ln cp)/\P.cell? ⟨w.heap.size,0,none⟩=some (.int .i64 a)/\P.cell? ⟨w.heap.size,1,none⟩=some (.int .i64 b)/\P.cell? ⟨w.heap.size,2,none⟩=some (.bool k)) (fun i=>!(i==13)) (by kernel_rfl) ?_
 have f:Shut ((fun P:World=>P.cell? ⟨S,0,none⟩=some (.slice ao ln cp)/\P.cell? ⟨w.heap.size,0,none⟩=some (.int .i64 a)/\P.cell? ⟨w.heap.size,1,none⟩=some (.int .i64 b)/\P.cell? ⟨w.heap.size,2,none⟩=some (.bool k)) z.drew):=⟨c0,am,ap,aq⟩
 refine Bz (i:=0) (v:=?va0) rfl (by kernel_rfl) (by kernel_rfl) (by kernel_rfl) (by kernel_rfl) (fun _ _ _ h=>h) (Or.inl ⟨by rfl,?ya0⟩) f.out ?ra0
 case ya0=>
  intro w hSw
  try dsimp only at hSw
  go_simp
  try with_reducible rfl
 try simp only[Act.put,List.setIfInBounds_toArray,List.set_cons_zero,List.set_cons_succ]
 refine Bz (i:=1) (v:=?va1) rfl (by kernel_rfl) (by kernel_rfl) (by kernel_rfl) (by kernel_rfl) (fun _ _ _ h=>h) (Or.inl ⟨by rfl,?ya1⟩) f.out ?ra1
 case ya1=>
  intro w hSw
  try dsimp only at hSw
  go_simp
  try with_reducible rfl
 try simp only[Act.put,List.setIfInBounds_toArray,List.set_cons_zero,List.set_cons_succ]
 refine Bz (i:=2) (v:=?va2) rfl (by kernel_rfl) (by kernel_rfl) (by kernel_rfl) (by kernel_rfl) (fun _ _ _ h=>h) (Or.inl ⟨by rfl,?ya2⟩) f.out ?ra2
 case ya2=>
  intro w hSw
  try dsimp only at hSw
  go_simp
  try with_reducible rfl
 try simp only[Act.put,List.setIfInBounds_toArray,List.set_cons_zero,List.set_cons_succ]
 refine Bz (i:=3) (v:=?va3) rfl (by kernel_rfl) (by kernel_rfl) (by kernel_rfl) (by kernel_rfl) (fun _ _ _ h=>h) (Or.inl ⟨by rfl,?ya3⟩) f.out ?ra3
 case ya3=>
  intro w hSw
  try dsimp only at hSw
  go_simp
  try with_reducible rfl
 try simp only[Act.put,List.setIfInBounds_toArray,List.set_cons_zero,List.set_cons_succ]
 refine Bz (i:=4) (v:=?va4) rfl (by kernel_rfl) (by kernel_rfl) (by kernel_rfl) (by kernel_rfl) (fun _ _ _ h=>h) (Or.inl ⟨by rfl,?ya4⟩) f.out ?ra4
 case ya4=>
  intro w hSw
  try dsimp only at hSw
  go_simp
  try with_reducible rfl
 try simp only[Act.put,List.setIfInBounds_toArray,List.set_cons_zero,List.set_cons_succ]
 refine Bz (i:=5) (v:=?va5) rfl (by kernel_rfl) (by kernel_rfl) (by kernel_rfl) (by kernel_rfl) (fun _ _ _ h=>h) (Or.inl ⟨by rfl,?ya5⟩) f.out ?ra5
 case ya5=>
  intro w hSw
  try dsimp only at hSw
  go_simp
  try with_reducible rfl
 try simp only[Act.put,List.setIfInBounds_toArray,List.set_cons_zero,List.set_cons_succ]
 refine Bz (i:=6) (v:=?va6) rfl (by kernel_rfl) (by kernel_rfl) (by kernel_rfl) (by kernel_rfl) (fun _ _ _ h=>h) (Or.inl ⟨by rfl,?ya6⟩) f.out ?ra6
 case ya6=>
  intro w hSw
  try dsimp only at hSw
  go_simp
  try with_reducible rfl
 try simp only[Act.put,List.setIfInBounds_toArray,List.set_cons_zero,List.set_cons_succ]
 refine Bz (i:=7) (v:=?va7) rfl (by kernel_rfl) (by kernel_rfl) (by kernel_rfl) (by kernel_rfl) (fun _ _ _ h=>h) (Or.inl ⟨by rfl,?ya7⟩) f.out ?ra7
 case ya7=>
  intro w hSw
  try dsimp only at hSw
  go_simp
  try with_reducible rfl
 try simp only[Act.put,List.setIfInBounds_toArray,List.set_cons_zero,List.set_cons_succ]
 refine Bz (i:=8) (v:=?va8) rfl (by kernel_rfl) (by kernel_rfl) (by kernel_rfl) (by kernel_rfl) (fun _ _ _ h=>h) (Or.inl ⟨by rfl,?ya8⟩) f.out ?ra8
 case ya8=>
  intro w hSw
  try dsimp only at hSw
  go_simp
  try with_reducible rfl
 try simp only[Act.put,List.setIfInBounds_toArray,List.set_cons_zero,List.set_cons_succ]
 clear f;refine Ex (i:=9) (by kernel_rfl) rfl (fun K r=>?_)
 go_simp
 obtain⟨X,R⟩:∃X,X=(z.alloc (.cells #[.pointer (some ⟨n,0,none⟩),.string t,.int .i64 a,.int .i64 b,.bool k] 31)).drew:=⟨_,rfl⟩
 rw[<-R]
 have C:X.heap[S]?=some (.cells #[.slice ao ln cp] 36 (0,0)):=by rw[R];exact rS A.out
 have s:X.heap[w.heap.size]?=some (cK a b k):=by rw[R];exact rS M
 have H:X.ownsRow w0.heap.size 31 5 (.slice ao ln cp) ps.length (dE ps):=by rw[R];exact l.alloc _
 have E:∀j u,[.pointer (some ⟨n,0,none⟩),.string t,.int .i64 a,.int .i64 b,.bool k][j]?=some u->X.cell? ((⟨z.heap.size,0,none⟩:Addr).add j)=some u:=by rw[R];exact aGQ z _ _ _ _ _ _
 have ah:z.heap.size<=X.heap.size:=by rw[R];show z.heap.size<=(z.alloc (.cells #[.pointer (some ⟨n,0,none⟩),.string t,.int .i64 a,.int .i64 b,.bool k] 31)).heap.size;simp
 have HX:=aL R;clear R;refine r.out _ _ (fun _=>⟨bK C rfl,bK (o:=0) s rfl,bK (o:=1) s rfl,bK (o:=2) s rfl⟩) ?_;clear r K
 try simp only[Act.put,List.setIfInBounds_toArray,List.set_cons_zero,List.set_cons_succ]
 refine Ex (i:=10) (by kernel_rfl) rfl (fun K r=>?_);refine step_append_lies _ rfl _ _ 23 rfl w0.heap.size 31 i (.agg #[.pointer none,.string ⟨#[]⟩,.int .i64 0,.int .i64 0,.bool false]) 5 48 underlying23 hi hz W a4 rfl (by decide) _ _ _ rfl H ⟨z.heap.size,0,none⟩ 1 1 [.pointer (some ⟨n,0,none⟩),.string t,.int .i64 a,.int .i64 b,.bool k] rfl rfl E (by intro u O;simp at O;rcases O with rfl|rfl|rfl|rfl|rfl<;>rfl) (by decide) (by unfold maxLen;omega) (by omega) (by omega) _ rfl ?_;intro g bp w3 F D _ _;have N:(z.alloc (.cells #[.pointer (some ⟨n,0,none⟩),.string t,.int .i64 a,.int .i64 b,.bool k] 31)).grownBy w3 (Value.slice ao ln cp).ownBlock:=aIW (by rw[<-HX.out];exact D);have L:=aN1 A.out l N;have q0:=bK (o:=0) L rfl;have qf:=nD (o:=0) L;have bi:=eZ L;have d:=aNZ M (by decide) l N;have PU:=aL (KInv.push (p:=(n,t,a,b,k)) I.out A.out l (a0.out n) ⟨T,x.out.1,ax.out,HV.out⟩ F N);clear L F D N H E C s ah;refine r.out _ _ (fun _=>⟨q0,bK (o:=0) d rfl,bK (o:=1) d rfl,bK (o:=2) d rfl⟩) ?_;clear r K
 try simp only[Act.put,List.setIfInBounds_toArray,List.set_cons_zero,List.set_cons_succ]
 refine Ex (i:=11) (by kernel_rfl) rfl (fun K r=>?_)
 go_simp
 refine r.out _ _ (fun _=>⟨q0,bK (o:=0) d rfl,bK (o:=1) d rfl,bK (o:=2) d rfl⟩) ?_;clear r K
 try simp only[Act.put,List.setIfInBounds_toArray,List.set_cons_zero,List.set_cons_succ]
 refine Ex (i:=12) (by kernel_rfl) rfl (fun K r=>?_)
 go_simp
 refine r.out _ _ (fun _=>⟨q0,bK (o:=0) d rfl,bK (o:=1) d rfl,bK (o:=2) d rfl⟩) ?_;clear r K
 try simp only[Act.put,List.setIfInBounds_toArray,List.set_cons_zero,List.set_cons_succ]
 refine Ex (i:=13) (by kernel_rfl) rfl (fun K r=>?_)
 go_simp
 refine r.out _ _ (fun h=>absurd h (by decide)) ?_;clear r K;refine aF9 (by kernel_rfl) ?_ _
 go_wp2_with fail
 refine(aEU 0 _ T _ (HV.out.oth PU.out.2) x.out.1 x.out.2 (PU.out.1.tab HT.out)).mono ?_;rintro e w4⟨u,rfl,O,ab⟩;have Y:=aL (PU.out.1.below ab);have bx:=O.size;have RU:=aL (RA.out u O.eq);have HU:=aL O
 have aj:u.size<=maxLen:=by have:=x.out.2;unfold maxLen;omega
 have bu:0<u.size:=by omega
 clear O ab q0 qf d M am ap aq l
 by_cases ae:120<u.size
 ·have X2:=aL (fun w=>Lx 1300 u w (none,1,0) aj (by rw[RU.out,decide_eq_true ae];rfl))
  have af:(120:Int)<u.size:=by omega
  go_wp2_with fail
  refine(X2.out _).mono ?_;rintro e w5⟨v5,rfl,y,B⟩;rw[show v5=Value.pointer none from y];clear y;have J:=aL (Y.out.below B);clear B
  go_wp2_with fail
  go_ret
  exact⟨by simp;omega,_,J.out,by simp⟩
 ·have X2:=aL (fun w=>Lx 1300 u w (some T,0,0) aj (by rw[RU.out,decide_eq_false ae];rfl))
  have af:¬(120:Int)<u.size:=by omega
  have bg:(0:Int)<u.size:=by omega
  go_wp2_with fail
  refine(X2.out _).mono ?_;rintro e w5⟨v5,rfl,y,B⟩
  have ak:∃n,v5=.pointer (some ⟨n,0,none⟩):=by obtain⟨rb,n,rv,h1,_⟩:=y;exact⟨n,h1⟩
  obtain⟨yb,rfl⟩:=ak;have az:=aL (gM.zero y);have J:=aL (Y.out.below B);clear y B
  go_wp2_with fail
  refine(aEU 0 _ T _ az.out x.out.1 x.out.2 (J.out.tab HT.out)).mono ?_;rintro e w6⟨u6,rfl,ai,ad⟩;obtain rfl:=HU.out.same ai;have ay:=aL (J.out.below ad);clear ai ad
  go_wp2_with fail
  go_ret
  exact⟨rfl,_,ay.out,by simp⟩
theorem aSH (f w:World)(g:Nat)(e:List It)(t:ByteArray)(c:Rd.Tr)(a b:Int)(k:Bool)(hc:Rd.Good c)(p:Rd.toks t.data.toList=Rd.tw c)(l:SpOk a b)(j:t.size<=maxLen)(i:KInv f w g e)(q:oU f)(r:e.length<=4000000):
  Calls prog 9 #[.pointer (some ⟨g,0,none⟩),.string t,sv a b k] w (iY f g e.length):=by
 have d:=Rd.aIw hc p
 by_cases h:120<t.size
 ·rw[decide_eq_true h]at d;exact aPO f w g e t a b k j i d h
 ·rw[decide_eq_false h]at d
  by_cases n:12<Rd.dep c
  ·rw[decide_eq_true n]at d;exact aKK f w g e t a b k j i d h
  ·by_cases o:40<Rd.ndc c
   ·rw[decide_eq_true o,Bool.or_true]at d;exact aKK f w g e t a b k j i d h
   ·rw[decide_eq_false n,decide_eq_false o]at d;exact aVo f w g e t c a b k hc p l j i q r d h (by omega) (by omega)
def Pm (w:World)(bl:List Nat)(i:Value)(wr:World):Prop:=∃j:Nat,j<=16/\i=.int .i64 j/\SW w.heap.size w bl wr
theorem aUy (x y z:Nat):[99,102,91]++Rd.dec (x:Int)++[59,32]++Rd.dec (y:Int)++[44,32]++Rd.dec (z:Int)++[93]=Rd.dX [(x:Int),y,z]:=by
 show _=(([99,102,91]++([]++Rd.dec (x:Int)))++([59,32]++Rd.dec (y:Int)))++([44,32]++Rd.dec (z:Int))++[93];simp
theorem aLp (a b:Int)(w:World)(s:pickI a 4=0)(q:-9223372036854775808<=a)(r:a<=9223372036854775807):
  Calls prog 13 #[.int .i64 a,.int .i64 b] w (kL w [112,105]):=by
 have p:=aC (fun w=>pB a 4 w q r (by decide) (by decide));rw[s]at p;have O:=aC (fun x y w=>vA x y w)
 go_enter func13,ntmps13
 go_wp2_with fail
 refine(p.out _).mono ?_;rintro e I⟨rfl,rfl⟩
 go_wp2_with fail
 refine lE (fun W=>Below w.heap.size w W/\W.heap[w.heap.size]?=some (cK 0 0 false)) ⟨(Below.refl _ _).alloc (Nat.le_refl _) _,jC _ _⟩ ?_;rintro W⟨f,d⟩;refine((O.out _ _ _).mono (fun _ _ h=>cM.sp (by decide) h)).mono ?_;rintro e J⟨l,p1,n,rfl,o,k⟩;have j:=(k.block _ (eZ d)).trans d;obtain⟨E,F,H,B,C,D⟩:=yM j rfl rfl rfl;have Q:=aC (oM j l p1 n);have g:=aC (Mk (f.trans (k.mono f.size)) (Nat.le_refl _) l p1 n);have i:=aC o;clear j k f d
 go_wp2_with fail
 obtain⟨u,z,A⟩:=Q.out;refine bodyPost_ret (v:=.tuple #[.string ⟨#[112,105]⟩,sv l p1 n]) (by simp[results,results13,go_sem,u,z,A]) rfl ?_;exact⟨_,_,_,_,rfl,eC.mk' [112,105],i.out,g.out⟩
theorem aLq (a b:Int)(w:World)(s:pickI a 4=1)(q:-9223372036854775808<=a)(r:a<=9223372036854775807):
  Calls prog 13 #[.int .i64 a,.int .i64 b] w (kL w [101]):=by
 have p:=aC (fun w=>pB a 4 w q r (by decide) (by decide));rw[s]at p;have O:=aC (fun x y w=>vA x y w)
 go_enter func13,ntmps13
 go_wp2_with fail
 refine(p.out _).mono ?_;rintro e I⟨rfl,rfl⟩
 go_wp2_with fail
 refine lE (fun W=>Below w.heap.size w W/\W.heap[w.heap.size]?=some (cK 0 0 false)) ⟨(Below.refl _ _).alloc (Nat.le_refl _) _,jC _ _⟩ ?_;rintro W⟨f,d⟩;refine((O.out _ _ _).mono (fun _ _ h=>cM.sp (by decide) h)).mono ?_;rintro e J⟨l,p1,n,rfl,o,k⟩;have j:=(k.block _ (eZ d)).trans d;obtain⟨E,F,H,B,C,D⟩:=yM j rfl rfl rfl;have Q:=aC (oM j l p1 n);have g:=aC (Mk (f.trans (k.mono f.size)) (Nat.le_refl _) l p1 n);have i:=aC o;clear j k f d
 go_wp2_with fail
 obtain⟨u,z,A⟩:=Q.out;refine bodyPost_ret (v:=.tuple #[.string ⟨#[101]⟩,sv l p1 n]) (by simp[results,results13,go_sem,u,z,A]) rfl ?_;exact⟨_,_,_,_,rfl,eC.mk' [101],i.out,g.out⟩
theorem aFy (a b:Int)(w:World)(p:Nat)(S:pickI a 4=p)(hp:2<=p)(h0:-9223372036854775808<=a)(h1:a<=9223372036854775807)(h2:-9223372036854775808<=b)(h3:b<=9223372036854775807):
  Calls prog 13 #[.int .i64 a,.int .i64 b] w fun e H=>∃x y z:Nat,x<5/\1<=y/\y<=6/\1<=z/\z<=9/\kL w (Rd.dX [(x:Int),y,z]) e H:=by
 have E:=aC (fun w=>pB a 4 w h0 h1 (by decide) (by decide));rw[S]at E;have hx:=tJ b 5 (by decide);have J:=aC (fun w=>pB b 5 w h2 h3 (by decide) (by decide));have hy:=tJ (a.tdiv 4) 6 (by decide);have hz:=tJ (b.tdiv 5) 9 (by decide)
 have l:-9223372036854775808<=a.tdiv 4/\a.tdiv 4<=9223372036854775807:=by
  have:=Int.tdiv_mul_add_tmod a 4;have:=Int.tmod_lt_of_pos a (show(0:Int)<4 by decide)
  have h4:-4<a.tmod 4:=by
   have:=Int.tmod_lt_of_pos (-a) (show(0:Int)<4 by decide);rw[Int.neg_tmod]at this;omega
  omega
 have o:-9223372036854775808<=b.tdiv 5/\b.tdiv 5<=9223372036854775807:=by
  have:=Int.tdiv_mul_add_tmod b 5;have:=Int.tmod_lt_of_pos b (show(0:Int)<5 by decide)
  have h4:-5<b.tmod 5:=by
   have:=Int.tmod_lt_of_pos (-b) (show(0:Int)<5 by decide);rw[Int.neg_tmod]at this;omega
  omega
 have L:=aC (fun w=>pB (a.tdiv 4) 6 w l.1 l.2 (by decide) (by decide));have M:=aC (fun w=>pB (b.tdiv 5) 9 w o.1 o.2 (by decide) (by decide));clear S;generalize pickI b 5=x at*;generalize pickI (a.tdiv 4) 6=y at*;generalize pickI (b.tdiv 5) 9=z at*;have O:=aC (fun x y w=>vA x y w);have l1:(Rd.dec (x:Int)).length<=9:=Rd.Cd ⟨by omega,by omega⟩;have l2:(Rd.dec ((1+y:Nat):Int)).length<=9:=Rd.Cd ⟨by omega,by omega⟩;have l3:(Rd.dec ((1+z:Nat):Int)).length<=9:=Rd.Cd ⟨by omega,by omega⟩
 have p0:¬(p:Int)=0:=by omega
 have p1:¬(p:Int)=1:=by omega
 go_enter func13,ntmps13
 go_wp2_with fail
 refine(E.out _).mono ?_;rintro e I⟨rfl,rfl⟩
 go_wp2_with fail
 refine(J.out _).mono ?_;rintro e I⟨rfl,rfl⟩
 go_wp2_with fail
 refine(L.out _).mono ?_;rintro e I⟨rfl,rfl⟩
 go_wp2_with fail
 refine(M.out _).mono ?_;rintro e I⟨rfl,rfl⟩
 go_wp2_with fail
 refine lE (fun W=>SW w.heap.size w [w.heap.size] W) (SW.new ⟨⟨Nat.le_refl _,Below.refl _ _⟩,fun b h=>by cases h⟩ false SpOk.zero) ?_;rintro W f;refine((O.out _ _ _).mono (fun _ _ h=>cM.sp (by decide) h)).mono ?_;rintro e w2⟨t0,t1,t2,rfl,T,k⟩
 go_wp2_with fail
 have g:=aC ((f.below k).new t2 T);clear f k T E J L M;generalize w2.alloc _=W2 at*;generalize w2.heap.size=bs at*;rw[show(1:Int)+(y:Int)=((1+y:Nat):Int) by omega,show(1:Int)+(z:Int)=((1+z:Nat):Int) by omega]
 have r:1<=1+y/\1+y<=6:=by omega
 have s:1<=1+z/\1+z<=9:=by omega
 generalize 1+y=Y at*;generalize 1+z=Z at*
 go_loopw [10] (fun i wr=>Pm w [bs,w.heap.size] i wr) (fun i _=>16-(intOf i).toNat)
 case atStart=>exact⟨0,by omega,rfl,g.out⟩
 case round=>
  obtain⟨j,hj,rfl,f⟩:=hrel;have C:=aC f;clear f g
  by_cases hl:j<16
  ·have al:(j:Int)<16:=by omega
   go_wp2_with fail
   refine qD (B:=w.heap.size) (w0:=w) [.mv (.int .i64 (Y:Int)),.mv (.int .i64 (IntKind.i64.wrap ((Y:Int)*1048576))),.ca 11,.mv (.int .i64 (Z:Int)),.mv (.int .i64 (IntKind.i64.wrap ((Z:Int)*1048576))),.ca 11,.ld 9 bs,.ca 24,.ca 23,.ca 24,.ca 23,.st 9 bs] [bs,w.heap.size] C.out (by kernel_rfl) (by kernel_rfl) ?_ ?_
   ·intro i h a H K A N
    match i,h with
    |0,_=>exact sN A N 7 rfl rfl rfl (by kernel_rfl) rfl
    |1,_=>exact Iv A N 0 rfl rfl rfl (by kernel_rfl) rfl
    |2,_=>exact cB A N [some 1] rfl rfl rfl rfl (by kernel_rfl) ePt (cPt _)
    |3,_=>exact sN A N 8 rfl rfl rfl (by kernel_rfl) rfl
    |4,_=>exact Iv A N 3 rfl rfl rfl (by kernel_rfl) rfl
    |5,_=>exact cB A N [some 4] rfl rfl rfl rfl (by kernel_rfl) ePt (cPt _)
    |6,_=>exact iI A N 9 bs rfl rfl rfl (by kernel_rfl) rfl (by simp)
    |7,_=>exact cB A N [some 6] rfl rfl rfl rfl (by kernel_rfl) pU pQ
    |8,_=>exact cB A N [some 5,some 7] rfl rfl rfl rfl (by kernel_rfl) kI kH
    |9,_=>exact cB A N [some 8] rfl rfl rfl rfl (by kernel_rfl) pU pQ
    |10,_=>exact cB A N [some 2,some 9] rfl rfl rfl rfl (by kernel_rfl) kI kH
    |11,_=>exact jH A N 9 bs 44 10 rfl rfl rfl (by kernel_rfl) rfl (by simp) (by kernel_rfl) (fun _ h=>h)
    |n+12,h=>exact absurd h (by simp)
   ·intro vs w6 d _;have D:=aC d;clear d C;simp only[cC,dl,List.setIfInBounds_toArray,List.set_cons_zero,List.set_cons_succ,Nat.zero_add,Nat.reduceAdd]
    go_wp2_with fail
    go_roundw
    case rel=>exact⟨j+1,by omega,by go_num,D.out⟩
    case measure=>simp[intOf];omega
  ·obtain rfl:j=16:=by omega
   go_wp2_with fail
   refine qD (B:=w.heap.size) (w0:=w) [.mv (.int .i64 (x:Int)),.tx (Rd.dec (x:Int)),.tx ([99,102,91]++Rd.dec (x:Int)),.tx ([99,102,91]++Rd.dec (x:Int)++[59,32]),.mv (.int .i64 (Y:Int)),.tx (Rd.dec (Y:Int)),.tx ([99,102,91]++Rd.dec (x:Int)++[59,32]++Rd.dec (Y:Int)),.tx ([99,102,91]++Rd.dec (x:Int)++[59,32]++Rd.dec (Y:Int)++[44,32]),.mv (.int .i64 (Z:Int)),.tx (Rd.dec (Z:Int)),.tx ([99,102,91]++Rd.dec (x:Int)++[59,32]++Rd.dec (Y:Int)++[44,32]++Rd.dec (Z:Int)),.tx ([99,102,91]++Rd.dec (x:Int)++[59,32]++Rd.dec (Y:Int)++[44,32]++Rd.dec (Z:Int)++[93]),.mv (.int .i64 (x:Int)),.mv (.int .i64 (IntKind.i64.wrap ((x:Int)*1048576))),.ca 11,.ld 9 bs,.ca 24,.ca 23,.tx ([99,102,91]++Rd.dec (x:Int)++[59,32]++Rd.dec (Y:Int)++[44,32]++Rd.dec (Z:Int)++[93]),.st 5 w.heap.size] [bs,w.heap.size] C.out (by kernel_rfl) (by kernel_rfl) ?_ ?_
   ·intro i h a H K A N
    match i,h with
    |0,_=>exact sN A N 6 rfl rfl rfl (by kernel_rfl) rfl
    |1,_=>exact Iy A N 0 rfl rfl rfl (by kernel_rfl) rfl (by omega)
    |2,_=>exact hP A N rfl rfl (fO.c _) (fO.t 1 rfl (by kernel_rfl)) rfl (by simp;omega)
    |3,_=>exact hP A N rfl rfl (fO.t 2 rfl (by kernel_rfl)) (fO.c _) rfl (by simp;omega)
    |4,_=>exact sN A N 7 rfl rfl rfl (by kernel_rfl) rfl
    |5,_=>exact Iy A N 4 rfl rfl rfl (by kernel_rfl) rfl (by omega)
    |6,_=>exact hP A N rfl rfl (fO.t 3 rfl (by kernel_rfl)) (fO.t 5 rfl (by kernel_rfl)) rfl (by simp;omega)
    |7,_=>exact hP A N rfl rfl (fO.t 6 rfl (by kernel_rfl)) (fO.c _) rfl (by simp;omega)
    |8,_=>exact sN A N 8 rfl rfl rfl (by kernel_rfl) rfl
    |9,_=>exact Iy A N 8 rfl rfl rfl (by kernel_rfl) rfl (by omega)
    |10,_=>exact hP A N rfl rfl (fO.t 7 rfl (by kernel_rfl)) (fO.t 9 rfl (by kernel_rfl)) rfl (by simp;omega)
    |11,_=>exact hP A N rfl rfl (fO.t 10 rfl (by kernel_rfl)) (fO.c _) rfl (by simp;omega)
    |12,_=>exact sN A N 6 rfl rfl rfl (by kernel_rfl) rfl
    |13,_=>exact Iv A N 12 rfl rfl rfl (by kernel_rfl) rfl
    |14,_=>exact cB A N [some 13] rfl rfl rfl rfl (by kernel_rfl) ePt (cPt _)
    |15,_=>exact iI A N 9 bs rfl rfl rfl (by kernel_rfl) rfl (by simp)
    |16,_=>exact cB A N [some 15] rfl rfl rfl rfl (by kernel_rfl) pU pQ
    |17,_=>exact cB A N [some 14,some 16] rfl rfl rfl rfl (by kernel_rfl) kI kH
    |18,_=>exact Am A N 11 rfl rfl rfl (by kernel_rfl) rfl
    |19,_=>exact jH A N 5 w.heap.size 62 17 rfl rfl rfl (by kernel_rfl) rfl (by simp) (by kernel_rfl) (fun _ h=>h)
    |n+20,h=>exact absurd h (by simp)
   ·intro vs w6 d P;obtain⟨u,hu,q⟩:∃u,vs 18=.string u/\eC u _:=P 18 _ _ rfl rfl;simp only[cC,dl,List.setIfInBounds_toArray,List.set_cons_zero,List.set_cons_succ,Nat.zero_add,Nat.reduceAdd,hu];obtain⟨_,U,X,r',F,R⟩:=d.2 w.heap.size (by simp);obtain⟨c0,c1,c2⟩:=nS R rfl rfl rfl;have HB:=aC d.1.2;have HU:=aC q;clear d R P q
    go_wp2_with fail
    refine bodyPost_ret (v:=.tuple #[.string u,sv U X r']) (by simp[results,results13,go_sem,c0,c1,c2]) rfl ?_;exact⟨x,Y,Z,hx,r.1,r.2,s.1,s.2,u,U,X,r',rfl,HU.out.to (aUy x Y Z),F,HB.out⟩
def ConstTxt (l:List UInt8):Prop:=l=[112,105]\/l=[101]\/∃x y z:Nat,x<5/\1<=y/\y<=6/\1<=z/\z<=9/\l=Rd.dX [(x:Int),y,z]
theorem aHV (a b:Int)(w:World)(d:-9223372036854775808<=a)(f:a<=9223372036854775807)(h:-9223372036854775808<=b)(i:b<=9223372036854775807):
  Calls prog 13 #[.int .i64 a,.int .i64 b] w fun e k=>∃l,ConstTxt l/\kL w l e k:=by
 have j:=tJ a 4 (by decide)
 have hc:pickI a 4=0\/pickI a 4=1\/pickI a 4=2\/pickI a 4=3:=by omega
 rcases hc with hn|hn|hn|hn
 ·exact(aLp a b w hn d f).mono (fun _ _ x=>⟨_,Or.inl rfl,x⟩)
 ·exact(aLq a b w hn d f).mono (fun _ _ x=>⟨_,Or.inr (Or.inl rfl),x⟩)
 ·exact(aFy a b w 2 hn (by decide) d f h i).mono (fun _ _ ⟨x,y,z,p1,g,p3,p4,p5,p6⟩=>⟨_,Or.inr (Or.inr ⟨x,y,z,p1,g,p3,p4,p5,rfl⟩),p6⟩)
 ·exact(aFy a b w 3 hn (by decide) d f h i).mono (fun _ _ ⟨x,y,z,p1,g,p3,p4,p5,p6⟩=>⟨_,Or.inr (Or.inr ⟨x,y,z,p1,g,p3,p4,p5,rfl⟩),p6⟩)
def Hv (w:World)(bl:List Nat)(i:Value)(wr:World):Prop:=∃k:Nat,1<=k/\k<=10/\i=.int .i64 k/\SW w.heap.size w bl wr
def Dn (w:World)(bl:List Nat)(i:Value)(wr:World):Prop:=∃k:Nat,k<=4/\i=.int .i64 k/\SW w.heap.size w bl wr
theorem aH7 (n:Int)(w:World)(h0:-7340032<=n)(h1:n<=7340032):Calls prog 40 #[.int .i64 n] w (bE w):=by
 have F:=aC (fun w=>Nc n 16 w (by omega) (by omega) (by omega) (by omega));have G:=aC (fun w=>Sq n 16 w (by omega) (by omega) (by omega) (by omega));have ae:=aC (Gy (a:=n) (b:=n) (c:=16) (by decide) (Int.le_refl _));have O:=aC (fun x y w=>vA x y w);have M:=aC (fun a b k c d m w h h'=>aJw a b k c d m w h h');have AD:=aC (fun a b k c d m w h h'=>aMq a b k c d m w h h')
 go_enter func40,ntmps40
 go_wp2_with fail
 refine lE (fun W=>SW w.heap.size w [w.heap.size] W) (SW.new ⟨⟨Nat.le_refl _,Below.refl _ _⟩,fun b h=>by cases h⟩ false SpOk.zero) ?_;rintro W l;refine(F.out _).mono ?_;rintro e w1⟨rfl,rfl⟩
 go_wp2_with fail
 refine(G.out _).mono ?_;rintro e w1⟨rfl,rfl⟩
 go_wp2_with fail
 refine((O.out _ _ _).mono (fun _ _ h=>cM.sp ae.out h)).mono ?_;rintro e w1⟨x0,x1,x2,rfl,hx,R⟩
 go_wp2_with fail
 refine lE (fun V=>SW w.heap.size w [w1.heap.size,w.heap.size] V) ((l.below R).new x2 hx) ?_;clear l;rintro V l;generalize w1.heap.size=I at*;refine((O.out _ _ _).mono (fun _ _ h=>cM.sp (by decide) h)).mono ?_;rintro e w2⟨t0,t1,Y,rfl,ht,S⟩;have L:=aC (show SW w.heap.size w [w2.heap.size+1,w2.heap.size,I,w.heap.size] ((w2.alloc (.cells #[.int .i64 t0,.int .i64 t1,.bool Y] 29)).alloc (.cells #[.int .i64 t0,.int .i64 t1,.bool Y] 29)) by simpa using ((l.below S).new Y ht).new Y ht)
 go_wp2_with fail
 clear l S R hx ht F G O;generalize World.alloc _ (.cells #[.int .i64 t0,.int .i64 t1,.bool Y] 29)=W2 at*;generalize w2.heap.size+1=bs at*;generalize w2.heap.size=bt at*
 go_loopw [6] (fun i wr=>Hv w [bs,bt,I,w.heap.size] i wr) (fun i _=>10-(intOf i).toNat)
 case atStart=>exact⟨1,by omega,by omega,rfl,L.out⟩
 case round=>
  obtain⟨k,au,av,rfl,l⟩:=hrel;have E:=aC l;clear l L
  by_cases hl:k<=9
  ·have ah:(k:Int)<=9:=by omega
   go_wp2_with fail
   refine qD (B:=w.heap.size) (w0:=w) [.ld 4 bt,.ld 3 I,.mv (.int .i64 (k:Int)),.ca 12,.ca 26,.ca 26,.st 4 bt] [bs,bt,I,w.heap.size] E.out (by kernel_rfl) (by kernel_rfl) ?_ ?_
   ·intro i h a w' K A N
    match i,h with
    |0,_=>exact iI A N 4 bt rfl rfl rfl (by kernel_rfl) rfl (by simp)
    |1,_=>exact iI A N 3 I rfl rfl rfl (by kernel_rfl) rfl (by simp)
    |2,_=>exact sN A N 6 rfl rfl rfl (by kernel_rfl) rfl
    |3,_=>exact cB A N [none,some 2] rfl rfl rfl rfl (by kernel_rfl) Qa (Pl 1 k (by decide) (by decide) (by omega) (by omega))
    |4,_=>exact cB A N [some 1,some 3] rfl rfl rfl rfl (by kernel_rfl) qM qL
    |5,_=>exact cB A N [some 0,some 4] rfl rfl rfl rfl (by kernel_rfl) qM qL
    |6,_=>exact jH A N 4 bt 24 5 rfl rfl rfl (by kernel_rfl) rfl (by simp) (by kernel_rfl) (fun _ h=>h)
    |n+7,h=>exact absurd h (by simp)
   ·intro vs w5 o _;obtain⟨J,p,q,r,f,g⟩:=o.2 bs (by simp);obtain⟨_,p',q',r',X,P⟩:=o.2 bt (by simp);obtain⟨s0,s1,s2⟩:=nS g rfl rfl rfl;obtain⟨u0,u1,u2⟩:=nS P rfl rfl rfl;have z:=aC o;have j:=aC g;clear o E P g;simp only[cC,dl,List.setIfInBounds_toArray,List.set_cons_zero,List.set_cons_succ,Nat.zero_add,Nat.reduceAdd]
    go_wp2_with fail
    refine(AD.out _ _ _ _ _ _ _ f X).mono ?_;rintro e v5⟨a5,b5,c5,rfl,C,u⟩;have s:=(u.block _ (eZ j.out)).trans j.out;obtain⟨s0,s1,s2,f0,f1,f2⟩:=yM s rfl rfl rfl;have H:=aC ((z.out.below u).put (r:=c5) J ⟨_,_,_,f,s⟩ C);clear u s z j
    go_wp2_with fail
    go_roundw
    case rel=>exact⟨k+1,by omega,by omega,by go_num,H.out⟩
    case measure=>simp[intOf];omega
  ·have T:(k:Int)=10:=by omega
   rw[T];clear T
   go_wp2_with fail
   refine qD (B:=w.heap.size) (w0:=w) [.ld 5 bs,.ca 20,.ca 23,.st 5 bs] [bs,bt,I,w.heap.size] E.out (by kernel_rfl) (by kernel_rfl) ?_ ?_
   ·intro i h a w' K A N
    match i,h with
    |0,_=>exact iI A N 5 bs rfl rfl rfl (by kernel_rfl) rfl (by simp)
    |1,_=>exact cB A N [none,none] rfl rfl rfl rfl (by kernel_rfl) Gc (Ga _ _ (by decide))
    |2,_=>exact cB A N [some 0,some 1] rfl rfl rfl rfl (by kernel_rfl) kI kH
    |3,_=>exact jH A N 5 bs 30 2 rfl rfl rfl (by kernel_rfl) rfl (by simp) (by kernel_rfl) (fun _ h=>h)
    |n+4,h=>exact absurd h (by simp)
   ·intro vs w5 o _;have z:=aC o;clear o E;simp only[cC,dl,List.setIfInBounds_toArray,List.set_cons_zero,List.set_cons_succ,Nat.zero_add,Nat.reduceAdd]
    go_wp2_with fail
    go_loopw [7] (fun i wr=>Dn w [bs,bt,I,w.heap.size] i wr) (fun i _=>4-(intOf i).toNat)
    case atStart=>exact⟨0,by omega,rfl,z.out⟩
    case round=>
     obtain⟨k,hk,rfl,l⟩:=hrel;obtain⟨J,p,q,r,f,g⟩:=l.2 bs (by simp);obtain⟨s0,s1,s2⟩:=nS g rfl rfl rfl
     by_cases hl:k<4
     ·have ah:(k:Int)<4:=by omega
      have E:=aC l;have j:=aC g;clear l g z
      go_wp2_with fail
      refine(M.out _ _ _ _ _ _ _ f f).mono ?_;rintro e v5⟨a5,b5,c5,rfl,C,u⟩;have s:=(u.block _ (eZ j.out)).trans j.out;obtain⟨s0,s1,s2,f0,f1,f2⟩:=yM s rfl rfl rfl;have H:=aC ((E.out.below u).put (r:=c5) J ⟨_,_,_,f,s⟩ C);clear u s E j
      go_wp2_with fail
      go_roundw
      case rel=>exact⟨k+1,by omega,by go_num,H.out⟩
      case measure=>simp[intOf];omega
     ·obtain rfl:k=4:=by omega
      obtain⟨hr,p',q',r',U,D⟩:=l.2 w.heap.size (by simp);obtain⟨r0,r1,r2,g0,g1,g2⟩:=yM D rfl rfl rfl;have Q:=aC (oM D p q r);have ad:=aC (l.put (r:=r) hr ⟨_,_,_,U,D⟩ f).1.2;clear l g D z
      go_wp2_with fail
      obtain⟨q0,q1,q2⟩:=Q.out;refine bodyPost_ret (v:=sv p q r) (by simp[results,results40,go_sem,q0,q1,q2]) rfl ?_;exact⟨p,q,r,rfl,f,ad.out⟩
theorem aR2 (a b:Int)(k:Bool)(w:World)(h:SpOk a b):Calls prog 28 #[sv a b k] w (bE w):=by
 have T:=aC (aNV w a b k);have H:=h.le;have C:iF 40:=xE func40 rfl rfl
 by_cases hc:k=true/\¬7340032<b/\¬a < -7340032
 case pos=>
  obtain⟨rfl,p1,J⟩:=hc
  go_enter func28,ntmps28
  go_wp2_with fail
  refine qD (B:=w.heap.size+1) (w0:=xT w a b true) [.mv (.pointer (some ⟨w.heap.size,0,none⟩)),.mv (.int .i64 a),.ca 40,.mv (.pointer (some ⟨w.heap.size,1,none⟩)),.mv (.int .i64 b),.ca 40,.ca 39,.st 2 (w.heap.size+1)] [w.heap.size+1] T.out.s (by kernel_rfl) (by kernel_rfl) ?_ ?_
  ·intro i hi P w' K A N
   match i,hi with
   |0,_=>exact Iw A N 1 rfl rfl (by kernel_rfl) rfl rfl
   |1,_=>exact xQ A N 0 rfl rfl rfl (by kernel_rfl) rfl (by omega) T.out.x0
   |2,_=>exact cB A N [some 1] rfl rfl rfl rfl (by kernel_rfl) C (cI fun w=>aH7 a w (by omega) (by omega))
   |3,_=>exact Ix A N 1 rfl rfl (by kernel_rfl) rfl rfl
   |4,_=>exact xQ A N 3 rfl rfl rfl (by kernel_rfl) rfl (by omega) T.out.x1
   |5,_=>exact cB A N [some 4] rfl rfl rfl rfl (by kernel_rfl) C (cI fun w=>aH7 b w (by omega) (by omega))
   |6,_=>exact cB A N [some 2,some 5] rfl rfl rfl rfl (by kernel_rfl) zR zN
   |7,_=>exact jH A N 2 (w.heap.size+1) 23 6 rfl rfl rfl (by kernel_rfl) rfl (by simp) (by kernel_rfl) (fun _ h=>h)
   |n+8,hi=>exact absurd hi (by simp)
  ·intro vs w6 f _;simp only[cC,dl,List.setIfInBounds_toArray,List.set_cons_zero,List.set_cons_succ,Nat.zero_add,Nat.reduceAdd];obtain⟨_,u,y,z,p,D⟩:=f.2 (w.heap.size+1) (by simp);obtain⟨c0,c1,c2⟩:=nS D rfl rfl rfl;have F:=aC (T.out.be.trans (f.1.2.mono (by omega)));clear f D
   go_wp2_with fail
   refine bodyPost_ret (v:=sv u y z) (by simp[results,results28,go_sem,c0,c1,c2]) rfl ?_;exact⟨u,y,z,rfl,p,F.out⟩
 case neg=>
  have q:k=false\/(k=true/\7340032<b)\/(k=true/\¬7340032<b/\a < -7340032):=by
   cases k
   ·exact Or.inl rfl
   ·by_cases g:7340032<b
    ·exact Or.inr (Or.inl ⟨rfl,g⟩)
    ·exact Or.inr (Or.inr ⟨rfl,g,by
      rcases Int.lt_or_le a (-7340032)with x|x
      ·exact x
      ·exact absurd ⟨rfl,g,by omega⟩ hc⟩)
  clear hc h
  rcases q with rfl|⟨rfl,p1⟩|⟨rfl,p1,J⟩
  all_goals
   go_enter func28,ntmps28
   go_wp2_with fail
   refine(Bx _).mono ?_;rintro e w2⟨rfl,E⟩;have d:=T.out.s.below E;obtain⟨I,u,y,z,j,l⟩:=d.2 (w.heap.size+1) (by simp);obtain⟨W,X,Y,R,S,U⟩:=yM l rfl rfl rfl;have Q:=aC (oM l 0 0 false);have o:=aC (T.out.be.trans (((d.put (r:=false) I ⟨_,_,_,j,l⟩ SpOk.zero).1.2).mono (by omega)));clear l E d
   go_wp2_with fail
   obtain⟨L,M,O⟩:=Q.out;refine bodyPost_ret (v:=sv 0 0 false) (by simp[results,results28,go_sem,L,M,O]) rfl ?_;exact⟨0,0,false,rfl,SpOk.zero,o.out⟩
def Ji (w:World)(bl:List Nat)(i:Value)(wr:World):Prop:=∃j:Nat,j<=12/\i=.int .i64 (3+2*j)/\SW w.heap.size w bl wr
theorem aSv (a b:Int)(k:Bool)(s:Int)(w:World)(h:SpOk a b):Calls prog 54 #[sv a b k,.int .i64 s] w (bE w):=by
 have M:=aC (fun a b k c d m w h h'=>aJw a b k c d m w h h');have NG:=aC (fun a b k w h=>Nz a b k w h);have S0:SW w.heap.size w [w.heap.size] (w.alloc (.cells #[.int .i64 a,.int .i64 b,.bool k] 29)):=SW.new ⟨⟨Nat.le_refl _,Below.refl _ _⟩,fun b h=>by cases h⟩ k h;have S1:=S0.new false SpOk.zero;rw[show(w.alloc (.cells #[.int .i64 a,.int .i64 b,.bool k] 29)).heap.size=w.heap.size+1 by simp]at S1;have J:=aC S1;clear S0 S1
 go_enter func54,ntmps54
 go_wp2_with fail
 refine lE (fun W=>SW w.heap.size w [w.heap.size+1,w.heap.size] W/\W.heap[w.heap.size]?=some (cK a b k)) ⟨J.out,rS (jC _ _)⟩ ?_;rintro W⟨o,hA⟩;refine(M.out _ _ _ _ _ _ _ h h).mono ?_;rintro e f⟨x0,x1,x2,rfl,Y,u⟩;have S:=(o.below u).new x2 Y;have C:=(u.block _ (eZ hA)).trans hA;obtain⟨a0,a1,a2⟩:=nS C rfl rfl rfl;have a6:w.heap.size+1<f.heap.size:=Nat.lt_of_lt_of_le (o.2 (w.heap.size+1) (by simp)).2.lt u.size
 have a4:¬w.heap.size=f.heap.size:=by omega
 have a3:w.heap.size<f.heap.size:=by omega
 have y:=aC S;have I:=aC C;clear o hA u J S C
 by_cases hs:s<0
 case' pos=>
  go_wp2_with fail
  refine(NG.out x0 x1 x2 _ Y).mono ?_;rintro e H⟨rfl,l⟩;have R:=(l.block f.heap.size (by simp)).trans (jC f (.cells #[.int .i64 x0,.int .i64 x1,.bool x2] 29));have P:=(l.block w.heap.size (by simp;omega)).trans (rS I.out);obtain⟨b0,b1,b2,f0,f1,f2⟩:=yM R rfl rfl rfl;obtain⟨a0,a1,a2⟩:=nS P rfl rfl rfl
  have aq:w.heap.size<H.heap.size:=by have:=l.size;simp at this;omega
  have ar:¬w.heap.size=H.heap.size:=by omega
  have D:=y.out.below l;have z:=aC (show SW w.heap.size w [H.heap.size+1,H.heap.size,f.heap.size,w.heap.size+1,w.heap.size] (((qV H f.heap.size (-x1) (-x0) x2).alloc (.cells #[.int .i64 a,.int .i64 b,.bool k] 29)).alloc (.cells #[.int .i64 a,.int .i64 b,.bool k] 29)) by simpa[qV]using ((D.put (r:=x2) (by omega) (D.2 f.heap.size (by simp)).2 Y.neg).new k h).new k h);clear R P D l
  go_wp2_with fail
  unfold qV at z;generalize World.alloc _ (.cells #[.int .i64 a,.int .i64 b,.bool k] 29)=V at*;generalize H.heap.size+1=bs at*;generalize H.heap.size=bt at*;generalize f.heap.size=O at*
 case' neg=>
  have z:=aC (show SW w.heap.size w [f.heap.size+1+1,f.heap.size+1,f.heap.size,w.heap.size+1,w.heap.size] (((f.alloc (.cells #[.int .i64 x0,.int .i64 x1,.bool x2] 29)).alloc (.cells #[.int .i64 a,.int .i64 b,.bool k] 29)).alloc (.cells #[.int .i64 a,.int .i64 b,.bool k] 29)) by simpa using (y.out.new k h).new k h)
  go_wp2_with fail
  generalize World.alloc _ (.cells #[.int .i64 a,.int .i64 b,.bool k] 29)=V at*;generalize f.heap.size+1+1=bs at*;generalize f.heap.size+1=bt at*;generalize f.heap.size=O at*
 all_goals
  clear a0 a1 a2 y I Y
  go_loopw [8] (fun i wr=>Ji w [bs,bt,O,w.heap.size+1,w.heap.size] i wr) (fun i _=>28-(intOf i).toNat)
  case atStart=>exact⟨0,by omega,rfl,z.out⟩
  case round=>
   obtain⟨j,hj,rfl,o⟩:=hrel
   by_cases hl:j<12
   ·have az:3+2*(j:Int)<27:=by omega
    obtain⟨ag,p,q,r,x,hT⟩:=o.2 bt (by simp);obtain⟨_,p',q',r',U,hW⟩:=o.2 O (by simp);obtain⟨t0,t1,t2⟩:=nS hT rfl rfl rfl;obtain⟨u0,u1,u2⟩:=nS hW rfl rfl rfl;have X:=aC o;have HT:=aC hT;clear o hT hW
    go_wp2_with fail
    refine(M.out _ _ _ _ _ _ _ x U).mono ?_;rintro e v5⟨a5,b5,c5,rfl,T,F⟩;have E:=(F.block _ (eZ HT.out)).trans HT.out;obtain⟨t0,t1,t2,f0,f1,f2⟩:=yM E rfl rfl rfl;have L:=aC ((X.out.below F).put (r:=c5) ag ⟨_,_,_,x,E⟩ T);clear F E X HT
    go_wp2_with fail
    refine qD (B:=w.heap.size) (w0:=w) [.ld 7 bs,.ld 6 bt,.mv (.int .i64 (3+2*j)),.ca 12,.ca 26,.ca 23,.st 7 bs] [bs,bt,O,w.heap.size+1,w.heap.size] L.out (by kernel_rfl) (by kernel_rfl) ?_ ?_
    ·intro i h a w' K A N
     match i,h with
     |0,_=>exact iI A N 7 bs rfl rfl rfl (by kernel_rfl) rfl (by simp)
     |1,_=>exact iI A N 6 bt rfl rfl rfl (by kernel_rfl) rfl (by simp)
     |2,_=>exact sN A N 8 rfl rfl rfl (by kernel_rfl) rfl
     |3,_=>exact cB A N [none,some 2] rfl rfl rfl rfl (by kernel_rfl) Qa (Pl 1 (3+2*j) (by decide) (by decide) (by omega) (by omega))
     |4,_=>exact cB A N [some 1,some 3] rfl rfl rfl rfl (by kernel_rfl) qM qL
     |5,_=>exact cB A N [some 0,some 4] rfl rfl rfl rfl (by kernel_rfl) kI kH
     |6,_=>exact jH A N 7 bs 30 5 rfl rfl rfl (by kernel_rfl) rfl (by simp) (by kernel_rfl) (fun _ h=>h)
     |n+7,h=>exact absurd h (by simp)
    ·intro vs w6 g _;have aa:=aC g;clear g L;simp only[cC,dl,List.setIfInBounds_toArray,List.set_cons_zero,List.set_cons_succ,Nat.zero_add,Nat.reduceAdd]
     go_wp2_with fail
     go_roundw
     case rel=>exact⟨j+1,by omega,by simp;omega,aa.out⟩
     case measure=>simp[intOf];omega
   ·obtain rfl:j=12:=by omega
    have X:=aC o;clear o
    go_wp2_with fail
    refine qD (B:=w.heap.size) (w0:=w) [.ld 7 bs,.ca 20,.ca 23,.st 4 (w.heap.size+1)] [bs,bt,O,w.heap.size+1,w.heap.size] X.out (by kernel_rfl) (by kernel_rfl) ?_ ?_
    ·intro i h a w' K A N
     match i,h with
     |0,_=>exact iI A N 7 bs rfl rfl rfl (by kernel_rfl) rfl (by simp)
     |1,_=>exact cB A N [none,none] rfl rfl rfl rfl (by kernel_rfl) Gc (Ga _ _ (by decide))
     |2,_=>exact cB A N [some 0,some 1] rfl rfl rfl rfl (by kernel_rfl) kI kH
     |3,_=>exact jH A N 4 (w.heap.size+1) 33 2 rfl rfl rfl (by kernel_rfl) rfl (by simp) (by kernel_rfl) (fun _ h=>h)
     |n+4,h=>exact absurd h (by simp)
    ·intro vs w6 g _;simp only[cC,dl,List.setIfInBounds_toArray,List.set_cons_zero,List.set_cons_succ,Nat.zero_add,Nat.reduceAdd];obtain⟨_,p',q',r',ah,hL⟩:=g.2 (w.heap.size+1) (by simp);obtain⟨c0,c1,c2⟩:=nS hL rfl rfl rfl;have HB:=aC g.1.2;clear g hL
     go_wp2_with fail
     refine bodyPost_ret (v:=sv p' q' r') (by simp[results,results54,go_sem,c0,c1,c2]) rfl ?_;exact⟨p',q',r',rfl,ah,HB.out⟩
def Iq (w:World)(b:Nat):Nat:=match w.cell? ⟨b,1,none⟩with
 |some (.int _ q)=>q.toNat
 |_=>0
variable {p q:Int}
theorem aNk {b:Nat}{r:Bool}(h:n.heap[b]?=some (cK p q r)):Iq n b=q.toNat:=by
 unfold Iq;rw[bK (o:=1) h rfl];rfl
theorem aNh {y0 y1:Int}(f:1572864<q)(h:SpOk p q)(a:MP p q (1*1048576/2) (-((-(1*1048576))/2)) y1):(ofS (y0/1048576) (-(-y1/1048576))).2.1<q:=by
 have e:y1<=q*524288:=by
  have b:(1:Int)*1048576/2=524288:=by decide
  have d:-((-(1*1048576:Int))/2)=524288:=by decide
  rw[b,d]at a;have:=h.le
  rcases a with rfl|rfl|rfl|rfl<;>omega
 unfold ofS
 cases decide (y0/1048576 < -1073741824)||decide (1073741824 < -(-y1/1048576))with
 |true=>show(0:Int)<q;omega
 |false=>show -(-y1/1048576)<q;omega
theorem Pk (s:Int):∀d,Alls [SpV,fun v=>v=.int .i64 s] d->∀w,Calls prog 54 d.toArray w (bE w):=cSI fun a b k w h=>aSv a b k s w h
theorem Pz:iF 54:=xE func54 rfl rfl
theorem aKp (n:Int)(w:World):Calls prog 41 #[.int .i64 n] w (bE w):=by
 have PT:=aC (fun w=>Sb n w);have O:=aC (fun x y w=>vA x y w);have MK:=aC (fun a b c d w h h'=>aIj a b c d w h h');have RA:=aC (fun p q w h0 h1 h2 h3=>Sc p q w h0 h1 h2 h3)
 go_enter func41,ntmps41
 go_wp2_with fail
 refine lE (fun W=>SW w.heap.size w [w.heap.size] W) (SW.new ⟨⟨Nat.le_refl _,Below.refl _ _⟩,fun b h=>by cases h⟩ false SpOk.zero) ?_;rintro W J;refine((PT.out _).mono (fun _ _ h=>cM.sp (Int.le_refl _) h)).mono ?_;rintro e w1⟨x0,x1,x2,rfl,hx,P⟩
 go_wp2_with fail
 refine lE (fun V=>SW w.heap.size w [w1.heap.size,w.heap.size] V) ((J.below P).new x2 hx) ?_;have b6:w.heap.size<w1.heap.size:=Nat.lt_of_lt_of_le (J.2 w.heap.size (by simp)).2.lt P.size;clear J;rintro V J;generalize w1.heap.size=f at*;refine((O.out _ _ _).mono (fun _ _ h=>cM.sp (by decide) h)).mono ?_;rintro e w2⟨t0,t1,t2,rfl,ht,R⟩
 go_wp2_with fail
 have a1:=aC ((J.below R).new t2 ht);have a5:f<w2.heap.size:=Nat.lt_of_lt_of_le (J.2 f (by simp)).2.lt R.size;clear J R P hx ht;generalize a2:w2.alloc _=W2 at*;generalize w2.heap.size=bs at*;clear a2
 go_loopw [] (fun wr=>SW w.heap.size w [bs,f,w.heap.size] wr) (fun wr=>Iq wr f)
 case atStart=>exact a1.out
 case round=>
  obtain⟨p,q,r,k,T⟩:=(hrel.2 f (by simp)).2;have g:=(hrel.2 f (by simp)).2;obtain⟨X,Y,aa⟩:=nS T rfl rfl rfl
  by_cases hc:r=true/\1572864<q
  ·obtain⟨rfl,hq⟩:=hc
   go_wp2_with fail
   refine aGa (fun l:World=>l.cell? ⟨f,0,none⟩=some (.int .i64 p)/\l.cell? ⟨f,1,none⟩=some (.int .i64 q)/\l.cell? ⟨f,2,none⟩=some (.bool true)) (fun i=>!(i==3)) (by kernel_rfl) ?_
   have aj:Shut ((fun l:World=>l.cell? ⟨f,0,none⟩=some (.int .i64 p)/\l.cell? ⟨f,1,none⟩=some (.int .i64 q)/\l.cell? ⟨f,2,none⟩=some (.bool true)) wr.drew):=⟨X,Y,aa⟩
   refine Bz (i:=0) (v:=?va0) rfl (by kernel_rfl) (by kernel_rfl) (by kernel_rfl) (by kernel_rfl) (fun _ _ _ h=>h) (Or.inl ⟨by rfl,?ya0⟩) aj.out ?ra0
   case ya0=>
    intro w hSw
    try dsimp only at hSw
    go_simp
    try with_reducible rfl
   try simp only[Act.put,List.setIfInBounds_toArray,List.set_cons_zero,List.set_cons_succ]
   clear aj;refine Ex (i:=1) (by kernel_rfl) rfl (fun K D=>?_)
   go_simp
   refine((RA.out 1 2 _ (by decide) (by decide) (by decide) (by decide))).mono ?_;rintro e v1⟨rfl,am⟩;have C:=qX am;have s:=(C.block _ (eZ T)).trans T;obtain⟨ab,ad,ae⟩:=nS s rfl rfl rfl;clear am
   go_wp2_with fail
   refine D.out _ _ (fun _=>⟨ab,ad,ae⟩) ?_;clear D K
   try simp only[Act.put,List.setIfInBounds_toArray,List.set_cons_zero,List.set_cons_succ]
   refine Ex (i:=2) (by kernel_rfl) rfl (fun K D=>?_)
   go_simp
   refine(MK.out _ _ _ _ _ k ⟨by decide,by decide,by decide⟩).mono ?_;rintro e v2⟨y0,y1,H,a6,ao,rfl,S⟩;have M:=(S.block _ (eZ s)).trans s;obtain⟨af,ag,ah,ay,az,a0⟩:=yM M rfl rfl rfl;have E:=aNh (y0:=y0) hq k ao;have F:=aNS (Gy (c:=1048576) (by decide) H);generalize ofS (y0/1048576) (-(-y1/1048576))=z at*;obtain⟨z0,z1,z2⟩:=z
   go_wp2_with fail
   refine D.out _ _ (fun _=>⟨af,ag,ah⟩) ?_;clear D K
   try simp only[Act.put,List.setIfInBounds_toArray,List.set_cons_zero,List.set_cons_succ]
   refine Ex (i:=3) (by kernel_rfl) rfl (fun K D=>?_)
   go_simp
   refine D.out _ _ (fun h=>absurd h (by decide)) ?_;clear D K;refine aF9 (by kernel_rfl) ?_ _
   obtain⟨U,u⟩:∃U,U=(((v2.setCell ⟨f,0,none⟩ (.int .i64 z0)).setCell ⟨f,1,none⟩ (.int .i64 z1)).setCell ⟨f,2,none⟩ (.bool z2)):=⟨_,rfl⟩
   rw[<-u];have HD:=aC (C.trans (S.mono C.size));have ai:SW w.heap.size w [bs,f,w.heap.size] U:=u▸ (hrel.below HD.out).put (by omega) (g.below HD.out) F;have ak:U.heap[f]?=some (cK z0 z1 z2):=u▸aIs M z0 z1 z2;have HZ:=aC (show(z1:Int)<q from E);have au:=aC (aNk T);clear u HD C S s M F E a6 ao H ab ad ae af ag ah ay az a0 X Y aa T g hrel;have I:=aC ai;have av:=aC ak;clear ai ak
   go_wp2_with fail
   refine qD (B:=bs) (w0:=U) [.ld 4 bs,.ca 20,.ca 23,.st 4 bs] [bs] ⟨⟨Nat.le_of_lt (I.out.2 bs (by simp)).2.lt,Below.refl _ _⟩,fun b hb=>by rw[List.mem_singleton.1 hb];exact⟨Nat.le_refl _,(I.out.2 bs (by simp)).2⟩⟩ (by kernel_rfl) (by kernel_rfl) ?_ ?_
   ·intro i h a l K A N
    match i,h with
    |0,_=>exact iI A N 4 bs rfl rfl rfl (by kernel_rfl) rfl (by simp)
    |1,_=>exact cB A N [none,none] rfl rfl rfl rfl (by kernel_rfl) Gc (Ga _ _ (by decide))
    |2,_=>exact cB A N [some 0,some 1] rfl rfl rfl rfl (by kernel_rfl) kI kH
    |3,_=>exact jH A N 4 bs 21 2 rfl rfl rfl (by kernel_rfl) rfl (by simp) (by kernel_rfl) (fun _ h=>h)
    |n+4,h=>exact absurd h (by simp)
   ·intro vs w5 j _;have o:=aC j;clear j;simp only[cC,dl,List.setIfInBounds_toArray,List.set_cons_zero,List.set_cons_succ]
    go_wp2_with fail
    go_roundw
    case rel=>exact I.out.join o.out (by omega) (by simp;omega)
    case measure=>
     have e:=aNk (((o.out).1.2.block f a5).trans av.out);have:=HZ.out;rw[e,au.out];omega
  ·have a4:r=false\/(r=true/\¬1572864<q):=by
    cases r
    ·exact Or.inl rfl
    ·exact Or.inr ⟨rfl,fun h=>hc ⟨rfl,h⟩⟩
   have HR:=aC hrel;clear hrel hc g k T
   rcases a4 with rfl|⟨rfl,hq⟩
   all_goals
    go_wp2_with fail
    refine qD (B:=w.heap.size) (w0:=w) [.ld 3 f,.ca 20,.ca 23,.ld 3 f,.ca 20,.ca 23,.ca 24,.ca 26,.al,.sn 8] [bs,f,w.heap.size] HR.out (by kernel_rfl) (by kernel_rfl) ?_ ?_
    ·intro i h a l K A N
     match i,h with
     |0,_=>exact iI A N 3 f rfl rfl rfl (by kernel_rfl) rfl (by simp)
     |1,_=>exact cB A N [none,none] rfl rfl rfl rfl (by kernel_rfl) Gc (Ga _ _ (by decide))
     |2,_=>exact cB A N [some 0,some 1] rfl rfl rfl rfl (by kernel_rfl) kI kH
     |3,_=>exact iI A N 3 f rfl rfl rfl (by kernel_rfl) rfl (by simp)
     |4,_=>exact cB A N [none,none] rfl rfl rfl rfl (by kernel_rfl) Gc (Ga _ _ (by decide))
     |5,_=>exact cB A N [some 3,some 4] rfl rfl rfl rfl (by kernel_rfl) kI kH
     |6,_=>exact cB A N [some 5] rfl rfl rfl rfl (by kernel_rfl) pU pQ
     |7,_=>exact cB A N [some 2,some 6] rfl rfl rfl rfl (by kernel_rfl) qM qL
     |8,_=>exact aYb A N rfl rfl rfl
     |9,_=>exact aYc A N 5 8 29 7 rfl rfl rfl rfl (by kernel_rfl) (by kernel_rfl) (fun _ h=>h)
     |n+10,h=>exact absurd h (by simp)
    ·intro vs w5 j hF;obtain⟨bz,hz,a7,ap⟩:∃b,vs 8=.pointer (some ⟨b,0,none⟩)/\w.heap.size<=b/\Loc w5 b:=hF 8 _ _ rfl rfl;have o:=aC (j.add a7 ap);clear j hF ap;simp only[cC,dl,List.setIfInBounds_toArray,List.set_cons_zero,List.set_cons_succ,Nat.zero_add,Nat.reduceAdd,hz]
     go_wp2_with fail
     refine qD (B:=w.heap.size) (w0:=w) [.ld 4 bs,.ca 20,.ld 5 bz,.ca 54,.ca 26,.ca 23,.st 2 w.heap.size] [bz,bs,f,w.heap.size] o.out (by kernel_rfl) (by kernel_rfl) ?_ ?_
     ·intro i h a l K A N
      match i,h with
      |0,_=>exact iI A N 4 bs rfl rfl rfl (by kernel_rfl) rfl (by simp)
      |1,_=>exact cB A N [none,none] rfl rfl rfl rfl (by kernel_rfl) Gc (Ga _ _ (by decide))
      |2,_=>exact iI A N 5 bz rfl rfl rfl (by kernel_rfl) rfl (by simp)
      |3,_=>exact cB A N [some 2,none] rfl rfl rfl rfl (by kernel_rfl) Pz (Pk _)
      |4,_=>exact cB A N [some 1,some 3] rfl rfl rfl rfl (by kernel_rfl) qM qL
      |5,_=>exact cB A N [some 0,some 4] rfl rfl rfl rfl (by kernel_rfl) kI kH
      |6,_=>exact jH A N 2 w.heap.size 35 5 rfl rfl rfl (by kernel_rfl) rfl (by simp) (by kernel_rfl) (fun _ h=>h)
      |n+7,h=>exact absurd h (by simp)
     ·intro vs w6 L _;simp only[cC,dl,List.setIfInBounds_toArray,List.set_cons_zero,List.set_cons_succ,Nat.zero_add,Nat.reduceAdd];obtain⟨_,p',q',r',a3,hL⟩:=L.2 w.heap.size (by simp);obtain⟨c0,c1,c2⟩:=nS hL rfl rfl rfl;have HB:=aC L.1.2;clear L hL
      go_wp2_with fail
      refine bodyPost_ret (v:=sv p' q' r') (by simp[results,results41,go_sem,c0,c1,c2]) rfl ?_;exact⟨p',q',r',rfl,a3,HB.out⟩
def Pe (w:World)(bl:List Nat)(i:Value)(wr:World):Prop:=∃j:Nat,j<=4/\i=.int .i64 j/\SW w.heap.size w bl wr
theorem aGk (n:Int)(w:World):Calls prog 42 #[.int .i64 n] w (bE w):=by
 have PT:=aC (fun w=>Sb n w);have O:=aC (fun x y w=>vA x y w);have RA:=aC (fun p q w h0 h1 h2 h3=>Sc p q w h0 h1 h2 h3)
 go_enter func42,ntmps42
 go_wp2_with fail
 refine lE (fun W=>SW w.heap.size w [w.heap.size] W) (SW.new ⟨⟨Nat.le_refl _,Below.refl _ _⟩,fun b h=>by cases h⟩ false SpOk.zero) ?_;rintro W k;refine((PT.out _).mono (fun _ _ h=>cM.sp (Int.le_refl _) h)).mono ?_;rintro e w1⟨x0,x1,x2,rfl,Y,z⟩
 go_wp2_with fail
 refine lE (fun V=>SW w.heap.size w [w1.heap.size,w.heap.size] V) ((k.below z).new x2 Y) ?_;clear k;rintro V k;generalize w1.heap.size=d at*;refine((O.out _ _ _).mono (fun _ _ h=>cM.sp (by decide) h)).mono ?_;rintro e w2⟨t0,t1,t2,rfl,X,C⟩
 go_wp2_with fail
 refine lE (fun V=>SW w.heap.size w [w2.heap.size,d,w.heap.size] V) ((k.below C).new t2 X) ?_;clear k;rintro V2 k;generalize w2.heap.size=bs at*;refine((RA.out 1 2 _ (by decide) (by decide) (by decide) (by decide)).mono (fun _ _ h=>cM.sp (Gy (by omega) (Int.le_refl _)) h)).mono ?_;rintro e w3⟨y0,y1,y2,rfl,hy,D⟩
 go_wp2_with fail
 have s:=aC ((k.below D).new y2 hy);clear k D C z Y X hy;generalize w3.alloc _=W3 at*;generalize w3.heap.size=l at*
 go_loopw [6] (fun i wr=>Pe w [l,bs,d,w.heap.size] i wr) (fun i _=>4-(intOf i).toNat)
 case atStart=>exact⟨0,by omega,rfl,s.out⟩
 case round=>
  obtain⟨j,hj,rfl,k⟩:=hrel;obtain⟨_,p,q,r,U,T⟩:=k.2 d (by simp);obtain⟨I,J,L⟩:=nS T rfl rfl rfl;have F:=aC k;clear k s T
  by_cases hc:j<4/\r=true/\524288<q
  ·obtain⟨E,rfl,hq⟩:=hc
   have M:(j:Int)<4:=by omega
   go_wp2_with fail
   refine qD (B:=w.heap.size) (w0:=w) [.ld 3 d,.ld 5 l,.ca 25,.ca 23,.ca 20,.ld 3 d,.ld 5 l,.ca 26,.ca 23,.ca 24,.ca 26,.st 3 d] [l,bs,d,w.heap.size] F.out (by kernel_rfl) (by kernel_rfl) ?_ ?_
   ·intro i h a w' K A N
    match i,h with
    |0,_=>exact iI A N 3 d rfl rfl rfl (by kernel_rfl) rfl (by simp)
    |1,_=>exact iI A N 5 l rfl rfl rfl (by kernel_rfl) rfl (by simp)
    |2,_=>exact cB A N [some 1] rfl rfl rfl rfl (by kernel_rfl) Py Pj
    |3,_=>exact cB A N [some 0,some 2] rfl rfl rfl rfl (by kernel_rfl) kI kH
    |4,_=>exact cB A N [none,none] rfl rfl rfl rfl (by kernel_rfl) Gc (Ga _ _ (by decide))
    |5,_=>exact iI A N 3 d rfl rfl rfl (by kernel_rfl) rfl (by simp)
    |6,_=>exact iI A N 5 l rfl rfl rfl (by kernel_rfl) rfl (by simp)
    |7,_=>exact cB A N [some 5,some 6] rfl rfl rfl rfl (by kernel_rfl) qM qL
    |8,_=>exact cB A N [some 4,some 7] rfl rfl rfl rfl (by kernel_rfl) kI kH
    |9,_=>exact cB A N [some 8] rfl rfl rfl rfl (by kernel_rfl) pU pQ
    |10,_=>exact cB A N [some 3,some 9] rfl rfl rfl rfl (by kernel_rfl) qM qL
    |11,_=>exact jH A N 3 d 34 10 rfl rfl rfl (by kernel_rfl) rfl (by simp) (by kernel_rfl) (fun _ h=>h)
    |n+12,h=>exact absurd h (by simp)
   ·intro vs w5 u _;have o:=aC u;clear u F I J L;simp only[cC,dl,List.setIfInBounds_toArray,List.set_cons_zero,List.set_cons_succ,Nat.zero_add,Nat.reduceAdd]
    go_wp2_with fail
    refine qD (B:=w.heap.size) (w0:=w) [.ld 4 bs,.ca 20,.ca 23,.st 4 bs] [l,bs,d,w.heap.size] o.out (by kernel_rfl) (by kernel_rfl) ?_ ?_
    ·intro i h a w' K A N
     match i,h with
     |0,_=>exact iI A N 4 bs rfl rfl rfl (by kernel_rfl) rfl (by simp)
     |1,_=>exact cB A N [none,none] rfl rfl rfl rfl (by kernel_rfl) Gc (Ga _ _ (by decide))
     |2,_=>exact cB A N [some 0,some 1] rfl rfl rfl rfl (by kernel_rfl) kI kH
     |3,_=>exact jH A N 4 bs 37 2 rfl rfl rfl (by kernel_rfl) rfl (by simp) (by kernel_rfl) (fun _ h=>h)
     |n+4,h=>exact absurd h (by simp)
    ·intro vs w6 f _;have H:=aC f;clear f o;simp only[cC,dl,List.setIfInBounds_toArray,List.set_cons_zero,List.set_cons_succ,Nat.zero_add,Nat.reduceAdd]
     go_wp2_with fail
     go_roundw
     case rel=>exact⟨j+1,by omega,by go_num,H.out⟩
     case measure=>simp[intOf];omega
  ·have R:j=4\/(j<4/\r=false)\/(j<4/\r=true/\¬524288<q):=by
    rcases Nat.lt_or_ge j 4 with g|g
    ·cases r
     ·exact Or.inr (Or.inl ⟨g,rfl⟩)
     ·exact Or.inr (Or.inr ⟨g,rfl,fun h=>hc ⟨g,rfl,h⟩⟩)
    ·exact Or.inl (by omega)
   clear hc
   rcases R with rfl|⟨E,rfl⟩|⟨E,rfl,hq⟩
   all_goals
    try have M:(j:Int)<4:=by omega
    go_wp2_with fail
    refine qD (B:=w.heap.size) (w0:=w) [.ld 4 bs,.ld 3 d,.ca 54,.ca 23,.st 2 w.heap.size] [l,bs,d,w.heap.size] F.out (by kernel_rfl) (by kernel_rfl) ?_ ?_
    ·intro i h a w' K A N
     match i,h with
     |0,_=>exact iI A N 4 bs rfl rfl rfl (by kernel_rfl) rfl (by simp)
     |1,_=>exact iI A N 3 d rfl rfl rfl (by kernel_rfl) rfl (by simp)
     |2,_=>exact cB A N [some 1,none] rfl rfl rfl rfl (by kernel_rfl) Pz (Pk _)
     |3,_=>exact cB A N [some 0,some 2] rfl rfl rfl rfl (by kernel_rfl) kI kH
     |4,_=>exact jH A N 2 w.heap.size 41 3 rfl rfl rfl (by kernel_rfl) rfl (by simp) (by kernel_rfl) (fun _ h=>h)
     |n+5,h=>exact absurd h (by simp)
    ·intro vs w6 f _;simp only[cC,dl,List.setIfInBounds_toArray,List.set_cons_zero,List.set_cons_succ,Nat.zero_add,Nat.reduceAdd];obtain⟨_,p',q',r',P,S⟩:=f.2 w.heap.size (by simp);obtain⟨c0,c1,c2⟩:=nS S rfl rfl rfl;have HB:=aC f.1.2;clear f S
     go_wp2_with fail
     refine bodyPost_ret (v:=sv p' q' r') (by simp[results,results42,go_sem,c0,c1,c2]) rfl ?_;exact⟨p',q',r',rfl,P,HB.out⟩
theorem aPw (a b:Int)(k:Bool)(w:World)(h:SpOk a b):Calls prog 29 #[sv a b k] w (bE w):=by
 have T:=aC (aNV w a b k);have F:=h.le;have z:iF 41:=xE func41 rfl rfl
 by_cases hc:k=true/\¬a<0
 case pos=>
  obtain⟨rfl,p1⟩:=hc
  go_enter func29,ntmps29
  go_wp2_with fail
  refine qD (B:=w.heap.size+1) (w0:=xT w a b true) [.mv (.pointer (some ⟨w.heap.size,0,none⟩)),.mv (.int .i64 a),.mv (.int .i64 (IntKind.i64.wrap (a+1048576))),.ca 41,.mv (.pointer (some ⟨w.heap.size,1,none⟩)),.mv (.int .i64 b),.mv (.int .i64 (IntKind.i64.wrap (b+1048576))),.ca 41,.ca 39,.st 2 (w.heap.size+1)] [w.heap.size+1] T.out.s (by kernel_rfl) (by kernel_rfl) ?_ ?_
  ·intro i hi M Y K A N
   match i,hi with
   |0,_=>exact Iw A N 1 rfl rfl (by kernel_rfl) rfl rfl
   |1,_=>exact xQ A N 0 rfl rfl rfl (by kernel_rfl) rfl (by omega) T.out.x0
   |2,_=>exact Ql A N 1 rfl rfl rfl (by kernel_rfl) rfl
   |3,_=>exact cB A N [some 2] rfl rfl rfl rfl (by kernel_rfl) z (cI fun w=>aKp _ w)
   |4,_=>exact Ix A N 1 rfl rfl (by kernel_rfl) rfl rfl
   |5,_=>exact xQ A N 4 rfl rfl rfl (by kernel_rfl) rfl (by omega) T.out.x1
   |6,_=>exact Ql A N 5 rfl rfl rfl (by kernel_rfl) rfl
   |7,_=>exact cB A N [some 6] rfl rfl rfl rfl (by kernel_rfl) z (cI fun w=>aKp _ w)
   |8,_=>exact cB A N [some 3,some 7] rfl rfl rfl rfl (by kernel_rfl) zR zN
   |9,_=>exact jH A N 2 (w.heap.size+1) 20 8 rfl rfl rfl (by kernel_rfl) rfl (by simp) (by kernel_rfl) (fun _ h=>h)
   |n+10,hi=>exact absurd hi (by simp)
  ·intro X w6 f _;simp only[cC,dl,List.setIfInBounds_toArray,List.set_cons_zero,List.set_cons_succ,Nat.zero_add,Nat.reduceAdd];obtain⟨_,q,u,y,o,C⟩:=f.2 (w.heap.size+1) (by simp);obtain⟨c0,c1,c2⟩:=nS C rfl rfl rfl;have E:=aC (T.out.be.trans (f.1.2.mono (by omega)));clear f C
   go_wp2_with fail
   refine bodyPost_ret (v:=sv q u y) (by simp[results,results29,go_sem,c0,c1,c2]) rfl ?_;exact⟨q,u,y,rfl,o,E.out⟩
 case neg=>
  have p:k=false\/(k=true/\a<0):=by
   cases k
   ·exact Or.inl rfl
   ·exact Or.inr ⟨rfl,by
     rcases Int.lt_or_le a 0 with x|x
     ·exact x
     ·exact absurd ⟨rfl,by omega⟩ hc⟩
  clear hc h
  rcases p with rfl|⟨rfl,p1⟩
  all_goals
   go_enter func29,ntmps29
   go_wp2_with fail
   refine(Bx _).mono ?_;rintro e w2⟨rfl,D⟩;have d:=T.out.s.below D;obtain⟨H,q,u,y,g,j⟩:=d.2 (w.heap.size+1) (by simp);obtain⟨S,U,W,O,P,R⟩:=yM j rfl rfl rfl;have Q:=aC (oM j 0 0 false);have l:=aC (T.out.be.trans (((d.put (r:=false) H ⟨_,_,_,g,j⟩ SpOk.zero).1.2).mono (by omega)));clear j D d
   go_wp2_with fail
   obtain⟨I,J,L⟩:=Q.out;refine bodyPost_ret (v:=sv 0 0 false) (by simp[results,results29,go_sem,I,J,L]) rfl ?_;exact⟨0,0,false,rfl,SpOk.zero,l.out⟩
theorem aOZ (a b:Int)(k:Bool)(w:World)(h:SpOk a b):Calls prog 30 #[sv a b k] w (bE w):=by
 have T:=aC (aNV w a b k);have F:=h.le;have z:iF 42:=xE func42 rfl rfl
 by_cases hc:k=true/\¬a<0
 case pos=>
  obtain⟨rfl,p1⟩:=hc
  go_enter func30,ntmps30
  go_wp2_with fail
  refine qD (B:=w.heap.size+1) (w0:=xT w a b true) [.mv (.pointer (some ⟨w.heap.size,0,none⟩)),.mv (.int .i64 a),.ca 42,.mv (.pointer (some ⟨w.heap.size,1,none⟩)),.mv (.int .i64 b),.ca 42,.ca 39,.st 2 (w.heap.size+1)] [w.heap.size+1] T.out.s (by kernel_rfl) (by kernel_rfl) ?_ ?_
  ·intro i hi M Y K A N
   match i,hi with
   |0,_=>exact Iw A N 1 rfl rfl (by kernel_rfl) rfl rfl
   |1,_=>exact xQ A N 0 rfl rfl rfl (by kernel_rfl) rfl (by omega) T.out.x0
   |2,_=>exact cB A N [some 1] rfl rfl rfl rfl (by kernel_rfl) z (cI fun w=>aGk _ w)
   |3,_=>exact Ix A N 1 rfl rfl (by kernel_rfl) rfl rfl
   |4,_=>exact xQ A N 3 rfl rfl rfl (by kernel_rfl) rfl (by omega) T.out.x1
   |5,_=>exact cB A N [some 4] rfl rfl rfl rfl (by kernel_rfl) z (cI fun w=>aGk _ w)
   |6,_=>exact cB A N [some 2,some 5] rfl rfl rfl rfl (by kernel_rfl) zR zN
   |7,_=>exact jH A N 2 (w.heap.size+1) 18 6 rfl rfl rfl (by kernel_rfl) rfl (by simp) (by kernel_rfl) (fun _ h=>h)
   |n+8,hi=>exact absurd hi (by simp)
  ·intro X w6 f _;simp only[cC,dl,List.setIfInBounds_toArray,List.set_cons_zero,List.set_cons_succ,Nat.zero_add,Nat.reduceAdd];obtain⟨_,q,u,y,o,C⟩:=f.2 (w.heap.size+1) (by simp);obtain⟨c0,c1,c2⟩:=nS C rfl rfl rfl;have E:=aC (T.out.be.trans (f.1.2.mono (by omega)));clear f C
   go_wp2_with fail
   refine bodyPost_ret (v:=sv q u y) (by simp[results,results30,go_sem,c0,c1,c2]) rfl ?_;exact⟨q,u,y,rfl,o,E.out⟩
 case neg=>
  have p:k=false\/(k=true/\a<0):=by
   cases k
   ·exact Or.inl rfl
   ·exact Or.inr ⟨rfl,by
     rcases Int.lt_or_le a 0 with x|x
     ·exact x
     ·exact absurd ⟨rfl,by omega⟩ hc⟩
  clear hc h
  rcases p with rfl|⟨rfl,p1⟩
  all_goals
   go_enter func30,ntmps30
   go_wp2_with fail
   refine(Bx _).mono ?_;rintro e w2⟨rfl,D⟩;have d:=T.out.s.below D;obtain⟨H,q,u,y,g,j⟩:=d.2 (w.heap.size+1) (by simp);obtain⟨S,U,W,O,P,R⟩:=yM j rfl rfl rfl;have Q:=aC (oM j 0 0 false);have l:=aC (T.out.be.trans (((d.put (r:=false) H ⟨_,_,_,g,j⟩ SpOk.zero).1.2).mono (by omega)));clear j D d
   go_wp2_with fail
   obtain⟨I,J,L⟩:=Q.out;refine bodyPost_ret (v:=sv 0 0 false) (by simp[results,results30,go_sem,I,J,L]) rfl ?_;exact⟨0,0,false,rfl,SpOk.zero,l.out⟩
def SpF (f:FuncId):Prop:=∀a b k w,SpOk a b->Calls prog f #[sv a b k] w (bE w)
def Cn (i:Nat):List UInt8:=if i=0 then [45]else if i=1 then [115,113,114,116]else if i=2 then [101,120,112]else if i=3 then [108,110,49,112]else [97,116,97,110]
theorem aL2 (xp:Value)(t:ByteArray)(lt:List UInt8)(a b:Int)(k:Bool)(n:Int)(w:World)(h0:-9223372036854775808<=n)(h1:n<=9223372036854775807)(D:eC t lt)(ad:lt.length<=1000)(h:SpOk a b):
  Calls prog 15 #[Al xp t a b k,.int .i64 n] w fun e w'=>∃i,i<5/\kL w (Cn i++40::(lt++[41])) e w':=by
 have C:=tJ n 5 (by decide)
 have hc:pickI n 5=0\/pickI n 5=1\/pickI n 5=2\/pickI n 5=3\/pickI n 5=4:=by omega
 have A:=aC (fun w=>pB n 5 w h0 h1 (by decide) (by decide));obtain⟨y1,ag,y⟩:=yC (eC.mk' [40]) D (by simp;omega);obtain⟨y2,ah,d⟩:=yC y (eC.mk' [41]) (by simp;omega);obtain⟨E,a0,L⟩:=yC (eC.mk' [45]) d (by simp;omega);obtain⟨F,a1,M⟩:=yC (eC.mk' [115,113,114,116]) d (by simp;omega);obtain⟨H,a2,N⟩:=yC (eC.mk' [101,120,112]) d (by simp;omega);obtain⟨I,a3,O⟩:=yC (eC.mk' [108,110,49,112]) d (by simp;omega);obtain⟨J,a4,P⟩:=yC (eC.mk' [97,116,97,110]) d (by simp;omega);have T:=aC (And.intro L (And.intro M (And.intro N (And.intro O P))))
 have R:Hid (SpF 25):=fun a b k w h=>(Nz a b k w h).mono fun _ _ x=>⟨_,_,_,x.1,h.neg,x.2⟩
 have S:Hid (SpF 27):=aP5;have U:Hid (SpF 28):=aR2;have X:Hid (SpF 29):=aPw;have Y:Hid (SpF 30):=aOZ;clear y d L M N O P D
 rcases hc with hn|hn|hn|hn|hn
 all_goals
  rw[hn]at A
  go_enter func15,ntmps15
  go_wp2_with fail
  refine(A.out _).mono ?_;rintro e w1⟨rfl,rfl⟩
  go_wp2_with fail
  refine lE (tH 1 w) Ll ?_;rintro W⟨l,j⟩;refine(show Calls _ _ _ W (bE W)from by first|exact R.out _ _ _ _ h|exact S.out _ _ _ _ h|exact U.out _ _ _ _ h|exact X.out _ _ _ _ h|exact Y.out _ _ _ _ h).mono ?_;rintro e w2⟨p,q,r,rfl,z,B⟩;obtain⟨r0,r1,r2,g0,g1,g2,Q,f⟩:=iU l j B (by omega) p q r;have g:=aC z;clear B l j
  go_wp2_with fail
  obtain⟨o,s,u⟩:=Q.out
 ·exact bodyPost_ret (v:=.tuple #[.string E,sv p q r]) (by simp[results,results15,go_sem,o,s,u]) rfl ⟨0,by decide,E,_,_,_,rfl,T.out.1.to (by simp[Cn]),g.out,f.out⟩
 ·exact bodyPost_ret (v:=.tuple #[.string F,sv p q r]) (by simp[results,results15,go_sem,o,s,u]) rfl ⟨1,by decide,F,_,_,_,rfl,T.out.2.1.to (by simp[Cn]),g.out,f.out⟩
 ·exact bodyPost_ret (v:=.tuple #[.string H,sv p q r]) (by simp[results,results15,go_sem,o,s,u]) rfl ⟨2,by decide,H,_,_,_,rfl,T.out.2.2.1.to (by simp[Cn]),g.out,f.out⟩
 ·exact bodyPost_ret (v:=.tuple #[.string I,sv p q r]) (by simp[results,results15,go_sem,o,s,u]) rfl ⟨3,by decide,I,_,_,_,rfl,T.out.2.2.2.1.to (by simp[Cn]),g.out,f.out⟩
 ·exact bodyPost_ret (v:=.tuple #[.string J,sv p q r]) (by simp[results,results15,go_sem,o,s,u]) rfl ⟨4,by decide,J,_,_,_,rfl,T.out.2.2.2.2.to (by simp[Cn]),g.out,f.out⟩
def Wr (l:List UInt8):Prop:=∃c,Rd.Good c/\Rd.toks l=Rd.tw c
open Rd in
theorem aVL {v:Int}(hv:cU v):Wr (dec v):=⟨dI 1 v [],⟨rfl,rfl,Or.inl ⟨rfl,hv,rfl,rfl,rfl⟩⟩,Ha hv⟩
open Rd in
theorem aQD (a:cU p)(b:cU q):Wr (dec p++47::dec q):=by
 refine⟨jI 9 (dI 1 p []) (dI 1 q []),⟨rfl,rfl,Or.inr (Or.inr (Or.inr (Or.inr (Or.inr (Or.inr ⟨Or.inr (Or.inr (Or.inr rfl)),rfl,⟨rfl,rfl,Or.inl ⟨rfl,a,rfl,rfl,rfl⟩⟩,⟨rfl,rfl,Or.inl ⟨rfl,b,rfl,rfl,rfl⟩⟩,?_,?_⟩)))))⟩,?_⟩
 ·show(2:Int)<=4;decide
 ·show(2:Int)+1<=4;decide
 ·rw[uX (by decide),Ha a,wU (by decide) (by decide),Ha b];rfl
variable {A:List UInt8}
open Rd in
theorem aQC (h:ConstTxt A):Wr A:=by
 rcases h with rfl|rfl|⟨x,y,z,d,a,e,b,f,rfl⟩
 ·exact⟨dI 2 0 [],⟨rfl,rfl,Or.inr (Or.inl ⟨Or.inl rfl,rfl,rfl,rfl⟩)⟩,rfl⟩
 ·exact⟨dI 3 0 [],⟨rfl,rfl,Or.inr (Or.inl ⟨Or.inr rfl,rfl,rfl,rfl⟩)⟩,rfl⟩
 ·have hc:Co [(x:Int),y,z]:=by
   refine⟨x,[(y:Int),z],rfl,⟨by omega,by omega⟩,?_,by simp,by simp⟩;intro v hv;simp at hv
   rcases hv with rfl|rfl
   ·exact⟨⟨by omega,by omega⟩,by omega⟩
   ·exact⟨⟨by omega,by omega⟩,by omega⟩
  exact⟨dI 4 0 [(x:Int),y,z],⟨rfl,rfl,Or.inr (Or.inr (Or.inl ⟨rfl,rfl,hc,rfl,rfl⟩))⟩,aOE hc⟩
open Rd in
theorem Hf {c:Tr}(h:Rd.Good c):Rd.Good (eY 14 c):=Md (b:=true) h
open Rd in
theorem Zc {c:Tr}(h:toks A=tw c)(r:List UInt8):toks (40::(A++41::r))=tw (eY 14 c)++toks r:=by
 rw[wU (by decide) (by decide),uX (by decide),h,wU (by decide) (by decide),Ux];simp
open Rd in
theorem aVM {lt f:List UInt8}{s:UInt8}(p:s=43\/s=45\/s=42\/s=47)(h:Wr lt)(n:Wr f):Wr (40::(lt++[41,32,s,32,40]++f++[41])):=by
 obtain⟨c,hc,q⟩:=h;obtain⟨d,o,r⟩:=n
 have b:∃k:Int,(k=6\/k=7\/k=8\/k=9)/\sym k=[s]/\an s=false/\(s==32)=false/\aP k<=4/\aP k+1<=4:=by
  rcases p with rfl|rfl|rfl|rfl
  ·exact⟨6,by decide,rfl,by decide,by decide,by decide,by decide⟩
  ·exact⟨7,by decide,rfl,by decide,by decide,by decide,by decide⟩
  ·exact⟨8,by decide,rfl,by decide,by decide,by decide,by decide⟩
  ·exact⟨9,by decide,rfl,by decide,by decide,by decide,by decide⟩
 obtain⟨k,b,a,i,g,j,l⟩:=b;refine⟨jI k (eY 14 c) (eY 14 d),⟨rfl,rfl,Or.inr (Or.inr (Or.inr (Or.inr (Or.inr (Or.inr ⟨b,rfl,Hf hc,Hf o,j,l⟩)))))⟩,?_⟩
 have e:40::(lt++[41,32,s,32,40]++f++[41])=40::(lt++41::(32::(s::(32::(40::(f++41::[])))))):=by simp
 rw[e,Zc q,Jz,wU i g,Jz,Zc r,Pd b,a,Kb];simp
open Rd in
theorem aOS {lt:List UInt8}{i:Nat}(hi:i<5)(h:Wr lt):Wr (Cn i++40::(lt++[41])):=by
 obtain⟨c,hc,d⟩:=h;have a:=Zc d [];rw[Kb,List.append_nil]at a
 have b:i=0\/i=1\/i=2\/i=3\/i=4:=by omega
 rcases b with rfl|rfl|rfl|rfl|rfl
 ·refine⟨eY 5 (eY 14 c),⟨rfl,rfl,Or.inr (Or.inr (Or.inr (Or.inl ⟨rfl,rfl,Hf hc,by show(3:Int)<=4;decide,rfl⟩)))⟩,?_⟩;show toks (45::(40::(lt++[41])))=_;rw[wU (by decide) (by decide),a];rfl
 ·refine⟨eY 10 (eY 14 c),⟨rfl,rfl,Or.inr (Or.inr (Or.inr (Or.inr (Or.inl ⟨Or.inl rfl,rfl,Hf hc,rfl,rfl⟩))))⟩,?_⟩;show toks ([115,113,114,116]++40::(lt++[41]))=_;rw[uX (by decide),a];rfl
 ·refine⟨eY 11 (eY 14 c),⟨rfl,rfl,Or.inr (Or.inr (Or.inr (Or.inr (Or.inl ⟨Or.inr (Or.inl rfl),rfl,Hf hc,rfl,rfl⟩))))⟩,?_⟩;show toks ([101,120,112]++40::(lt++[41]))=_;rw[uX (by decide),a];rfl
 ·refine⟨eY 12 (eY 14 c),⟨rfl,rfl,Or.inr (Or.inr (Or.inr (Or.inr (Or.inl ⟨Or.inr (Or.inr (Or.inl rfl)),rfl,Hf hc,rfl,rfl⟩))))⟩,?_⟩;show toks ([108,110,49,112]++40::(lt++[41]))=_;rw[uX (by decide),a];rfl
 ·refine⟨eY 13 (eY 14 c),⟨rfl,rfl,Or.inr (Or.inr (Or.inr (Or.inr (Or.inl ⟨Or.inr (Or.inr (Or.inr rfl)),rfl,Hf hc,rfl,rfl⟩))))⟩,?_⟩;show toks ([97,116,97,110]++40::(lt++[41]))=_;rw[uX (by decide),a];rfl
end Go.Proofs.YtkmojpfpfoaloaaGreatDoor
