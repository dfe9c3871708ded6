import Derived.Test.YtkmojpfpfoaloaaGreatDoorCNe17
import Derived.Test.YtkmojpfpfoaloaaGreatDoorCNe16
import Derived.Test.YtkmojpfpfoaloaaGreatDoorProg
import Derived.Laws.IdiomStrings
import Derived.Shelf.LaysM
import Derived.Shelf.Strconv.Itoa3
import Derived.Lib.AppendIntMem
import Derived.BigQuiet
set_option linter.all false
set_option maxRecDepth 100000
set_option maxHeartbeats 2000000
namespace Go.Proofs.YtkmojpfpfoaloaaGreatDoor
open Go.Proofs.Tryz
open Go.RowKit
open Ab
open Rf (Wt fC readK symsT)
variable {n:World}{k:Nat}
theorem aOw {O:Wt}{c:Nat}{h D g:World}{r p d:Nat}{own:Nat->Option Own}{ns:List Rf.Nd}{a:Rf.Nd}(c1:Chg n h [])(c2:Chg h D [])(P:Run O c D h.heap.size r p own ⟨ns,c⟩ d 0)(A:Rf.of O []=some (ns,d))(S:ns[d]?=some a)(c3:Chg (D.alloc (.cells #[] 55)) g []):
  (a.pos=false->oP O c n h.heap.size r p d k (symsT O k c) (.slice (some ⟨D.heap.size,0,none⟩) 0 0) g)/\
  (a.pos=true->∃s F,(Builtin.append_ #[51,51] 51 #[.slice (some ⟨D.heap.size,0,none⟩) 0 0,.slice (some ⟨g.heap.size,0,none⟩) 1 1]).run prog (g.alloc (.cells #[.int .i64 1] 55))=.ok s F/\oP O c n h.heap.size r p d k (symsT O k c) s F):=by
 have i:=c1.trans c2;have ca:Chg D (D.alloc (.cells #[] 55)) []:=Chg.alloc _ _;have q:Chg n g []:=(i.trans ca).trans c3;have f:RowOf g 55 (([]:List Int).map fM) (.slice (some ⟨D.heap.size,0,none⟩) 0 0) (some D.heap.size):=Or.inr ⟨D.heap.size,0,[],rfl,rfl,c3.at (jC _ _) (by simp),Nat.le_refl _,Nat.le_refl _⟩;obtain⟨e,v,T,z⟩:=P.cut;have l:Run O c g h.heap.size r p e ⟨ns,c⟩ d 0:=(v.still ca).still c3
 have E:∀b,some D.heap.size=some b->e b=none/\n.heap.size<=b:=by
  intro b R;cases R;exact⟨z _ (Nat.le_refl _),i.on.size⟩
 have C:symsT O k c=if a.pos=true then(readK (fC O) k ⟨ns,c⟩ d 0).map (43::·)else readK (fC O) (k+1) ⟨ns,c⟩ d 0:=by
  unfold symsT;rw[A,Option.bind_some,S,Option.bind_some]
 constructor
 ·intro B;refine⟨[],some D.heap.size,e,⟨ns,c⟩,0,f,l,Nat.zero_le _,Nat.le_refl _,E,q.on,fun j y=>q.low j y (by simp),?_⟩;rw[C,if_neg (by rw[B];decide)];simp
 ·intro B;obtain⟨s,U,b,o,a1,H,I,J,L,M,N⟩:=aKY l f E q.on (fun j y=>q.low j y (by simp)) (Nat.zero_le _) 43;refine⟨s,U,a1,[43],some b,o,⟨ns,c⟩,0,H,I,by simp,Nat.zero_le _,fun W x=>by cases x;exact⟨J,L⟩,M,N,?_⟩;rw[C,if_pos B];simp
theorem aII (w:World)(xb:Nat)(T:Rd.Tr)(u:Wt)(k c:Nat)(hx:ExAt w xb T)(hu:planT T=some u)(hk:k<=60)(hc:c<=3000):Calls prog 16 #[.pointer (some ⟨xb,0,none⟩),.int .i64 (k:Int),.int .i64 (c:Int)] w (Et w (symsT u k c)):=by
 have BG:=hid (aJ5 w xb T k c hx (by omega) (by omega) (by omega) (by omega));have OK:=hid (hx.ok hu);have HU:=hid hu;clear hx hu
 go_enter func16,ntmps16
 go_wp2_with fail
 refine(BG.out).mono ?_;rintro e w1 hT;rw[HU.out]at hT;obtain⟨F,v,rfl,hp⟩:=hT;obtain⟨pb,rfl⟩:=aM.ptr u v hp;have C1:=hid F;have HP:=hid hp;have M:=hid F.on.size;clear F hp;unfold aA
 go_wp2_with fail
 refine(aSp OK.out HP.out hc).mono ?_;rintro e w2⟨ns,d,own,nb,fb,n,S,hn,rfl,P,hR⟩;have C2:=hid P;have L:=hid hR;have X:=hid S;have HN:=hid hn;clear S hn P hR;unfold aA
 go_wp2_with fail
 refine(aP3 (L.out.still (Chg.alloc _ _)) HN.out).mono ?_;rintro e w3⟨rfl,R⟩;obtain⟨D,E⟩:=aOw (k:=k) C1.out C2.out L.out X.out HN.out R;clear R;cases B:n.pos
 ·have C:=hid (D B);clear D E
  go_wp2_with fail
  go_loopw [11] (fun l wr=>oP u c w w1.heap.size nb fb d k (symsT u k c) l wr) (fun l _=>k+1-lenOf l)
  case atStart=>exact C.out
  case round=>
   obtain⟨x,g,U,s,r,a,i,hz,hr,I,j,f,b⟩:=hrel;obtain⟨ao,cp,rfl⟩:=Vc a
   by_cases ae:x.length<=k
   ·have H:(x.length:Int)<=k:=by omega
    have Y:=hid i;have NX:=hid (fun e y p=>SymRel.next (e:=e) (w5:=y) M.out i a I j f b (m:=k-x.length) (by omega) hk hr p);clear i a I j f b
    go_wp2_with fail
    refine(aKx hc Y.out (by omega)).mono ?_;rintro e y p
    rcases NX.out e y p with⟨rfl,N,O⟩|⟨z,rfl,v',w6,A,h⟩
    ·have o:=hid N;have HC:=hid O;clear N O p
     go_wp2_with fail
     refine bodyPost_ret (v:=.tuple #[.slice none 0 0,.int .i64 6]) (by simp[results,results16,go_sem]) rfl ?_;rw[o.out];exact⟨HC.out,rfl⟩
    ·have ad:¬code z=0:=by have:=(Yz z).1;omega
     have J:=hid h;have o:=hid A;clear h A p
     go_wp2_with (at_builtin;refine Xp rfl _ _ 51 rfl _ _ rfl rfl v' w6 o.out ?_)
     go_roundw
     case rel=>exact J.out.1
     case measure=>exact J.out.2
   ·have H:¬(x.length:Int)<=k:=by omega
    have o:=hid (SymRel.end a hz (by omega) j f b);clear i a I j f b
    go_wp2_with fail
    refine bodyPost_ret (v:=.tuple #[.slice ao x.length cp,.int .i64 0]) (by simp[results,results16,go_sem]) rfl ?_;exact o.out
 ·obtain⟨v1,w4,A,q⟩:=E B;have C:=hid q;have W:=hid A;clear D E q A
  go_wp2_with (at_builtin;refine Xp rfl _ _ 51 rfl _ _ rfl rfl v1 w4 W.out ?_)
  go_loopw [11] (fun l wr=>oP u c w w1.heap.size nb fb d k (symsT u k c) l wr) (fun l _=>k+1-lenOf l)
  case atStart=>exact C.out
  case round=>
   obtain⟨x,g,U,s,r,a,i,hz,hr,I,j,f,b⟩:=hrel;obtain⟨ao,cp,rfl⟩:=Vc a
   by_cases ae:x.length<=k
   ·have H:(x.length:Int)<=k:=by omega
    have Y:=hid i;have NX:=hid (fun e y p=>SymRel.next (e:=e) (w5:=y) M.out i a I j f b (m:=k-x.length) (by omega) hk hr p);clear i a I j f b
    go_wp2_with fail
    refine(aKx hc Y.out (by omega)).mono ?_;rintro e y p
    rcases NX.out e y p with⟨rfl,N,O⟩|⟨z,rfl,v',w6,A,h⟩
    ·have o:=hid N;have HC:=hid O;clear N O p
     go_wp2_with fail
     refine bodyPost_ret (v:=.tuple #[.slice none 0 0,.int .i64 6]) (by simp[results,results16,go_sem]) rfl ?_;rw[o.out];exact⟨HC.out,rfl⟩
    ·have ad:¬code z=0:=by have:=(Yz z).1;omega
     have J:=hid h;have o:=hid A;clear h A p
     go_wp2_with (at_builtin;refine Xp rfl _ _ 51 rfl _ _ rfl rfl v' w6 o.out ?_)
     go_roundw
     case rel=>exact J.out.1
     case measure=>exact J.out.2
   ·have H:¬(x.length:Int)<=k:=by omega
    have o:=hid (SymRel.end a hz (by omega) j f b);clear i a I j f b
    go_wp2_with fail
    refine bodyPost_ret (v:=.tuple #[.slice ao x.length cp,.int .i64 0]) (by simp[results,results16,go_sem]) rfl ?_;exact o.out
theorem aIH (w:World)(b:Nat)(T:Rd.Tr)(k c:Nat)(g:ExAt w b T)(f:planT T=none)(n:k<=60)(hc:c<=3000):Calls prog 16 #[.pointer (some ⟨b,0,none⟩),.int .i64 (k:Int),.int .i64 (c:Int)] w fun e l=>e=.returned (.tuple #[.slice none 0 0,.int .i64 5])/\Chg w l []:=by
 have h:=hid (aJ5 w b T k c g (by omega) (by omega) (by omega) (by omega));have j:=hid f;clear g f
 go_enter func16,ntmps16
 go_wp2_with fail
 refine(h.out).mono ?_;rintro e o d;rw[j.out]at d;obtain⟨a,rfl⟩:=d;have i:=hid a;clear a
 go_wp2_with fail
 refine bodyPost_ret (v:=.tuple #[.slice none 0 0,.int .i64 5]) (by simp[results,results16,go_sem]) rfl ?_;exact⟨rfl,i.out⟩
def Ja (c:Int):UInt8:=if c=1 then 43 else if c=2 then 45 else if c=3 then 111 else if c=4 then 119 else if c=5 then 45 else if c=6 then 48 else 43
def uN (z:Int):UInt8:=Ja (code z)
def sG (b:UInt8):Value:=.int .u8 (b.toNat:Int)
theorem aLF (c:Int)(w:World)(a:1<=c)(b:c<=7):Calls prog 17 #[.int .i64 c] w fun e d=>e=.returned (sG (Ja c))/\w=d:=by
 have h:c=1\/c=2\/c=3\/c=4\/c=5\/c=6\/c=7:=by omega
 clear a b
 rcases h with rfl|rfl|rfl|rfl|rfl|rfl|rfl
 all_goals
  go_enter func17,ntmps17
  go_wp2_with fail
  go_ret
  exact⟨rfl,rfl⟩
theorem Ir:(prog.info? 5).map (fun i=>(i.zero,i.size,i.bytes))=some (some (.int .u8 0),1,1):=by kernel_rfl
def Wu (w:World)(a:Option (List Int))(e:Ending)(b:World):Prop:=Chg w b []/\match a with
 |none=>e=.returned (.tuple #[.string ⟨#[]⟩,.int .i64 6])
 |some d=>e=.returned (.tuple #[.string ⟨(d.map uN).toArray⟩,.int .i64 0])
def Ht (w:World)(a:List Int)(tx i:Value)(wr:World):Prop:=
 ∃n:Nat,n<=a.length/\i=.int .i64 n/\wr.ownsRow w.heap.size 5 1 tx n ((a.take n).map (fun z=>sG (uN z)))/\Below w.heap.size w wr
variable {w:Nat}
theorem aP2 {s:List Int}{z:Value}{M:Option Nat}(h:RowOf n 55 (s.map fM) z M)(f:w<s.length):∃b a,z=.slice (some ⟨b,0,none⟩) s.length a/\b<n.heap.size/\n.cell? ⟨b,w,none⟩=some (.int .i64 (code s[w])):=by
 rcases h with⟨_,d,_⟩|⟨b,a,i,_,d,e,_⟩
 ·have:s=[]:=by simpa using d
  subst this;simp at f
 ·refine⟨b,a,by simpa using d,gU e,bK e ?_⟩;simp[List.getElem?_append_left,f,fM]
variable {l:List UInt8}
theorem aSB {z:Value}(h:n.ownsRow w 5 1 z k (l.map sG))(i:k=l.length)(o:0<k):(convert 54 9 z).run prog n=.ok (.string ⟨l.toArray⟩) n:=by
 have d:=h
 rcases h.2 with⟨_,e⟩|⟨g,a,b,rfl,p⟩
 ·omega
 ·subst i
  refine run_convert_bytes_back (P:=prog) n 54 9 5 ⟨g,0,none⟩ a l underlying54 underlying5 underlying9 fun j f=>?_
  refine d.cells (g:=g) rfl j _ ?_;simp[f,sG]
theorem Mn (w:World)(P:Nat)(T:Rd.Tr)(u:Wt)(k c:Nat)(X:ExAt w P T)(C:planT T=some u)(hk:k<=60)(hc:c<=3000):Calls prog 8 #[.pointer (some ⟨P,0,none⟩),.int .i64 (k:Int),.int .i64 (c:Int)] w (Wu w (symsT u k c)):=by
 have SY:=hid (aII w P T u k c X C hk hc);have D:=hid (fun j (h:symsT u k c=some j)=>Rf.aIJ h);clear X C;generalize symsT u k c=F at*
 go_enter func8,ntmps8
 go_wp2_with fail
 refine(SY.out).mono ?_;rintro e O⟨x,h⟩;have R:=hid x;clear x
 cases F with
 |none=>
  simp only at h;subst h
  go_wp2_with fail
  refine bodyPost_ret (v:=.tuple #[.string ⟨#[]⟩,.int .i64 6]) (by simp[results,results8,go_sem]) rfl ?_;exact⟨R.out,rfl⟩
 |some j=>
  simp only at h;obtain⟨l,g,rfl,q⟩:=h;have U:=D.out j rfl;obtain⟨i,hi,hz,s,L⟩:=info_parts Ir;obtain⟨ao,cp,rfl⟩:=Vc q;have E:=hid (fun n (W:n<j.length)=>aP2 q W);clear q
  go_wp2_with fail
  go_loopw [10,11] (fun tx i wr=>Ht O j tx i wr) (fun _ i _=>j.length-(intOf i).toNat)
  case atStart=>
   refine⟨0,Nat.zero_le _,rfl,⟨rfl,Or.inr ⟨O.heap.size,0,#[],rfl,Nat.le_refl _,jC _ _,Nat.le_refl _,by decide,rfl,rfl⟩⟩,(Below.refl _ _).alloc (Nat.le_refl _) _⟩
  case round=>
   obtain⟨n,W,rfl,a,d⟩:=hrel;have ah:=d.size
   by_cases A:n<j.length
   ·have ai:(n:Int)<j.length:=by omega
    obtain⟨b,af,hl,J,o⟩:=E.out n A;cases hl;have dt:=(d.cell J).trans o;have TK:=hid (aIL A);have y:=Yz j[n];obtain⟨H,N,I,rfl⟩:=Oe a;clear o;generalize j[n]=z at*
    go_wp2_with fail
    refine(aLF (code z) _ y.1 y.2).mono ?_;rintro e w'⟨rfl,rfl⟩;unfold sG;generalize hB:((Ja (code z)).toNat:Int)=B
    go_wp2_with (at_builtin;(refine wpList_append_own _ rfl _ _ 54 rfl O.heap.size 5 i (.int .u8 0) 1 1 underlying54 hi hz s L rfl (by decide) _ _ _ rfl (a.alloc _) ⟨wr.heap.size,0,none⟩ 1 1 [.int .u8 B] rfl rfl (cell_one_new _ _ _) (fun u C=>by simp at C;subst C;rfl) (by unfold maxLen;omega) (by omega) (by simp;omega) ?_;intro v' w6 p f r;have Y:=hid (Cw a d d.size _ f);have O6:=hid p;clear r f p))
    go_roundw
    case rel=>
     refine⟨n+1,by omega,by go_num,?_,Y.out⟩;rw[TK.out,List.map_append];have S:=O6.out;rw[<-hB]at S;exact S
    case measure=>simp[intOf];omega
   ·obtain rfl:n=j.length:=by omega
    rw[List.take_length]at a;have M:=aSB (l:=j.map uN) (by rw[List.map_map];exact a) (by simp) (by omega);obtain⟨H,N,I,rfl⟩:=Oe a;have HB:=hid d;clear a d
    go_wp2_with fail
    refine bodyPost_ret (v:=.tuple #[.string ⟨(j.map uN).toArray⟩,.int .i64 0]) (by simp[results,results8,go_sem]) rfl ?_;exact⟨R.out.trans (Chg.eH HB.out),rfl⟩
theorem aJh (w:World)(b:Nat)(T:Rd.Tr)(k c:Nat)(f:ExAt w b T)(d:planT T=none)(i:k<=60)(hc:c<=3000):Calls prog 8 #[.pointer (some ⟨b,0,none⟩),.int .i64 (k:Int),.int .i64 (c:Int)] w fun e j=>e=.returned (.tuple #[.string ⟨#[]⟩,.int .i64 5])/\Chg w j []:=by
 have h:=hid (aIH w b T k c f d i hc);clear f d
 go_enter func8,ntmps8
 go_wp2_with fail
 refine(h.out).mono ?_;rintro e l⟨rfl,a⟩;have g:=hid a;clear a
 go_wp2_with fail
 refine bodyPost_ret (v:=.tuple #[.string ⟨#[]⟩,.int .i64 5]) (by simp[results,results8,go_sem]) rfl ?_;exact⟨rfl,g.out⟩
open Go.Deep (BT)
def pickI (c:Int)(n:Nat):Nat:=if c<0 then((-(c+1))%(n:Int)).toNat else(c%(n:Int)).toNat
theorem tJ (c:Int)(n:Nat)(a:0<n):pickI c n<n:=by
 unfold pickI;split
 ·have:=Int.emod_lt_of_pos (-(c+1)) (show(0:Int)<n by omega);omega
 ·have:=Int.emod_lt_of_pos c (show(0:Int)<n by omega);omega
theorem pB (c:Int)(n:Nat)(w:World)(d:-9223372036854775808<=c)(f:c<=9223372036854775807)(h:0<n)(g:n<=4000000):
  Calls prog 6 #[.int .i64 c,.int .i64 n] w fun e b=>e=.returned (.int .i64 (pickI c n))/\w=b:=by
 by_cases hc:c<0
 ·have a:-(c+1).tmod (n:Int)=(pickI c n:Int):=by
   rw[pickI,if_pos hc,<-Int.neg_tmod,Int.tmod_eq_emod_of_nonneg (by omega),Int.toNat_of_nonneg (Int.emod_nonneg _ (by omega))]
  generalize pickI c n=i at*;have E:=aC a;clear a
  go_enter func6,ntmps6
  go_wp2_with fail
  go_ret
  exact⟨yF E.out,rfl⟩
 ·have a:c%(n:Int)=(pickI c n:Int):=by
   rw[pickI,if_neg hc,Int.toNat_of_nonneg (Int.emod_nonneg _ (by omega))]
  generalize pickI c n=i at*;have E:=aC a;clear a
  go_enter func6,ntmps6
  go_wp2_with fail
  go_ret
  exact⟨yF E.out,rfl⟩
theorem Na {b:World}(h:Chg n b []):Below n.heap.size n b:=h.below (Nat.le_refl _) (fun k a=>by simp at a)
theorem Mw {b D:World}(h:Below n.heap.size n b)(a:Below b.heap.size b D):Below n.heap.size n D:=h.trans (a.mono h.size)
theorem aS6:(ByteArray.mk l.toArray).extract 0 k=⟨(l.take k).toArray⟩:=by
 apply ByteArray.ext;simp[ByteArray.data_extract]
theorem aJy (w:World)(g:Nat)(T:Rd.Tr)(t:ByteArray)(a b k:Int)(x:Bool)(z:ExAt w g T)(H:-9223372036854775808<=k)(I:k<=9223372036854775807):
  Calls prog 5 #[.agg #[.pointer (some ⟨g,0,none⟩),.string t,.int .i64 a,.int .i64 b,.bool x],.int .i64 k] w fun e N=>e=.returned (.bool true)/\Below w.heap.size w N:=by
 have y:=hid (fun w=>pB k 12 w H I (by decide) (by decide));have J:=tJ k 12 (by decide);have c1:Chg w (w.alloc (.cells #[.pointer (some ⟨g,0,none⟩),.string t,.int .i64 a,.int .i64 b,.bool x] 31)) []:=Chg.alloc _ _;have v:=hid (z.aT c1);have M:(w.alloc (.cells #[.pointer (some ⟨g,0,none⟩),.string t,.int .i64 a,.int .i64 b,.bool x] 31)).cell? ⟨w.heap.size,0,none⟩=some (.pointer (some ⟨g,0,none⟩)):=bK (jC _ _) rfl;generalize pickI k 12=i at*
 have R:1+(i:Int)=((i+1:Nat):Int):=by omega
 clear z c1
 cases s:planT T with
 |none=>
  have r:=hid s;clear s
  go_enter func5,ntmps5
  go_wp2_with fail
  refine(y.out _).mono ?_;rintro e O⟨rfl,rfl⟩
  go_wp2_with fail
  refine(aJh _ g T (i+1) 1000 v.out r.out (by omega) (by decide)).mono ?_;rintro e A⟨rfl,d⟩;have j:=hid d;clear d
  go_wp2_with fail
  go_ret
  exact⟨rfl,Mw ((Below.refl w.heap.size w).alloc (Nat.le_refl _) _) (Na j.out)⟩
 |some u=>
  have r:=hid s;have F:=hid (fun l (h:symsT u (i+1) 1000=some l)=>Rf.aL8 h);have E:=hid (fun l (h:symsT u (i+1) 1000=some l)=>Rf.aIJ h);clear s
  go_enter func5,ntmps5
  go_wp2_with fail
  refine(y.out _).mono ?_;rintro e O⟨rfl,rfl⟩
  go_wp2_with fail
  refine(Mn _ g T u (i+1) 1000 v.out r.out (by omega) (by decide)).mono ?_;rintro e A⟨d,f⟩;have j:=hid d;have S:A.cell? ⟨w.heap.size,0,none⟩=some (.pointer (some ⟨g,0,none⟩)):=((Na d).cell (by simp)).trans M;clear d
  cases p:symsT u (i+1) 1000 with
  |none=>
   rw[p]at f;simp only at f;subst f
   go_wp2_with fail
   go_ret
   exact⟨rfl,Mw ((Below.refl w.heap.size w).alloc (Nat.le_refl _) _) (Na j.out)⟩
  |some q=>
   rw[p]at f;simp only at f;subst f;have P:=E.out q p;have C:=hid (F.out q p);clear p
   have L:(ByteArray.mk (q.map uN).toArray).size=i+2:=by simp[ByteArray.size];omega
   have o:=aS6 (l:=q.map uN) (k:=i+1);generalize ByteArray.mk (q.map uN).toArray=D at*
   go_wp2_with fail
   refine(Mn _ g T u i 1000 (v.out.aT j.out) r.out (by omega) (by decide)).mono ?_;rintro e U⟨n,f⟩;rw[C.out]at f;simp only at f;subst f;have B:=hid n;clear n;rw[List.map_take,<-o]
   go_wp2_with fail
   go_ret
   exact⟨rfl,Mw (Mw ((Below.refl w.heap.size w).alloc (Nat.le_refl _) _) (Na j.out)) (Na B.out)⟩
namespace Rd
variable {ws:List Wd}
def Made (t:Tr)(st a:St):Prop:=Wf t/\lY t+st.nodes<=a.nodes
def rP (l t:Tr)(st a:St):Prop:=Wf t/\lY t+st.nodes<=a.nodes+lY l
theorem aON {x:Wd}(h:x.text.size<=9):cU (valTo x.text x.text.size):=⟨Zd _ _,aLa _ _ h⟩
theorem aOU:cU 0:=⟨by decide,by decide⟩
theorem aS9 (a:kQ ws)(st:St):cU (term ws st).1/\(term ws st).2.nodes=st.nodes:=by
 unfold term
 cases b:((aD ws st.next).kind==1)with
 |false=>exact⟨aOU,rfl⟩
 |true=>
  have:=aON (a st.next (beq_iff_eq.1 b))
  cases valTo (aD ws st.next).text (aD ws st.next).text.size==0 with
  |true=>exact⟨aOU,rfl⟩
  |false=>exact⟨this,rfl⟩
theorem aQe (g:kQ ws):∀f c ts st a b,terms ws f c ts st=some (some a,b)->(∀x∈ts,cU x)->ts.length=c->c+f=9->(∀x∈a,cU x)/\c+1<=a.length/\a.length<=9/\b.nodes=st.nodes:=by
 intro f
 induction f with
 |zero=>intro c ts st a b h;cases h
 |succ f r=>
  intro c ts st a b h e hc v;obtain⟨s,o⟩:=aS9 g st;rw[terms]at h
  have d:∀x∈ts++[(term ws st).1],cU x:=by
   intro x hx
   rcases List.mem_append.1 hx with hx|hx
   ·exact e x hx
   ·rw[List.mem_singleton.1 hx];exact s
  cases i:(st.okB&&(term ws st).2.okB)with
  |false=>rw[i]at h;cases h
  |true=>
   rw[i]at h;simp only[cond_true]at h
   cases j:((term ws st).1==0)with
   |true=>rw[j]at h;simp at h
   |false=>
    rw[j]at h;simp only[cond_false]at h
    cases k:tk ws (term ws st).2 ⟨#[93]⟩with
    |true=>
     rw[k]at h;simp only[cond_true,Option.some.injEq,Prod.mk.injEq]at h;obtain⟨rfl,rfl⟩:=h;exact⟨d,by simp;omega,by simp;omega,o⟩
    |false=>
     rw[k]at h;simp only[cond_false]at h
     cases l:(c==8)with
     |true=>rw[l]at h;simp at h
     |false=>
      rw[l]at h;simp only[cond_false]at h
      cases n:tk ws (term ws st).2 ⟨#[44]⟩with
      |false=>rw[n]at h;simp at h
      |true=>
       rw[n]at h;simp only[cond_true]at h;obtain⟨a1,u,p,q⟩:=r _ _ _ _ _ h d (by simp;omega) (by omega);exact⟨a1,by omega,p,q.trans o⟩
variable {st:St}
theorem aHW (a:kQ ws){b:St}{t:Tr}(h:continued ws st=some (some t,b)):Made t st b:=by
 unfold continued at h
 cases g:(decide (st.next<900)&&st.okB)with
 |false=>rw[g]at h;cases h
 |true=>
  rw[g]at h;simp only[cond_true]at h
  cases i:tk ws st ⟨#[91]⟩with
  |false=>rw[i]at h;simp at h
  |true=>
   rw[i]at h;simp only[cond_true]at h
   cases d:((aD ws st.aN.next).kind==1)with
   |false=>rw[d]at h;simp at h
   |true=>
    rw[d]at h;simp only[cond_true]at h
    cases j:tk ws st.aN.aN ⟨#[59]⟩with
    |false=>rw[j]at h;simp at h
    |true=>
     rw[j]at h;simp only[cond_true]at h
     cases f:terms ws 8 1 [valTo (aD ws st.aN.next).text (aD ws st.aN.next).text.size] st.aN.aN.aN with
     |none=>rw[f]at h;cases h
     |some y=>
      obtain⟨r,l⟩:=y;rw[f]at h
      cases r with
      |none=>simp[lI]at h
      |some ts=>
       simp only[lI]at h
       cases k:l.okB with
       |false=>rw[k]at h;cases h
       |true=>
        rw[k]at h;simp only[cond_true,Option.some.injEq,Prod.mk.injEq]at h;obtain⟨rfl,rfl⟩:=h;obtain⟨a1,p,n,q⟩:=aQe a _ _ _ _ _ _ f (by intro x o;rw[List.mem_singleton.1 o];exact aON (a _ (beq_iff_eq.1 d))) rfl rfl;have e:st.aN.aN.aN.nodes=st.nodes:=rfl;refine⟨Or.inr (Or.inr (Or.inl ⟨rfl,a1,by simp only;omega,n,rfl,rfl,rfl⟩)),?_⟩;show 0+0+1+st.nodes<=l.nodes+1;omega
variable {k:Int}{x:Option Tr}
theorem aK9 (f:k=5\/k=10\/k=11\/k=12\/k=13){st0 d:St}{t:Tr}(h:dU k x st=some (some t,d))(g:∀y,x=some y->Made y st0 st):Made t st0 d:=by
 cases x with
 |none=>simp[dU]at h
 |some y=>
  obtain⟨a,b⟩:=g y rfl;simp only[dU]at h
  cases e:st.okB with
  |false=>rw[e]at h;cases h
  |true=>
   rw[e]at h;simp only[cond_true,Option.some.injEq,Prod.mk.injEq]at h;obtain⟨rfl,rfl⟩:=h;refine⟨Or.inr (Or.inr (Or.inr (Or.inl ⟨f,a,rfl,rfl⟩))),?_⟩;show lY y+0+1+st0.nodes<=st.nodes+1;omega
theorem aSz (f:k=6\/k=7\/k=8\/k=9){X:Tr}(g:Wf X){st0 d:St}{t:Tr}(h:operOf k X x st=some (some t,d))(i:∀y,x=some y->Made y st0 st):rP X t st0 d:=by
 cases x with
 |none=>simp[operOf]at h
 |some y=>
  obtain⟨a,b⟩:=i y rfl;simp only[operOf]at h
  cases e:st.okB with
  |false=>rw[e]at h;cases h
  |true=>
   rw[e]at h;simp only[cond_true,Option.some.injEq,Prod.mk.injEq]at h;obtain⟨rfl,rfl⟩:=h;refine⟨Or.inr (Or.inr (Or.inr (Or.inr ⟨f,g,a,rfl⟩))),?_⟩;show lY X+lY y+1+st0.nodes<=st.nodes+1+lY X;omega
structure W1 (ws:List Wd) (f:Nat):Prop where
 sum:∀l st t st',parse ws f 0 l st=some (some t,st')->Made t st st'
 sumL:∀l st t st',Wf l->parse ws f 1 (some l) st=some (some t,st')->rP l t st st'
 prod:∀l st t st',parse ws f 2 l st=some (some t,st')->Made t st st'
 prodL:∀l st t st',Wf l->parse ws f 3 (some l) st=some (some t,st')->rP l t st st'
 signed:∀l st t st',parse ws f 4 l st=some (some t,st')->Made t st st'
 atom:∀l st t st',parse ws f 5 l st=some (some t,st')->Made t st st'
 br:∀l st t st',parse ws f 6 l st=some (some t,st')->Made t st st'
theorem Tj {d b:Nat}(v:k=6\/k=7\/k=8\/k=9){X t:Tr}{a:St}(x:Wf X)(o:∀t g a,parse ws w b none g=some (some t,a)->Made t g a)(s:∀X st t a,Wf X->parse ws w d (some X) st=some (some t,a)->rP X t st a)
  (u:∀st t a,parse ws w d none st≠some (some t,a))
  (h:((parse ws w b none st.aN).next fun r i=>(operOf k X r i).next fun n j=>parse ws w d n j)=some (some t,a)):rP X t st a:=by
 obtain⟨r,i,p,h⟩:=pO h;obtain⟨n,j,q,h⟩:=pO h
 cases n with
 |none=>exact absurd h (u _ _ _)
 |some n=>
  obtain⟨a1,A⟩:=aSz v x (st0:=st.aN) q (fun y z=>o y _ _ (by rw[<-z];exact p));obtain⟨b1,b2⟩:=s _ _ _ _ a1 h;have e:st.aN.nodes=st.nodes:=rfl;exact⟨b1,by omega⟩
theorem Ax (f:Nat)(st:St)(t:Tr)(a:St):parse ws f 1 none st≠some (some t,a):=by
 cases f<;>simp[parse]
theorem Ay (f:Nat)(st:St)(t:Tr)(a:St):parse ws f 3 none st≠some (some t,a):=by
 cases f<;>simp[parse]
theorem aRE (s:kQ ws)(f:Nat)(g:W1 ws f):W1 ws (f+1):=by
 constructor
 case sum=>
  intro l st t d h;rw[parse]at h;obtain⟨r,n,p,h⟩:=pO h
  cases r with
  |none=>exact absurd h (Ax _ _ _ _)
  |some r=>
   obtain⟨a1,B⟩:=g.prod _ _ _ _ p;obtain⟨b1,b2⟩:=g.sumL _ _ _ _ a1 h;exact⟨b1,by omega⟩
 case sumL=>
  intro l st t d q h;rw[parse]at h
  cases o:st.okB with
  |false=>rw[o]at h;cases h
  |true=>
   rw[o]at h;simp only[cond_true]at h
   cases i:tk ws st ⟨#[43]⟩with
   |true=>
    rw[i]at h;exact Tj (Or.inl rfl) q (fun t j d=>g.prod none j t d) g.sumL (Ax f) h
   |false=>
    rw[i]at h;simp only[cond_false]at h
    cases e:tk ws st ⟨#[45]⟩with
    |true=>
     rw[e]at h;exact Tj (Or.inr (Or.inl rfl)) q (fun t j d=>g.prod none j t d) g.sumL (Ax f) h
    |false=>
     rw[e]at h;simp only[cond_false,Option.some.injEq,Prod.mk.injEq]at h;obtain⟨rfl,rfl⟩:=h;exact⟨q,by omega⟩
 case prod=>
  intro l st t d h;rw[parse]at h;obtain⟨r,n,p,h⟩:=pO h
  cases r with
  |none=>exact absurd h (Ay _ _ _ _)
  |some r=>
   obtain⟨a1,B⟩:=g.signed _ _ _ _ p;obtain⟨b1,b2⟩:=g.prodL _ _ _ _ a1 h;exact⟨b1,by omega⟩
 case prodL=>
  intro l st t d q h;rw[parse]at h
  cases o:st.okB with
  |false=>rw[o]at h;cases h
  |true=>
   rw[o]at h;simp only[cond_true]at h
   cases i:tk ws st ⟨#[42]⟩with
   |true=>
    rw[i]at h;exact Tj (Or.inr (Or.inr (Or.inl rfl))) q (fun t j d=>g.signed none j t d) g.prodL (Ay f) h
   |false=>
    rw[i]at h;simp only[cond_false]at h
    cases e:tk ws st ⟨#[47]⟩with
    |true=>
     rw[e]at h;exact Tj (Or.inr (Or.inr (Or.inr rfl))) q (fun t j d=>g.signed none j t d) g.prodL (Ay f) h
    |false=>
     rw[e]at h;simp only[cond_false,Option.some.injEq,Prod.mk.injEq]at h;obtain⟨rfl,rfl⟩:=h;exact⟨q,by omega⟩
 case signed=>
  intro l st t d h;rw[parse]at h
  cases o:st.okB with
  |false=>rw[o]at h;cases h
  |true=>
   rw[o]at h;simp only[cond_true]at h
   cases i:tk ws st ⟨#[45]⟩with
   |false=>
    rw[i]at h;exact g.atom _ _ _ _ h
   |true=>
    rw[i]at h;simp only[cond_true]at h;obtain⟨x,n,p,h⟩:=pO h
    cases e:n.fU with
    |false=>rw[e]at h;cases h
    |true=>
     rw[e]at h;simp only[cond_true]at h
     exact aK9 (Or.inl rfl) (st0:=st) h (fun y w=>by
      obtain⟨a,b⟩:=g.signed _ _ _ _ (by rw[<-w];exact p)
      exact⟨a,b⟩)
 case atom=>
  intro l st t d h;rw[parse]at h
  cases o:st.okB with
  |false=>rw[o]at h;cases h
  |true=>
   rw[o]at h;simp only[cond_true]at h
   cases i:((aD ws st.next).kind==1)with
   |true=>
    rw[i]at h;simp only[cond_true]at h
    cases e:st.aN.okB with
    |false=>rw[e]at h;cases h
    |true=>
     rw[e]at h;simp only[cond_true,Option.some.injEq,Prod.mk.injEq]at h;obtain⟨rfl,rfl⟩:=h;refine⟨Or.inl ⟨rfl,aON (s _ (beq_iff_eq.1 i)),rfl,rfl,rfl⟩,?_⟩;show 0+0+1+st.nodes<=st.nodes+1;omega
   |false=>
    rw[i]at h;simp only[cond_false]at h
    cases e:((aD ws st.next).kind==2)with
    |false=>rw[e]at h;exact g.br _ _ _ _ h
    |true=>
     rw[e]at h;simp only[cond_true,nameOf]at h
     have v:named (aD ws st.next).text=0\/named (aD ws st.next).text=2\/named (aD ws st.next).text=3\/named (aD ws st.next).text=4\/named (aD ws st.next).text=10\/named (aD ws st.next).text=11\/named (aD ws st.next).text=12\/named (aD ws st.next).text=13:=by
      unfold named;generalize (aD ws st.next).text=x
      cases isT x [112,105]<;>cases isT x [101]<;>cases isT x [99,102]<;>cases isT x [115,113,114,116]<;>cases isT x [101,120,112]<;>cases isT x [108,110,49,112]<;>cases isT x [97,116,97,110]<;>simp
     generalize named (aD ws st.next).text=k at h v
     cases k0:(k==0)with
     |true=>rw[k0]at h;simp at h
     |false=>
      rw[k0]at h;simp only[cond_false]at h
      cases u:(k==2||k==3)with
      |true=>
       rw[u]at h;simp only[cond_true]at h
       cases e:st.aN.okB with
       |false=>rw[e]at h;cases h
       |true=>
        rw[e]at h;simp only[cond_true,Option.some.injEq,Prod.mk.injEq]at h;obtain⟨rfl,rfl⟩:=h;refine⟨Or.inr (Or.inl ⟨by simpa using u,rfl,rfl,rfl,rfl⟩),?_⟩;show 0+0+1+st.nodes<=st.nodes+1;omega
      |false=>
       rw[u]at h;simp only[cond_false]at h
       cases z:(k==4)with
       |true=>
        rw[z]at h;have:=aHW s h;exact this
       |false=>
        rw[z]at h;simp only[cond_false]at h;obtain⟨x,n,p,h⟩:=pO h;simp at k0 u z
        exact aK9 (by omega) (st0:=st) h (fun y w=>by
         obtain⟨a,b⟩:=g.br _ _ _ _ (by rw[<-w];exact p)
         exact⟨a,b⟩)
 case br=>
  intro l st t d h;rw[parse]at h
  ·cases o:st.okB with
   |false=>rw[o]at h;cases h
   |true=>
    rw[o]at h;simp only[cond_true]at h
    cases i:tk ws st ⟨#[40]⟩with
    |false=>rw[i]at h;simp at h
    |true=>
     rw[i]at h;simp only[cond_true]at h;obtain⟨x,n,p,h⟩:=pO h;unfold hY at h
     cases e:n.fU with
     |false=>rw[e]at h;cases h
     |true=>
      rw[e]at h;simp only[cond_true]at h
      cases x with
      |none=>simp at h
      |some x=>
       simp only at h
       cases A:tk ws n.out ⟨#[41]⟩with
       |false=>rw[A]at h;simp at h
       |true=>
        rw[A]at h;simp only[cond_true,Option.some.injEq,Prod.mk.injEq]at h;obtain⟨rfl,rfl⟩:=h;obtain⟨a,b⟩:=g.sum _ _ _ _ p;exact⟨a,b⟩
  all_goals omega
theorem aTQ (a:kQ ws):∀f,W1 ws f:=by
 intro f
 induction f with
 |zero=>constructor<;>(intros;rename_i h;cases h)
 |succ f b=>exact aRE a f b
variable {s:ByteArray}
theorem Zl {t:Tr}{e p:Int}(d:kQ (split s (s.size+1) 0))(h:read w s=some (some t,e,p)):Wf t/\(text t).length<=1000000/\lY t<=40:=by
 unfold read at h
 cases g:decide (120<s.size)with
 |true=>rw[g]at h;simp at h
 |false=>
  rw[g]at h;simp only[cond_false]at h;split at h
  ·cases h
  ·simp at h
  ·rename_i j st i;obtain⟨a,b⟩:=(aTQ d w).sum _ _ _ _ i
   cases c1:((aD (split s (s.size+1) 0) st.next).kind==0)with
   |false=>rw[c1]at h;simp at h
   |true=>
    rw[c1]at h;simp only[cond_true]at h
    cases c2:(decide (12<st.deepest)||decide (40<st.nodes))with
    |true=>rw[c2]at h;simp at h
    |false=>
     rw[c2]at h;simp only[cond_false,Option.some.injEq,Prod.mk.injEq]at h;obtain⟨rfl,_⟩:=h;simp only[Bool.or_eq_false_iff,decide_eq_false_iff_not]at c2;have:=aQf _ a;simp only at b;exact⟨a,by omega,by omega⟩
theorem aSQ {t:Tr}{e p:Int}(a:kQ (split s (s.size+1) 0))(h:read w s=some (some t,e,p)):Wf t/\(text t).length<=1000000:=⟨(Zl a h).1,(Zl a h).2.1⟩
end Rd
open Go.Shelf Go.RowKit Go.Sort Go.Lib
def aHx:Go.Shelf.Ren:=⟨fun|171=>49|243=>71|246=>88|283=>108|284=>109|285=>110|286=>111|129=>132|317=>131|318=>133|319=>134|320=>135|337=>158|338=>159|n=>n,fun|3=>3|9=>9|2=>2|4=>4|171=>163|0=>0|53=>153|37=>54|5=>5|173=>166|212=>181|51=>168|20=>20|213=>182|46=>115|232=>210|233=>211|n=>n,fun|17=>0|18=>1|19=>2|n=>n⟩
theorem xX:Go.Proofs.LaysM.n171 prog aHx:={
 mixed:=by kernel_rfl
 f129:=func132.trans (congrArg some (by kernel_rfl))
 f171:=func49.trans (congrArg some (by kernel_rfl))
 f243:=func71.trans (congrArg some (by kernel_rfl))
 f246:=func88.trans (congrArg some (by kernel_rfl))
 f283:=func108.trans (congrArg some (by kernel_rfl))
 f284:=func109.trans (congrArg some (by kernel_rfl))
 f285:=func110.trans (congrArg some (by kernel_rfl))
 f286:=func111.trans (congrArg some (by kernel_rfl))
 f317:=func131.trans (congrArg some (by kernel_rfl))
 f318:=func133.trans (congrArg some (by kernel_rfl))
 f319:=func134.trans (congrArg some (by kernel_rfl))
 f320:=func135.trans (congrArg some (by kernel_rfl))
 f337:=func158.trans (congrArg some (by kernel_rfl))
 f338:=func159.trans (congrArg some (by kernel_rfl))
 t0:=underlying0
 a0:=Tryz.isAgg0
 z0:=Tryz.sizeOf0
 v0:=Tryz.zeroValue0
 t2:=underlying2
 a2:=Tryz.isAgg2
 z2:=Tryz.sizeOf2
 v2:=Tryz.zeroValue2
 t3:=underlying3
 a3:=Tryz.isAgg3
 z3:=Tryz.sizeOf3
 v3:=Tryz.zeroValue3
 t4:=underlying4
 a4:=Tryz.isAgg4
 z4:=Tryz.sizeOf4
 v4:=Tryz.zeroValue4
 t5:=underlying5
 a5:=Tryz.isAgg5
 z5:=Tryz.sizeOf5
 v5:=Tryz.zeroValue5
 t9:=underlying9
 a9:=Tryz.isAgg9
 z9:=Tryz.sizeOf9
 v9:=Tryz.zeroValue9
 t20:=underlying20
 a20:=Tryz.isAgg20
 z20:=Tryz.sizeOf20
 v20:=Tryz.zeroValue20
 t37:=underlying54
 a37:=Tryz.isAgg54
 z37:=Tryz.sizeOf54
 v37:=Tryz.zeroValue54
 t46:=underlying115
 a46:=Tryz.isAgg115
 z46:=Tryz.sizeOf115
 v46:=Tryz.zeroValue115
 t51:=underlying168
 a51:=Tryz.isAgg168
 z51:=Tryz.sizeOf168
 v51:=Tryz.zeroValue168
 t53:=underlying153
 a53:=Tryz.isAgg153
 z53:=Tryz.sizeOf153
 v53:=Tryz.zeroValue153
 t171:=underlying163
 a171:=Tryz.isAgg163
 z171:=Tryz.sizeOf163
 v171:=Tryz.zeroValue163
 t173:=underlying166
 a173:=Tryz.isAgg166
 z173:=Tryz.sizeOf166
 v173:=Tryz.zeroValue166
 t212:=underlying181
 a212:=Tryz.isAgg181
 z212:=Tryz.sizeOf181
 v212:=Tryz.zeroValue181
 t213:=underlying182
 a213:=Tryz.isAgg182
 z213:=Tryz.sizeOf182
 t232:=underlying210
 a232:=Tryz.isAgg210
 z232:=Tryz.sizeOf210
 v232:=Tryz.zeroValue210
 t233:=underlying211
 a233:=Tryz.isAgg211
 z233:=Tryz.sizeOf211
 v233:=Tryz.zeroValue211
 g17:=by kernel_rfl
 g18:=by kernel_rfl
 g19:=by kernel_rfl
 i0:=by kernel_rfl
 i2:=by kernel_rfl
 i3:=by kernel_rfl
 i4:=by kernel_rfl
 i5:=by kernel_rfl
 i9:=by kernel_rfl
 i20:=by kernel_rfl
 i37:=by kernel_rfl
 i46:=by kernel_rfl
 i51:=by kernel_rfl
 i53:=by kernel_rfl
 i171:=by kernel_rfl
 i173:=by kernel_rfl
 i212:=by kernel_rfl
 i232:=by kernel_rfl
 i233:=by kernel_rfl
 m17:=by kernel_rfl
 m18:=by kernel_rfl
 m19:=by kernel_rfl}
theorem aNs (n:Int)(h0:-9223372036854775808<=n)(h1:n<=9223372036854775807)(w:World)(htab:Lib.TabIs prog w "internal/strconv.uint64pow10" .u64 Lib.pow10Tab):
  Calls prog 49 #[.int .i64 n] w fun e w'=>e=.returned (.string ⟨(Lib.itoa n).toArray⟩)/\∃k os,w'=grow (w.drewN k) os:=Any.strconv_Itoa xX n h0 h1 w htab
end Go.Proofs.YtkmojpfpfoaloaaGreatDoor
namespace Go.Proofs.YtkmojpfpfoaloaaGreatDoor
open Go.Proofs.Tryz
open Go.RowKit
def oU (w:World):Prop:=Lib.TabIs prog w "internal/strconv.uint64pow10" .u64 Lib.pow10Tab
theorem oU.below {w b:World}(h:oU w)(a:Below w.heap.size w b):oU b:=Lib.tabBelow_of_tabIs h b a
theorem Tc (v:Int)(hv:Rd.cU v)(w:World)(b:oU w):
  Calls prog 49 #[.int .i64 v] w fun e a=>∃s:ByteArray,e=.returned (.string s)/\s.data.toList=Rd.dec v/\s.size<=9/\Below w.heap.size w a:=by
 obtain⟨u,rfl⟩:∃u:Nat,v=u:=⟨v.toNat,by have:=hv.1;omega⟩
 refine(aNs u (by omega) (by have:=hv.2;omega) w b).mono ?_;rintro e a⟨rfl,k,os,rfl⟩;refine⟨_,rfl,?_,?_,Lib.below_grow _ _ (Nat.le_refl _) _ _⟩
 ·rw[Lib.itoa_nonneg];simp[Rd.dec]
 ·have:=Rd.Cd hv;rw[Lib.itoa_nonneg]
  simpa[Rd.dec,ByteArray.size]using this
theorem aIR (k:Int)(a:1<=k/\k<=13)(w:World):Calls prog 53 #[.int .i64 k] w fun e b=>e=.returned (.int .i64 (Rd.aP k))/\w=b:=by
 have h:k=1\/k=2\/k=3\/k=4\/k=5\/k=6\/k=7\/k=8\/k=9\/k=10\/k=11\/k=12\/k=13:=by omega
 clear a
 rcases h with rfl|rfl|rfl|rfl|rfl|rfl|rfl|rfl|rfl|rfl|rfl|rfl|rfl
 all_goals
  go_enter func53,ntmps53
  go_wp2_with fail
  go_ret
  exact⟨rfl,rfl⟩
theorem Xf (k:Int)(a:2<=k/\k<=13)(w:World):Calls prog 52 #[.int .i64 k] w fun e b=>e=.returned (.string ⟨(Rd.sym k).toArray⟩)/\w=b:=by
 have h:k=2\/k=3\/k=4\/k=5\/k=6\/k=7\/k=8\/k=9\/k=10\/k=11\/k=12\/k=13:=by omega
 clear a
 rcases h with rfl|rfl|rfl|rfl|rfl|rfl|rfl|rfl|rfl|rfl|rfl|rfl
 all_goals
  go_enter func52,ntmps52
  go_wp2_with fail
  go_ret
  exact⟨rfl,rfl⟩
theorem aL {p:Prop}(h:p):Hid p:=h
structure eC (s:ByteArray) (l:List UInt8):Prop where
 eq:s.data.toList=l
theorem eC.size {s:ByteArray}{l:List UInt8}(h:eC s l):s.size=l.length:=by
 rw[<-h.eq,Array.length_toList];rfl
variable {s:ByteArray}{A:List UInt8}
theorem eC.app {t:ByteArray}{m:List UInt8}(h:eC s A)(k:eC t m):eC (s++t) (A++m):=⟨by rw[<-h.eq,<-k.eq];simp[ByteArray.data_append]⟩
theorem eC.mk' (l:List UInt8):eC ⟨l.toArray⟩ l:=⟨by simp⟩
theorem eC.to {m:List UInt8}(h:eC s A)(e:A=m):eC s m:=e▸h
variable {n:World}
theorem aNq {tb:Nat}{ts:List Int}{a:Array Value}(d:n.heap[tb]?=some (.cells a 3 (0,0)))(e:a.toList.take ts.length=ts.map (Value.int .i64))(k:Nat)(b:k<ts.length):
  n.cell? ⟨tb,k,none⟩=some (.int .i64 (ts.getD k 0)):=by
 refine bK d ?_
 have:(ts.map (Value.int .i64))[k]?=some (.int .i64 (ts.getD k 0)):=by
  simp[List.getD,List.getElem?_eq_getElem b]
 rw[<-e,List.getElem?_take_of_lt b]at this
 simpa using this
def Bp (w:World)(ts:List Int)(b a:Value)(wr:World):Prop:=
 ∃(k:Nat) (s:ByteArray),a=.int .i64 k/\b=.string s/\k<=ts.length/\eC s (Rd.eT ts k)/\Below w.heap.size w wr
theorem aHB (W:Nat)(w:World)(ts:List Int)(I:Value)(S:cZ W w ts I)(H:2<=ts.length)(P:ts.length<=9)(A:∀x∈ts,Rd.cU x)(l:oU w):
  Calls prog 50 #[I] w fun e X=>∃s:ByteArray,e=.returned (.string s)/\eC s (Rd.dX ts)/\Below w.heap.size w X:=by
 rcases S with⟨h,_⟩|⟨tb,M,N,rfl,_,C,Y,D⟩
 ·rw[h]at H;simp at H
 have p:=aL A
 have l0:(0:Int)<ts.length:=by omega
 have T:0<ts.length:=by omega
 have l1:(1:Int)<ts.length:=by omega
 have U:1<ts.length:=by omega
 have L:=aL l;clear A l
 go_enter func50,ntmps50
 go_wp2_with fail
 go_loopw [3,4] (fun t i wr=>Bp w ts t i wr) (fun _ i _=>ts.length-(intOf i).toNat)
 case atStart=>exact⟨0,_,rfl,rfl,by omega,eC.mk' _,Below.refl _ _⟩
 case round=>
  obtain⟨k,s,rfl,rfl,hk,v,o⟩:=hrel
  have R:s.size<=102:=by have:=Rd.Xe p.out k;rw[v.size];omega
  by_cases z:(k:Int)<ts.length
  ·have a:k<ts.length:=by omega
   have hc:=aNq (by rw[o.block tb (eZ C)];exact C) D k a;have b:=aL (Rd.aNd p.out k);have f:=aL (L.out.below o);have q:=aL v;have j:=aL o;clear v o C D;have r:=aL (show Rd.eT ts (k+1)=Rd.eT ts k++(Rd.sep k++Rd.dec (ts.getD k 0))from rfl);generalize ts.getD k 0=x at hc b r;have d:=aL (show Rd.sep k=Rd.sep k from rfl)
   by_cases y:(k:Int)=0
   ·obtain rfl:k=0:=by omega
    clear d y z
    go_wp2_with (go_at_call 49;refine(Tc _ b.out _ f.out).mono ?_;rintro e J⟨u,rfl,B,n,g⟩)
    go_roundw
    case rel=>exact⟨1,_,by simp,rfl,a,(q.out.app ⟨B⟩).to (by rw[r.out];rfl),j.out.trans (g.mono j.out.size)⟩
    case measure=>simp[intOf];omega
   ·by_cases E:(k:Int)=1
    ·obtain rfl:k=1:=by omega
     clear d y E z
     go_wp2_with (go_at_call 49;refine(Tc _ b.out _ f.out).mono ?_;rintro e J⟨u,rfl,B,n,g⟩)
     go_roundw
     case rel=>exact⟨2,_,by simp,rfl,a,((q.out.app (eC.mk' [59,32])).app ⟨B⟩).to (by rw[r.out];simp[Rd.sep]),j.out.trans (g.mono j.out.size)⟩
     case measure=>simp[intOf];omega
    ·have F:Rd.sep k=[44,32]:=by
      unfold Rd.sep;rw[show(k==0)=false by simp;omega,show(k==1)=false by simp;omega];rfl
     rw[F]at r;clear F d
     have O:(1:Int)<k:=by omega
     go_wp2_with (go_at_call 49;refine(Tc _ b.out _ f.out).mono ?_;rintro e J⟨u,rfl,B,n,g⟩)
     go_roundw
     case rel=>exact⟨k+1,_,by simp,rfl,a,((q.out.app (eC.mk' [44,32])).app ⟨B⟩).to (by rw[r.out];simp),j.out.trans (g.mono j.out.size)⟩
     case measure=>simp[intOf];omega
  ·obtain rfl:k=ts.length:=by omega
   have q:=aL v;have j:=aL o;clear v o C D
   go_wp2_with fail
   go_ret
   exact⟨_,rfl,q.out.app (eC.mk' [93]),j.out⟩
open Go.Deep (BT)
def dZ (w:World)(l:List UInt8)(e:Ending)(a:World):Prop:=∃s:ByteArray,e=.returned (.string s)/\eC s l/\Below w.heap.size w a
theorem aTm {t:Rd.Tr}(h:Rd.Wf t):1<=Rd.aS t/\Rd.aS t<=13:=by
 cases t with
 |nil=>exact h.elim
 |node p q a l r=>
  simp only[Rd.aS]
  rcases h with⟨b,_⟩|⟨b,_⟩|⟨b,_⟩|⟨b,_⟩|⟨b,_⟩<;>omega
variable {w:Nat}
theorem aKi {t:Rd.Tr}{z:Value}(h:fX w n t z)(f:Rd.Wf t):∃b,z=.pointer (some ⟨b,0,none⟩)/\b<n.heap.size/\n.cell? ⟨b,0,none⟩=some (.int .i64 (Rd.aS t)):=by
 cases t with
 |nil=>exact f.elim
 |node p q a l r=>
  obtain⟨b,k,i,j,e,g,d,_⟩:=h;exact⟨b,e,eZ d,bK d rfl⟩
theorem Yh (D:Nat)(t:Rd.Tr)(v:Value)(a:Int)(w:World)(q:fX D w t v)(l:Rd.Wf t)(g:(Rd.text t).length<=1000000)(u:Calls prog 36 #[v] w (dZ w (Rd.text t))):
  Calls prog 51 #[v,.int .i64 a] w (dZ w (Rd.nP (decide (Rd.aP (Rd.aS t)<a)) (Rd.text t))):=by
 obtain⟨b,rfl,y,hc⟩:=aKi q l;have z:=aTm l;have o:=aL u;clear u q l;generalize Rd.aS t=k at*;generalize Rd.text t=x at*;have p:=aL (aIR k z);generalize B:Rd.aP k=r at*;clear B z
 by_cases h:r<a
 ·rw[decide_eq_true h]
  go_enter func51,ntmps51
  go_wp2_with fail
  refine(o.out).mono ?_;rintro e n⟨s,rfl,f,d⟩
  have j:n.cell? ⟨b,0,none⟩=some (.int .i64 k):=by rw[d.cell (by exact y)];exact hc
  have C:s.size<=1000000:=by rw[f.size];exact g
  have i:=aL f;clear f
  go_wp2_with (go_at_call 53;refine(p.out _).mono ?_;rintro e E⟨rfl,rfl⟩)
  go_ret
  exact⟨_,rfl,(((eC.mk' [40]).app i.out).app (eC.mk' [41])).to (by simp[Rd.nP]),d⟩
 ·rw[decide_eq_false h]
  go_enter func51,ntmps51
  go_wp2_with fail
  refine(o.out).mono ?_;rintro e n⟨s,rfl,f,d⟩
  have j:n.cell? ⟨b,0,none⟩=some (.int .i64 k):=by rw[d.cell (by exact y)];exact hc
  have i:=aL f;clear f
  have A:a<=r:=by omega
  go_wp2_with (go_at_call 53;refine(p.out _).mono ?_;rintro e E⟨rfl,rfl⟩)
  go_ret
  exact⟨_,rfl,i.out,d⟩
theorem aQg (b:Nat)(w:World)(x:Int)(g:Rd.cU x)(o l n:Value)(h:w.heap[b]?=some (.cells #[.int .i64 1,.int .i64 x,o,l,n] 111 (0,0)))(d:oU w):
  Calls prog 36 #[.pointer (some ⟨b,0,none⟩)] w (dZ w (Rd.dec x)):=by
 have c0:w.cell? ⟨b,0,none⟩=some (.int .i64 1):=bK h rfl;have c1:w.cell? ⟨b,1,none⟩=some (.int .i64 x):=bK h rfl;have j:=aL g;have i:=aL d;clear g d h
 go_enter func36,ntmps36
 go_wp2_with (go_at_call 49;refine(Tc _ j.out _ i.out).mono ?_;rintro e p⟨u,rfl,k,f,a⟩)
 go_ret
 exact⟨_,rfl,⟨k⟩,a⟩
theorem aMc (b:Nat)(w:World)(k:Int)(a:k=2\/k=3)(x g d f:Value)(h:w.heap[b]?=some (.cells #[.int .i64 k,x,g,d,f] 111 (0,0))):
  Calls prog 36 #[.pointer (some ⟨b,0,none⟩)] w (dZ w (Rd.sym k)):=by
 have c0:w.cell? ⟨b,0,none⟩=some (.int .i64 k):=bK h rfl;clear h
 rcases a with rfl|rfl
 all_goals
  go_enter func36,ntmps36
  go_wp2_with (go_at_call 52;refine(Xf _ (by decide) _).mono ?_;rintro e i⟨rfl,rfl⟩)
  go_ret
  exact⟨_,rfl,eC.mk' _,Below.refl _ _⟩
theorem aTa (l b:Nat)(w:World)(ts:List Int)(x f r s:Value)(h:w.heap[b]?=some (.cells #[.int .i64 4,x,f,r,s] 111 (0,0)))(d:cZ l w ts f)(i:2<=ts.length)(j:ts.length<=9)(a:∀x∈ts,Rd.cU x)(k:oU w):
  Calls prog 36 #[.pointer (some ⟨b,0,none⟩)] w (dZ w (Rd.dX ts)):=by
 have c0:w.cell? ⟨b,0,none⟩=some (.int .i64 4):=bK h rfl;have c2:w.cell? ⟨b,2,none⟩=some f:=bK h rfl;have n:=aL (aHB l w ts f d i j a k)
 rcases d with⟨h,_⟩|⟨tb,o,p,rfl,_⟩
 ·rw[h]at i;simp at i
 clear h a k
 go_enter func36,ntmps36
 go_wp2_with (go_at_call 50;refine(n.out).mono ?_;rintro e v⟨u,rfl,q,g⟩)
 go_ret
 exact⟨_,rfl,q,g⟩
theorem aMd (b f:Nat)(w:World)(l:List UInt8)(x o n:Value)(h:w.heap[b]?=some (.cells #[.int .i64 5,x,o,.pointer (some ⟨f,0,none⟩),n] 111 (0,0)))(a:l.length<=1000010)
  (g:Calls prog 51 #[.pointer (some ⟨f,0,none⟩),.int .i64 3] w (dZ w l)):
  Calls prog 36 #[.pointer (some ⟨b,0,none⟩)] w (dZ w (45::l)):=by
 have c0:w.cell? ⟨b,0,none⟩=some (.int .i64 5):=bK h rfl;have c3:w.cell? ⟨b,3,none⟩=some (.pointer (some ⟨f,0,none⟩)):=bK h rfl;have j:=aL g;clear h g
 go_enter func36,ntmps36
 go_wp2_with (go_at_call 51;refine(j.out).mono ?_;rintro e p⟨u,rfl,i,d⟩;have k:u.size<=1000010:=by(rw[i.size];exact a))
 go_ret
 exact⟨_,rfl,(eC.mk' [45]).app i,d⟩
theorem aTb (b q:Nat)(w:World)(k:Int)(A:k=10\/k=11\/k=12\/k=13)(l:List UInt8)(x D C:Value)(h:w.heap[b]?=some (.cells #[.int .i64 k,x,D,.pointer (some ⟨q,0,none⟩),C] 111 (0,0)))(f:l.length<=1000010)
  (s:Calls prog 36 #[.pointer (some ⟨q,0,none⟩)] w (dZ w l)):
  Calls prog 36 #[.pointer (some ⟨b,0,none⟩)] w (dZ w (Rd.sym k++40::(l++[41]))):=by
 have c0:w.cell? ⟨b,0,none⟩=some (.int .i64 k):=bK h rfl;have c3:w.cell? ⟨b,3,none⟩=some (.pointer (some ⟨q,0,none⟩)):=bK h rfl;have j:=eZ h;have y:=aL s;clear h s
 have d:2<=k/\k<=13:=by omega
 have r:=aL (Xf k d);generalize g:(⟨(Rd.sym k).toArray⟩:ByteArray)=sy at r
 have i:eC sy (Rd.sym k):=by rw[<-g];exact eC.mk' _
 have n:sy.size<=4:=by rw[i.size];exact Rd.Nr k
 have v:=aL i;clear i g d
 rcases A with rfl|rfl|rfl|rfl
 all_goals
  go_enter func36,ntmps36
  go_wp2_with fail
  refine(y.out).mono ?_;rintro e E⟨u,rfl,o,a⟩
  have B:u.size<=1000010:=by rw[o.size];exact f
  rw[<-a.cell (p:=⟨b,0,none⟩) j]at c0;have z:=aL o;clear o
  go_wp2_with (go_at_call 52;refine(r.out _).mono ?_;rintro e F⟨rfl,rfl⟩)
  go_ret
  exact⟨_,rfl,(((v.out.app (eC.mk' [40])).app z.out).app (eC.mk' [41])).to (by simp),a⟩
theorem aTc (b B qb:Nat)(w:World)(k r:Int)(v:Rd.aP k=r)(H:k=6\/k=7\/k=8\/k=9)(l m:List UInt8)(x U:Value)(h:w.heap[b]?=some (.cells #[.int .i64 k,x,U,.pointer (some ⟨B,0,none⟩),.pointer (some ⟨qb,0,none⟩)] 111 (0,0)))(O:l.length<=1000010)(P:m.length<=1000010)
  (E:Calls prog 51 #[.pointer (some ⟨B,0,none⟩),.int .i64 r] w (dZ w l))
  (F:∀n,Below w.heap.size w n->Calls prog 51 #[.pointer (some ⟨qb,0,none⟩),.int .i64 (r+1)] n (dZ n m)):
  Calls prog 36 #[.pointer (some ⟨b,0,none⟩)] w (dZ w (l++32::(Rd.sym k++32::m))):=by
 have c0:w.cell? ⟨b,0,none⟩=some (.int .i64 k):=bK h rfl;have c3:w.cell? ⟨b,3,none⟩=some (.pointer (some ⟨B,0,none⟩)):=bK h rfl;have c4:w.cell? ⟨b,4,none⟩=some (.pointer (some ⟨qb,0,none⟩)):=bK h rfl;have g:=eZ h;have J:=aL E;have L:=aL F;clear h E F
 have i:2<=k/\k<=13:=by omega
 have D:=aL (Xf k i);have C:=aL (aIR k (by omega));rw[v]at C
 have y:1<=r/\r<=2:=by rw[<-v];rcases H with rfl|rfl|rfl|rfl<;>decide
 obtain⟨R,S⟩:=y;clear v;generalize j:(⟨(Rd.sym k).toArray⟩:ByteArray)=sy at D
 have q:eC sy (Rd.sym k):=by rw[<-j];exact eC.mk' _
 have z:sy.size<=4:=by rw[q.size];exact Rd.Nr k
 have M:=aL q;clear q j i
 rcases H with rfl|rfl|rfl|rfl
 all_goals
  go_enter func36,ntmps36
  go_wp2_with (go_at_call 53;refine(C.out _).mono ?_;rintro e X⟨rfl,rfl⟩)
  refine(J.out).mono ?_;rintro e n⟨u,rfl,A,a⟩
  have T:u.size<=1000010:=by rw[A.size];exact O
  have d4:=(a.cell (p:=⟨b,4,none⟩) g).trans c4;have N:=aL A;clear A
  go_wp2_with fail
  refine(L.out n a).mono ?_;rintro e Y⟨W,rfl,d,s⟩
  have I:W.size<=1000010:=by rw[d.size];exact P
  have f:Below w.heap.size w Y:=a.trans (s.mono a.size);have d0:=(f.cell (p:=⟨b,0,none⟩) g).trans c0;have o:=aL d;clear d
  go_wp2_with (go_at_call 52;refine(D.out _).mono ?_;rintro e X⟨rfl,rfl⟩)
  go_ret
  exact⟨_,rfl,((((N.out.app (eC.mk' [32])).app M.out).app (eC.mk' [32])).app o.out).to (by simp),f⟩
theorem aJi {t:Rd.Tr}{z:Value}(h:fX w n t z)(d:Rd.Wf t):∃b,z=.pointer (some ⟨b,0,none⟩):=by
 obtain⟨b,a,_⟩:=aKi h d;exact⟨b,a⟩
theorem aOA (z:Nat):∀(t:Rd.Tr) (w:World) (v:Value),Rd.Wf t->(Rd.text t).length<=1000000->fX z w t v->oU w->Calls prog 36 #[v] w (dZ w (Rd.text t)):=by
 intro t
 induction t with
 |nil=>intro w v h;exact h.elim
 |node p q a l r s H=>
  intro w v S d N y;obtain⟨k,x,ts⟩:=a;obtain⟨b,A,I,E,rfl,W,n,D,o,M⟩:=N;simp only at n D
  rcases S with⟨f,g,_⟩|⟨f,_⟩|⟨f,g,u,L,_⟩|⟨f,g,_⟩|⟨f,g,u,_⟩
  ·simp only at f g;subst f;exact aQg b w x g A I E n y
  ·simp only at f
   have e:Rd.text (.node p q (k,x,ts) l r)=Rd.sym k:=by
    rcases f with rfl|rfl<;>rfl
   rw[e];exact aMc b w k f _ A I E n
  ·simp only at f g u L;subst f;exact aTa z b w ts _ A I E n D u L g y
  ·simp only at f;obtain⟨F,rfl⟩:=aJi o g
   by_cases P:k=5
   ·subst P;have e:Rd.text (.node p q (5,x,ts) l r)=45::Rd.nP (decide (Rd.aP (Rd.aS l)<3)) (Rd.text l):=rfl;rw[e]at d ⊢;have i:=Rd.Ks (decide (Rd.aP (Rd.aS l)<3)) (Rd.text l)
    have j:(Rd.text l).length<=1000000:=by
     revert d
     cases decide (Rd.aP (Rd.aS l)<3)<;>simp[Rd.nP]<;>omega
    exact aMd b F w _ _ A E n (by omega) (Yh z l _ 3 w o g j (s w _ g j o y))
   ·have B:k=10\/k=11\/k=12\/k=13:=by omega
    have e:Rd.text (.node p q (k,x,ts) l r)=Rd.sym k++40::(Rd.text l++[41]):=by
     rcases B with rfl|rfl|rfl|rfl<;>rfl
    rw[e]at d ⊢
    have j:(Rd.text l).length<=1000000:=by simp at d;omega
    exact aTb b F w k B _ _ A E n (by omega) (s w _ g j o y)
  ·simp only at f;obtain⟨F,rfl⟩:=aJi o g;obtain⟨qb,rfl⟩:=aJi M u
   have e:Rd.text (.node p q (k,x,ts) l r)=Rd.nP (decide (Rd.aP (Rd.aS l)<Rd.aP k)) (Rd.text l)++32::(Rd.sym k++32::Rd.nP (decide (Rd.aP (Rd.aS r)<Rd.aP k+1)) (Rd.text r)):=by
    rcases f with rfl|rfl|rfl|rfl<;>rfl
   rw[e]at d ⊢;have i:=Rd.Ks (decide (Rd.aP (Rd.aS l)<Rd.aP k)) (Rd.text l);have O:=Rd.Ks (decide (Rd.aP (Rd.aS r)<Rd.aP k+1)) (Rd.text r)
   have T:(Rd.text l).length<=(Rd.nP (decide (Rd.aP (Rd.aS l)<Rd.aP k)) (Rd.text l)).length:=by
    cases decide (Rd.aP (Rd.aS l)<Rd.aP k)<;>simp[Rd.nP]<;>omega
   have U:(Rd.text r).length<=(Rd.nP (decide (Rd.aP (Rd.aS r)<Rd.aP k+1)) (Rd.text r)).length:=by
    cases decide (Rd.aP (Rd.aS r)<Rd.aP k+1)<;>simp[Rd.nP]<;>omega
   have R:(Rd.nP (decide (Rd.aP (Rd.aS l)<Rd.aP k)) (Rd.text l)).length+(Rd.nP (decide (Rd.aP (Rd.aS r)<Rd.aP k+1)) (Rd.text r)).length<=1000000:=by
    simp only[List.length_append,List.length_cons]at d;omega
   refine aTc b F qb w k _ rfl f _ _ _ A n (by omega) (by omega) (Yh z l _ _ w o g (by omega) (s w _ g (by omega) o y)) ?_;intro J i;have C:fX z J r (.pointer (some ⟨qb,0,none⟩)):=fX.aT (aY.eH i) M;exact Yh z r _ _ J C u (by omega) (H J _ u (by omega) C (y.below i))
theorem aEU (B:Nat)(w:World)(t:Rd.Tr)(v:Value)(h:gM B w (some t) v)(j:Rd.Wf t)(d:(Rd.text t).length<=1000000)(i:oU w):Calls prog 19 #[v] w (dZ w (Rd.text t)):=by
 obtain⟨p,q,r,rfl,l,o,a,⟨b,rfl⟩,g⟩:=h;have c0:w.cell? ⟨q,0,none⟩=some (.pointer (some ⟨b,0,none⟩)):=bK a rfl;have k:=aL (aOA p t w _ j d g i);clear g j d i a
 go_enter func19,ntmps19
 go_wp2_with (go_at_call 36;refine(k.out).mono ?_;rintro e s⟨u,rfl,n,f⟩)
 go_ret
 exact⟨_,rfl,n,f⟩
namespace Rd
abbrev Tok:=Int×List UInt8
def dg (c:UInt8):Bool:=isDig (c.toNat:Int)
def lt (c:UInt8):Bool:=isLet (c.toNat:Int)
def an (c:UInt8):Bool:=lt c||dg c
def lU (r:List UInt8):Nat:=((r.take 8).takeWhile dg).length
def jT (r:List UInt8):Nat:=(r.takeWhile an).length
def toksF:Nat->List UInt8->List Tok
 |0,_=>[]
 |_+1,[]=>[]
 |f+1,c::r=>
  bif c==32 then toksF f r
  else bif dg c then(1,c::r.take (lU r))::toksF f (r.drop (lU r))
  else bif lt c then(2,c::r.take (jT r))::toksF f (r.drop (jT r))
  else(3,[c])::toksF f r
def toks (l:List UInt8):List Tok:=toksF (l.length+1) l
theorem aQh:∀(f g:Nat) (l:List UInt8),l.length<f->l.length<g->toksF f l=toksF g l:=by
 intro f
 induction f with
 |zero=>intro g l h;omega
 |succ f e=>
  intro g l b d
  cases g with
  |zero=>omega
  |succ g=>
   cases l with
   |nil=>rfl
   |cons c r=>
    simp only[List.length_cons]at b d
    have a:∀n,toksF f (r.drop n)=toksF g (r.drop n):=fun n=>e g _ (by simp;omega) (by simp;omega)
    have k0:=a 0;simp only[List.drop_zero]at k0;simp only[toksF,k0,a]
theorem aGz (h:A.length<w):toksF w A=toks A:=aQh _ _ _ h (by omega)
theorem Kb:toks []=[]:=rfl
theorem Nk (c:UInt8)(r:List UInt8):toks (c::r)=
  bif c==32 then toks r
  else bif dg c then(1,c::r.take (lU r))::toks (r.drop (lU r))
  else bif lt c then(2,c::r.take (jT r))::toks (r.drop (jT r))
  else(3,[c])::toks r:=by
 have a:∀n,toksF (r.length+1) (r.drop n)=toks (r.drop n):=fun n=>aGz (by simp;omega)
 have k0:=a 0;simp only[List.drop_zero]at k0;simp only[toks,List.length_cons];show toksF (r.length+1+1) (c::r)=_;simp only[toksF];rw[a,a];simp only[k0];rfl
theorem wU {c:UInt8}(h:an c=false)(a:(c==32)=false)(r:List UInt8):toks (c::r)=(3,[c])::toks r:=by
 rw[Nk];simp only[an,Bool.or_eq_false_iff]at h;simp[a,h.1,h.2]
theorem Jz (r:List UInt8):toks (32::r)=toks r:=by rw[Nk];simp
variable {p:UInt8->Bool}{a b:List UInt8}
theorem aEe (d:∀c,b.head?=some c->p c=false):(a++b).takeWhile p=a.takeWhile p:=by
 induction a with
 |nil=>
  cases b with
  |nil=>rfl
  |cons x r=>simp[List.takeWhile,d x rfl]
 |cons x r e=>
  simp only[List.cons_append,List.takeWhile]
  cases p x with
  |true=>simp[e]
  |false=>rfl
theorem aPG (d:∀c,b.head?=some c->dg c=false):lU (a++b)=lU a:=by
 unfold lU;rw[List.take_append];rw[aEe];intro c hc
 cases b with
 |nil=>simp at hc
 |cons x r=>
  cases h:8-a.length with
  |zero=>rw[h]at hc;simp at hc
  |succ n=>rw[h]at hc;simp at hc;exact d c (by simp[hc])
theorem aSu (a:List UInt8):lU a<=a.length:=by
 unfold lU;exact Nat.le_trans ((List.takeWhile_sublist _).length_le) (by simp;omega)
theorem aPD (a:List UInt8):jT a<=a.length:=(List.takeWhile_sublist _).length_le
theorem aQi:∀(n:Nat) (a b:List UInt8),a.length<=n->(∀c,b.head?=some c->an c=false)->toks (a++b)=toks a++toks b:=by
 intro n
 induction n with
 |zero=>intro a b h _;cases a with
  |nil=>simp[Kb]
  |cons x r=>simp at h
 |succ n e=>
  intro a b h d
  cases a with
  |nil=>simp[Kb]
  |cons c r=>
   simp only[List.length_cons]at h
   have k:∀c,b.head?=some c->dg c=false:=fun c hc=>by have:=d c hc;simp[an]at this;exact this.2
   have i:=aPG (a:=r) k
   have j:jT (r++b)=jT r:=by unfold jT;rw[aEe d]
   have f:=aSu r;have g:=aPD r;rw[List.cons_append,Nk,Nk c r,i,j];rw[List.take_append_of_le_length f,List.take_append_of_le_length g,List.drop_append_of_le_length f,List.drop_append_of_le_length g];rw[e r b (by omega) d,e (r.drop (lU r)) b (by simp;omega) d,e (r.drop (jT r)) b (by simp;omega) d]
   cases c==32<;>cases dg c<;>cases lt c<;>simp
theorem uX {c:UInt8}(h:an c=false)(b:List UInt8):toks (a++c::b)=toks a++toks (c::b):=
 aQi _ a (c::b) (Nat.le_refl _) (fun d e=>by simp at e;subst e;exact h)
def dR (w:Wd):Tok:=(w.kind,w.text.data.toList)
theorem Sg (s:ByteArray)(e:Nat)(a:e<s.data.toList.length):aQ s e=((s.data.toList[e]).toNat:Int):=by
 unfold aQ;rw[List.getD_eq_getElem?_getD,List.getElem?_eq_getElem a];rfl
theorem Jv (s:ByteArray):s.data.toList.length=s.size:=Array.length_toList
theorem aJC (s:ByteArray)(a:Nat):∀f e,a<e->e<=a+9->a+9-e<=f->cJ s a f e=e+(((s.data.toList.drop e).take (a+9-e)).takeWhile dg).length:=by
 intro f
 induction f with
 |zero=>
  intro e i j k
  have h:a+9-e=0:=by omega
  simp[cJ,h]
 |succ f n=>
  intro e i j k;unfold cJ
  by_cases b:e<s.size
  ·by_cases d:e-a<9
   ·have g:e<s.data.toList.length:=by simpa using b
    rw[List.drop_eq_getElem_cons g,show a+9-e=(a+9-(e+1))+1 by omega,List.take_succ_cons,List.takeWhile];have l:aQ s e=((s.data.toList[e]).toNat:Int):=Sg s _ g;rw[show dg s.data.toList[e]=isDig (aQ s e) by rw[l];rfl]
    cases o:isDig (aQ s e)with
    |false=>simp
    |true=>
     simp only[b,d,and_self,decide_true,Bool.and_self,cond_true];rw[n (e+1) (by omega) (by omega) (by omega)];simp;omega
   ·have:a+9-e=0:=by omega
    simp[d,this]
  ·have:s.data.toList.drop e=[]:=by rw[List.drop_eq_nil_iff];simpa using b
   simp[b,this]
theorem aIl (s:ByteArray):∀f e,s.size-e<=f->bS s f e=e+((s.data.toList.drop e).takeWhile an).length:=by
 intro f
 induction f with
 |zero=>
  intro e h;have g:=Jv s
  have:s.data.toList.drop e=[]:=by rw[List.drop_eq_nil_iff];omega
  simp[bS,this]
 |succ f i=>
  intro e h;unfold bS
  by_cases a:e<s.size
  ·have b:e<s.data.toList.length:=by simpa using a
   rw[List.drop_eq_getElem_cons b,List.takeWhile];have d:aQ s e=((s.data.toList[e]).toNat:Int):=Sg s _ b;rw[show an s.data.toList[e]=(isLet (aQ s e)||isDig (aQ s e)) by rw[d];rfl]
   cases j:(isLet (aQ s e)||isDig (aQ s e))with
   |false=>simp
   |true=>
    simp only[a,decide_true,Bool.and_self,cond_true];rw[i (e+1) (by omega)];simp;omega
  ·have:s.data.toList.drop e=[]:=by rw[List.drop_eq_nil_iff];simpa using a
   simp[a,this]
theorem aPh (s:ByteArray)(a e:Nat):(s.extract a e).data.toList=(s.data.toList.drop a).take (e-a):=by
 rw[ByteArray.data_extract,Array.toList_extract]
theorem aL4 (s:ByteArray):∀f a,s.size-a<f->(split s f a).map dR=toksF f (s.data.toList.drop a)++[(0,[])]:=by
 intro f
 induction f with
 |zero=>intro a h;omega
 |succ f A=>
  intro a h;have w:=Jv s
  by_cases x:a<s.size
  ·have p:a<s.data.toList.length:=by omega
   have z:=Gz s a;have u:=A (wordEnd s a) (by omega);have o:aQ s a=((s.data.toList[a]).toNat:Int):=Sg s _ p
   have j:isDig (aQ s a)=dg s.data.toList[a]:=by rw[o];rfl
   have q:isLet (aQ s a)=lt s.data.toList[a]:=by rw[o];rfl
   have v:=aJC s a 9 (a+1) (by omega) (by omega) (by omega);have y:=aIl s s.size (a+1) (by omega);rw[show a+9-(a+1)=8 by omega]at v
   have l:(aQ s a != 32)=!(s.data.toList[a]==32):=by
    rw[o]
    by_cases g:s.data.toList[a]=32
    ·rw[g];rfl
    ·have:((s.data.toList[a]).toNat:Int)≠32:=by
      intro B;apply g;apply UInt8.toNat_inj.1;show(s.data.toList[a]).toNat=32;omega
     simp only[bne,beq_eq_false_iff_ne.2 this,beq_eq_false_iff_ne.2 g]
   unfold split toksF;rw[List.drop_eq_getElem_cons p];simp only[x,decide_true,cond_true,l];generalize hc:s.data.toList[a]=c at*
   have d:wordEnd s a=bif dg c then a+1+lU (s.data.toList.drop (a+1))else bif lt c then a+1+jT (s.data.toList.drop (a+1))else a+1:=by
    unfold wordEnd;rw[j,q,v,y];rfl
   have r:∀n,wordEnd s a=a+1+n->(s.extract a (wordEnd s a)).data.toList=c::(s.data.toList.drop (a+1)).take n:=by
    intro n i;rw[aPh,i,List.drop_eq_getElem_cons p,hc,show a+1+n-a=n+1 by omega,List.take_succ_cons]
   have k:∀n,wordEnd s a=a+1+n->s.data.toList.drop (wordEnd s a)=(s.data.toList.drop (a+1)).drop n:=by
    intro n i;rw[i,List.drop_drop]
   cases g:c==32 with
   |true=>
    have:c=32:=by simpa using g
    subst this
    have i:wordEnd s a=a+1+0:=by rw[d];rfl
    simp only[Bool.not_true,cond_false,cond_true];rw[u,k 0 i];rfl
   |false=>
    simp only[Bool.not_false,cond_true,cond_false,List.map_cons,u]
    cases b:dg c with
    |true=>
     rw[b]at d;simp only[cond_true]at d ⊢;rw[k _ d];simp only[dR,r _ d,kindOf,j,b,cond_true,List.cons_append]
    |false=>
     cases e:lt c with
     |true=>
      rw[b,e]at d;simp only[cond_true,cond_false]at d ⊢;rw[k _ d];simp only[dR,r _ d,kindOf,j,b,q,e,cond_true,cond_false,List.cons_append]
     |false=>
      rw[b,e]at d;simp only[cond_false]at d ⊢;rw[k 0 d];simp only[dR,r 0 d,kindOf,j,b,q,e,cond_false,List.cons_append,List.take_zero,List.drop_zero]
  ·have:s.data.toList.drop a=[]:=by rw[List.drop_eq_nil_iff];omega
   unfold split;simp[x,this,toksF,dR]
theorem aMk (s:ByteArray):(split s (s.size+1) 0).map dR=toks s.data.toList++[(0,[])]:=by
 have:=aL4 s (s.size+1) 0 (by omega);rw[List.drop_zero]at this;have a:=Jv s;rw[this,aGz (by omega)]
def qZ (n:Int)(c:UInt8):Int:=bif dg c then n*10+((c.toNat:Int)-48)else n
def uU (l:List UInt8):Int:=l.foldl qZ 0
theorem aMg (t:ByteArray):∀k,k<=t.size->valTo t k=uU (t.data.toList.take k):=by
 intro k
 induction k with
 |zero=>intro _;rfl
 |succ k b=>
  intro h
  have a:k<t.data.toList.length:=by rw[Jv];omega
  rw[List.take_succ_eq_append_getElem a,uU,List.foldl_append];unfold valTo;rw[b (by omega),Sg t k a];rfl
theorem aMf {t:ByteArray}(h:t.data.toList=A):valTo t t.size=uU A:=by
 rw[aMg t t.size (Nat.le_refl _),h,List.take_of_length_le];rw[<-h,Jv];exact Nat.le_refl _
theorem Ss (u:Nat)(h:u<10):dg (UInt8.ofNat (48+u))=true/\((UInt8.ofNat (48+u)).toNat:Int)-48=u:=by
 have a:(UInt8.ofNat (48+u)).toNat=48+u:=by
  rw[UInt8.toNat_ofNat'];omega
 refine⟨?_,by rw[a];omega⟩;unfold dg isDig;rw[a];simp;omega
theorem aQu (u:Nat):uU (Lib.decDigits u)=u:=by
 induction u using Nat.strongRecOn with
 |_ u d=>
  by_cases h:u<10
  ·obtain⟨a,b⟩:=Ss u h;rw[Lib.decDigits_one h];simp only[uU,List.foldl_cons,List.foldl_nil,qZ,a,cond_true,b];omega
  ·obtain⟨a,b⟩:=Ss (u%10) (by omega);rw[Lib.decDigits,dif_neg h,uU,List.foldl_append];have:=d (u/10) (by omega);unfold uU at this;rw[this];simp only[List.foldl_cons,List.foldl_nil,qZ,a,cond_true,b];omega
variable {v:Int}
theorem aJV {t:ByteArray}(h:t.data.toList=dec v)(hv:0<=v):valTo t t.size=v:=by
 rw[aMf h,dec,aQu];omega
theorem aES (u:Nat):∀c∈Lib.decDigits u,dg c=true:=by
 induction u using Nat.strongRecOn with
 |_ u a=>
  intro c hc
  by_cases h:u<10
  ·rw[Lib.decDigits_one h]at hc;rw[List.mem_singleton.1 hc];exact(Ss u h).1
  ·rw[Lib.decDigits,dif_neg h]at hc
   rcases List.mem_append.1 hc with hc|hc
   ·exact a (u/10) (by omega) c hc
   ·rw[List.mem_singleton.1 hc];exact(Ss (u%10) (by omega)).1
theorem aHA (h:∀c∈A,p c=true):A.takeWhile p=A:=by
 induction A with
 |nil=>rfl
 |cons x r a=>
  rw[List.takeWhile,h x (by simp)];rw[a (fun c hc=>h c (by simp[hc]))]
theorem Ha (hv:cU v):toks (dec v)=[(1,dec v)]:=by
 have f:=Cd hv;have i:=aES v.toNat
 have g:1<=(dec v).length:=by rw[dec,Lib.decDigits_length];exact Lib.nDigits_pos _
 cases e:dec v with
 |nil=>rw[e]at g;simp at g
 |cons c r=>
  have a:∀x∈c::r,dg x=true:=by rw[<-e];exact i
  have d:r.length<=8:=by rw[e]at f;simpa using f
  have hc:=a c (by simp)
  have j:lU r=r.length:=by
   unfold lU;rw[List.take_of_length_le d,aHA (fun x k=>a x (by simp[k]))]
  have b:(c==32)=false:=by
   cases h:c==32 with
   |false=>rfl
   |true=>
    have:c=32:=by simpa using h
    subst this;exact absurd hc (by decide)
  rw[Nk,b,hc,j];simp[Kb]
def dD:List Int->List Tok
 | []=>[(3,[93])]
 | [x]=>[(1,dec x),(3,[93])]
 |x::r=>(1,dec x)::(3,[44])::dD r
def uI:List Int->List Tok
 | []=>[]
 |x::r=>(2,[99,102])::(3,[91])::(1,dec x)::(3,[59])::dD r
def aY4 (a:Int×Int×List Int)(x y:List Tok):List Tok:=
 bif a.1==1 then [(1,dec a.2.1)]
 else bif a.1==4 then uI a.2.2
 else bif a.1==5 then(3,[45])::x
 else bif a.1==14 then(3,[40])::(x++[(3,[41])])
 else bif decide (10<=a.1/\a.1<=13)then(2,sym a.1)::x
 else bif decide (6<=a.1/\a.1<=9)then x++(3,sym a.1)::y
 else [(2,sym a.1)]
def tw:Tr->List Tok
 |.nil=>[]
 |.node _ _ a l r=>aY4 a (tw l) (tw r)
def dep:Tr->Nat
 |.nil=>0
 |.node _ _ a l r=>bif a.1==5||a.1==14 then dep l+1 else max (dep l) (dep r)
def ndc:Tr->Nat
 |.nil=>0
 |.node _ _ a l r=>bif a.1==14 then ndc l else ndc l+ndc r+1
def strip:Tr->Tr
 |.nil=>.nil
 |.node p q a l r=>bif a.1==14 then strip l else .node p q a (strip l) (strip r)
def Co (ts:List Int):Prop:=∃x r,ts=x::r/\cU x/\(∀y∈r,cU y/\y≠0)/\1<=r.length/\r.length<=8
def Good:Tr->Prop
 |.nil=>False
 | .node p q a l r=>p=0/\q=0/\(
  (a.1=1/\cU a.2.1/\a.2.2=[]/\l=.nil/\r=.nil)\/
  ((a.1=2\/a.1=3)/\a.2=(0,[])/\l=.nil/\r=.nil)\/
  (a.1=4/\a.2.1=0/\Co a.2.2/\l=.nil/\r=.nil)\/
  (a.1=5/\a.2=(0,[])/\Good l/\3<=aP (aS l)/\r=.nil)\/
  ((a.1=10\/a.1=11\/a.1=12\/a.1=13)/\a.2=(0,[])/\Good l/\aS l=14/\r=.nil)\/
  (a.1=14/\a.2=(0,[])/\Good l/\r=.nil)\/
  ((a.1=6\/a.1=7\/a.1=8\/a.1=9)/\a.2=(0,[])/\Good l/\Good r/\aP a.1<=aP (aS l)/\aP a.1+1<=aP (aS r)))
def Seg (a:List Wd):Nat->List Tok->Prop
 |_,[]=>True
 |i,t::r=>dR (aD a i)=t/\Seg a (i+1) r
theorem Zq {d:List Wd}:∀(a b:List Tok) (i:Nat),Seg d i (a++b)↔Seg d i a/\Seg d (i+a.length) b:=by
 intro a
 induction a with
 |nil=>intro b i;simp[Seg]
 |cons t r e=>
  intro b i;simp only[List.cons_append,Seg,e,List.length_cons,and_assoc];rw[show i+1+r.length=i+(r.length+1) by omega]
variable {k:Int}
theorem qH {a:List Wd}{st:St}(h:dR (aD a st.next)=(k,b))(c:ByteArray):tk a st c=(!(k==0)&&b==c.data.toList):=by
 simp only[dR,Prod.mk.injEq]at h;unfold tk isT;rw[h.1,h.2]
theorem Da {a:List Wd}(h:dR (aD a w)=(k,b)):(aD a w).kind=k:=by
 simp only[dR,Prod.mk.injEq]at h;exact h.1
theorem Kl {ws:List Wd}(h:dR (aD ws w)=(k,b)):(aD ws w).text.data.toList=b:=by
 simp only[dR,Prod.mk.injEq]at h;exact h.2
def NO {d:Type}(a b:Option d):Prop:=a=none\/a=b
theorem NO.refl {b:Type}(a:Option b):NO a a:=Or.inr rfl
theorem NO.no {a:Type}(b:Option a):NO none b:=Or.inl rfl
theorem NO.trans {d:Type}{a b c:Option d}(h:NO a b)(k:NO b c):NO a c:=by
 rcases h with h|h
 ·exact Or.inl h
 ·rw[h];exact k
theorem NO.next {a b:pJ}(h:NO a b)(F:Option Tr->St->pJ):NO (a.next F) (b.next F):=by
 rcases h with h|h
 ·rw[h];exact Or.inl rfl
 ·rw[h];exact Or.inr rfl
def bF (c:Tr)(st:St):St:=⟨st.next+(tw c).length,st.around,max st.deepest (st.around+dep c),st.nodes+ndc c⟩
def pY (a:List Wd)(n:Nat):Prop:=∀st:St,st.next=n->tk a st ⟨#[42]⟩=false/\tk a st ⟨#[47]⟩=false
theorem Zh {d:List Wd}(h:dR (aD d w)=(k,b))(e:b≠[42])(f:b≠[47]):pY d w:=by
 intro st a;subst a;rw[qH h,qH h];simp[e,f]
theorem p1 (d:List Wd)(f:Nat)(l:Tr)(st:St):parse d (f+1) 1 (some l) st=
  bif st.okB then
   bif tk d st ⟨#[43]⟩then(parse d f 2 none st.aN).next fun r a=>(operOf 6 l r a).next fun e b=>parse d f 1 e b
   else bif tk d st ⟨#[45]⟩then(parse d f 2 none st.aN).next fun r a=>(operOf 7 l r a).next fun e b=>parse d f 1 e b
   else some (some l,st)
  else none:=rfl
theorem p3 (d:List Wd)(f:Nat)(l:Tr)(st:St):parse d (f+1) 3 (some l) st=
  bif st.okB then
   bif tk d st ⟨#[42]⟩then(parse d f 4 none st.aN).next fun r a=>(operOf 8 l r a).next fun e b=>parse d f 3 e b
   else bif tk d st ⟨#[47]⟩then(parse d f 4 none st.aN).next fun r a=>(operOf 9 l r a).next fun e b=>parse d f 3 e b
   else some (some l,st)
  else none:=rfl
theorem p4 (b:List Wd)(f:Nat)(st:St):parse b (f+1) 4 none st=
  bif st.okB then
   bif tk b st ⟨#[45]⟩then(parse b f 4 none st.aN.lF).next fun x a=>bif a.fU then dU 5 x a.out else none
   else parse b f 5 none st
  else none:=rfl
theorem p5 (a:List Wd)(f:Nat)(st:St):parse a (f+1) 5 none st=
  bif st.okB then
   bif (aD a st.next).kind==1 then
    (bif st.aN.okB then some (some (dI 1 (valTo (aD a st.next).text (aD a st.next).text.size) []),st.aN.leaf)else none)
   else bif (aD a st.next).kind==2 then nameOf a (named (aD a st.next).text) st (fun b=>parse a f 6 none b)
   else parse a f 6 none st
  else none:=rfl
theorem p6 (a:List Wd)(f:Nat)(st:St):parse a (f+1) 6 none st=
  bif st.okB then
   bif tk a st ⟨#[40]⟩then(parse a f 0 none st.aN.lF).next fun x b=>hY a x b
   else some (none,st)
  else none:=rfl
structure BB (ws:List Wd) (c:Tr):Prop where
 b6:aS c=14->∀f st,Seg ws st.next (tw c)->NO (parse ws f 6 none st) (some (some (strip c),bF c st))
 b5:aP (aS c)=4->∀f st,Seg ws st.next (tw c)->NO (parse ws f 5 none st) (some (some (strip c),bF c st))
 b4:3<=aP (aS c)->∀f st,Seg ws st.next (tw c)->NO (parse ws f 4 none st) (some (some (strip c),bF c st))
 b2:2<=aP (aS c)->∀f st,Seg ws st.next (tw c)->∃f',NO (parse ws f 2 none st) (parse ws f' 3 (some (strip c)) (bF c st))
 b0:∀f st,Seg ws st.next (tw c)->pY ws (bF c st).next->∃f',NO (parse ws f 0 none st) (parse ws f' 1 (some (strip c)) (bF c st))
variable {a:List Wd}
theorem Vo {c:Tr}(h:∀f st,Seg a st.next (tw c)->NO (parse a f 4 none st) (some (some (strip c),bF c st))):
  ∀f st,Seg a st.next (tw c)->∃b,NO (parse a f 2 none st) (parse a b 3 (some (strip c)) (bF c st)):=by
 intro f st d
 cases f with
 |zero=>exact⟨0,NO.no _⟩
 |succ f=>exact⟨f,(h f st d).next _⟩
theorem Gp {t:Tr}{st:St}(h:pY a st.next)(f:Nat):NO (parse a f 3 (some t) st) (some (some t,st)):=by
 cases f with
 |zero=>exact NO.no _
 |succ f=>
  obtain⟨b,d⟩:=h st rfl;rw[p3]
  cases st.okB with
  |false=>exact NO.no _
  |true=>simp only[b,d,cond_true,cond_false];exact NO.refl _
theorem aRG {c:Tr}(h:∀f st,Seg a st.next (tw c)->∃b,NO (parse a f 2 none st) (parse a b 3 (some (strip c)) (bF c st))):
  ∀f st,Seg a st.next (tw c)->pY a (bF c st).next->∃b,NO (parse a f 0 none st) (parse a b 1 (some (strip c)) (bF c st)):=by
 intro f st g e
 cases f with
 |zero=>exact⟨0,NO.no _⟩
 |succ f=>
  obtain⟨b,d⟩:=h f st g;exact⟨f,(d.trans (Gp e b)).next _⟩
variable {r:List Tok}
theorem aRH {c:Tr}(g:tw c=(k,b)::r)(i:b≠[45])(h:∀f st,Seg a st.next (tw c)->NO (parse a f 5 none st) (some (some (strip c),bF c st))):
  ∀f st,Seg a st.next (tw c)->NO (parse a f 4 none st) (some (some (strip c),bF c st)):=by
 intro f st d
 cases f with
 |zero=>exact NO.no _
 |succ f=>
  have e:=h f st d;rw[g]at d
  have j:tk a st ⟨#[45]⟩=false:=by rw[qH d.1];simp[i]
  rw[p4]
  cases st.okB with
  |false=>exact NO.no _
  |true=>simp only[j,cond_true,cond_false];exact e
theorem Og {c:Tr}(g:aS c=14->∀f st,Seg a st.next (tw c)->NO (parse a f 6 none st) (some (some (strip c),bF c st)))(d:tw c=(k,b)::r)(e:b≠[45])(h:∀f st,Seg a st.next (tw c)->NO (parse a f 5 none st) (some (some (strip c),bF c st))):BB a c:=
 ⟨g,fun _=>h,fun _=>aRH d e h,fun _=>Vo (aRH d e h),aRG (Vo (aRH d e h))⟩
theorem aKn (a b:Nat):(bif decide (a<b)then b else a)=max a b:=by
 by_cases h:a<b
 ·simp[h];omega
 ·simp[h];omega
theorem aJ0 (st:St):st.aN.leaf=⟨st.next+1,st.around,max st.deepest st.around,st.nodes+1⟩:=by
 unfold St.leaf St.aN;simp only[aKn]
theorem aSf (st:St):st.leaf=⟨st.next,st.around,max st.deepest st.around,st.nodes+1⟩:=by
 unfold St.leaf;simp only[aKn]
theorem aTx (d:List Wd)(hv:cU v):BB d (dI 1 v []):=by
 refine Og (k:=1) (b:=dec v) (r:=[]) (fun e=>absurd (show(1:Int)=14 from e) (by decide)) rfl ?_ ?_
 ·intro e;have:=aES v.toNat 45 (by rw[show Lib.decDigits v.toNat=dec v from rfl,e];simp);exact absurd this (by decide)
 ·intro f st g;have a:dR (aD d st.next)=(1,dec v):=g.1
  cases f with
  |zero=>exact NO.no _
  |succ f=>
   rw[p5,Da a,aJV (Kl a) hv.1]
   cases st.okB with
   |false=>exact NO.no _
   |true=>
    cases st.aN.okB with
    |false=>exact NO.no _
    |true=>
     right;simp only[cond_true,beq_self_eq_true,aJ0];rfl
theorem aOW (d:List Wd)(a:k=2\/k=3):BB d (dI k 0 []):=by
 refine Og (k:=2) (b:=sym k) (r:=[]) (fun e=>absurd (show k=14 from e) (by omega)) (by rcases a with rfl|rfl<;>rfl) (by rcases a with rfl|rfl<;>decide) ?_;intro f st i
 have g:dR (aD d st.next)=(2,sym k):=by rcases a with rfl|rfl<;>exact i.1
 have h:named (aD d st.next).text=k:=by
  unfold named isT;rw[Kl g]
  rcases a with rfl|rfl<;>rfl
 cases f with
 |zero=>exact NO.no _
 |succ f=>
  rw[p5,Da g,h];unfold nameOf
  cases st.okB with
  |false=>exact NO.no _
  |true=>
   cases st.aN.okB with
   |false=>rcases a with rfl|rfl<;>exact NO.no _
   |true=>
    right;rw[aJ0]
    rcases a with rfl|rfl<;>rfl
end Rd
end Go.Proofs.YtkmojpfpfoaloaaGreatDoor
