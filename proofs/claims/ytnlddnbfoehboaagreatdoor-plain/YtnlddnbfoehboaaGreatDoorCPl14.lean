import Derived.Test.YtnlddnbfoehboaaGreatDoorCPl07
import Derived.Test.YtnlddnbfoehboaaGreatDoorCPl13
import Derived.Test.YtnlddnbfoehboaaGreatDoorCPl08
import Derived.Test.YtnlddnbfoehboaaGreatDoorCPl00
import Derived.Test.YtnlddnbfoehboaaGreatDoorCards
import Derived.Test.YtnlddnbfoehboaaGreatDoorTie
import Derived.Test.YtnlddnbfoehboaaGreatDoorCPl06
import Derived.Test.YtnlddnbfoehboaaGreatDoorCPl01
import Derived.Test.YtnlddnbfoehboaaGreatDoorCPl09
import Derived.LoopN
import Derived.Deep.Slices
import Derived.ChangeSame
import Derived.ProofKit
import Derived.OpenShut
import Derived.WalkKit
import Derived.Carry
import Derived.Deep.DeepHandedRow
import Derived.Lib.LaidTab
import Derived.Stop.LaidErr
set_option linter.all false
set_option maxRecDepth 100000
set_option maxHeartbeats 2000000
namespace Go.Proofs.YtnlddnbfoehboaaGreatDoor
open Option renaming some->Y,none->X
open Bool renaming true->I,false->J
open Nat renaming le_refl->j8,zero_le->j9,add_assoc->o9,le_trans->p5,lt_of_lt_of_le->p6
open Go.Lib renaming decDigits->p8
open List renaming getElem_mem->q8,getElem?_eq_getElem->q9,range->r5,replicate->r7,length_pos_iff->r8,toArray->r9,mem_cons->s7
open Option renaming bind_some->s8,map_eq_some_iff->u5,bind_eq_some_iff->u6
open Go.World renaming ownsRow_nil->u7,holding->u9,size_alloc->x8,setCell->y8
open Go.OpenSpec renaming ofChange->z8,preRow_of_cond->A0
open Go.DataW renaming trod->A4,trod_int->A5
open Or renaming inr->A6
open Rd (bG Wf fix rA dec iS)
open Nm (tz bZ yQ oY)
open Go.Proofs.Tryz
open Go.RowKit
open Go.Deep (BT)
theorem aO5 (j w:World)(c:Nat)(h:List Pr)(d:WInv j w c h):
  Calls prog 21 #[.pointer (Y ⟨c,0,X⟩)] w λe i=>e=.returned (.bool I)/\w=i:=by
 obtain⟨g,k,f,a,b⟩:=d.blk;have c3:w.cell? ⟨c,3,X⟩=Y (.slice X 0 0):=aB a rfl;clear a b d
 go_in
 go_wp2_with fail
 refine wp_loop_rounds 1 ?_;rw[rounds_succ]
 go_wp2_with fail
 go_ret
 exact⟨rfl,rfl⟩
theorem WInv.start (w:World):WInv w (w.alloc (.cells #[.slice X 0 0,.int .i64 0,.int .i64 0,.slice X 0 0] 61)) w.heap.size []:=
 ⟨⟨_,_,_,lE _ _,u7 _ _ _ _⟩,j8 _,(λp a=>by cases a),(Below.refl _ _).alloc (j8 _) _⟩
def Mg (w:World)(l:List Step)(i:Value)(wr:World):Prop:=
 ∃(k:Nat) (a:List Pr),k<=l.length/\i=.int .i64 k/\a.length<=k/\WInv w wr w.heap.size a
theorem aSD (q:kA)(w:World)(v:Value)(l:List Step)(h:ScrAt w v l)(hn:l.length<=1048576)(p:∀x∈l,kJ x)(r:mI w):
  Calls prog 11 #[v] w λe N=>e=.returned (.int .i64 (-1))/\Below w.heap.size w N:=by
 obtain⟨R,y,rfl,T,U,d⟩:=h.sl;have t:=aH r;have u:=aH q;clear r q
 go_in
 go_wp2_with fail
 go_loopw [9] (λi wr=>Mg w l i wr) (λi _=>l.length-(intOf i).toNat)
 case atStart=>exact⟨0,[],j9 _,rfl,j8 _,WInv.start w⟩
 case round=>
  obtain⟨k,M,W,rfl,F,c⟩:=hrel
  by_cases a:k<l.length
  .rcases d with d|⟨b,L,rfl,d⟩
   .rw[d]at a;simp at a
   have n:=cA (h.ok l[k] (q8 a));have o:=cA (p l[k] (q8 a));obtain⟨c0,c1,c2,c3⟩:=d k a;generalize l[k]=x at*;obtain⟨kd,A,B,S⟩:=x;simp only at c0 c1 c2 c3;have d0:=(c.bel.cell (kV c0)).trans c0;have z:=(c.bel.cell (kV c1)).trans c1;have C:=(c.bel.cell (kV c2)).trans c2;have D:=(c.bel.cell (kV c3)).trans c3;have m:=aH c;clear d c0 c1 c2 c3 c
   go_wp2_with fail
   refine(aSf u.out w _ w.heap.size M (kd,A,B,S) m.out t.out O n.out o.out).mono ?_;rintro e P⟨rfl,j,g,s⟩;have f:=aH g;clear g d0 z C D
   go_wp2_with fail
   refine(aO5 w P w.heap.size j f.out).mono ?_;rintro e w2⟨rfl,rfl⟩
   go_wp2_with fail
   go_roundw
   case rel=>exact⟨k+1,j,O,E4,O,f.out⟩
   case measure=>simp[intOf];omega
  .obtain rfl:k=l.length:=O
   have m:=aH c;clear c
   go_wp2_with fail
   go_ret
   exact⟨rfl,m.out.bel⟩
def cS:Rd.Tr->Bool
 |.nil=>J
 |.node _ _ a l r=>decide (10<=a.1)||(cS l||cS r)
theorem aN5:∀(t:Rd.Tr),cS t=J->Ab.Fj t:=by
 intro t
 induction t with
 |nil=>intro _;trivial
 |node _ _ a l r b c=>
  intro h;simp only[cS,Bool.or_eq_false_iff,decide_eq_false_iff_not]at h;exact⟨O,b h.2.1,c h.2.2⟩
variable {v:World}{b:Nat}
theorem aN3 {k:Int}(a:k=10\/k=11\/k=12\/k=13)(h:v.cell? ⟨b,0,X⟩=Y (.string (bG k))):Calls prog 6 #[.pointer (Y ⟨b,0,X⟩)] v λe c=>e=.returned (.bool I)/\c=v:=by
 rcases a with rfl|rfl|rfl|rfl
 all_goals
  simp only[bG]at h
  go_in
  go_wp2_with fail
  go_ret
  exact⟨rfl,rfl⟩
theorem aQ9 {k:Int}(c:1<=k/\k<=4)(h:v.cell? ⟨b,0,X⟩=Y (.string (bG k)))(f:v.cell? ⟨b,6,X⟩=Y (.slice X 0 0)):Calls prog 6 #[.pointer (Y ⟨b,0,X⟩)] v λe d=>e=.returned (.bool J)/\d=v:=by
 have a:k=1\/k=2\/k=3\/k=4:=O
 clear c
 rcases a with rfl|rfl|rfl|rfl
 all_goals
  simp only[bG]at h
  go_in
  go_wp2_with fail
  refine wp_loop_rounds 1 ?_;rw[rounds_succ]
  go_wp2_with fail
  go_ret
  exact⟨rfl,rfl⟩
theorem aQ7 {k c:Nat}{x:Bool}(h:v.cell? ⟨b,0,X⟩=Y (.string (bG 5)))(i:v.cell? ⟨b,6,X⟩=Y (.slice (Y ⟨k,0,X⟩) 1 1))(f:v.cell? ⟨k,0,X⟩=Y (.pointer (Y ⟨c,0,X⟩)))(d:Calls prog 6 #[.pointer (Y ⟨c,0,X⟩)] v λe a=>e=.returned (.bool x)/\a=v):Calls prog 6 #[.pointer (Y ⟨b,0,X⟩)] v λe a=>e=.returned (.bool x)/\a=v:=by
 have HC:=hid d;clear d;simp only[bG]at h
 go_in
 go_wp2_with fail
 refine wp_loop_rounds 2 ?_;rw[rounds_succ]
 go_wp2_with fail
 refine HC.out.mono ?_;rintro e a⟨rfl,rfl⟩;cases x
 .go_wp2_with fail
  rw[rounds_succ]
  go_wp2_with fail
  go_ret
  exact⟨rfl,rfl⟩
 .go_wp2_with fail
  go_ret
  exact⟨rfl,rfl⟩
theorem aQ8 {g c d:Nat}{k:Int}{x y:Bool}(l:k=6\/k=7\/k=8\/k=9)(h:v.cell? ⟨b,0,X⟩=Y (.string (bG k)))(o:v.cell? ⟨b,6,X⟩=Y (.slice (Y ⟨g,0,X⟩) 2 2))(m:v.cell? ⟨g,0,X⟩=Y (.pointer (Y ⟨c,0,X⟩)))(n:v.cell? ⟨g,1,X⟩=Y (.pointer (Y ⟨d,0,X⟩)))(f:Calls prog 6 #[.pointer (Y ⟨c,0,X⟩)] v λe a=>e=.returned (.bool x)/\a=v)(i:Calls prog 6 #[.pointer (Y ⟨d,0,X⟩)] v λe a=>e=.returned (.bool y)/\a=v):Calls prog 6 #[.pointer (Y ⟨b,0,X⟩)] v λe a=>e=.returned (.bool (x||y))/\a=v:=by
 have HC:=hid f;have j:=hid i;clear f i
 rcases l with rfl|rfl|rfl|rfl
 all_goals
  simp only[bG]at h
  go_in
  go_wp2_with fail
  refine wp_loop_rounds 3 ?_;rw[rounds_succ]
  go_wp2_with fail
  refine HC.out.mono ?_;rintro e a⟨rfl,rfl⟩;cases x
  .go_wp2_with fail
   rw[rounds_succ]
   go_wp2_with fail
   refine j.out.mono ?_;rintro e a⟨rfl,rfl⟩;cases y
   .go_wp2_with fail
    rw[rounds_succ]
    go_wp2_with fail
    go_ret
    exact⟨rfl,rfl⟩
   .go_wp2_with fail
    go_ret
    exact⟨rfl,rfl⟩
  .go_wp2_with fail
   go_ret
   exact⟨rfl,rfl⟩
variable {w:Nat}
theorem aN4:∀(T:Rd.Tr) {f:Value},REnc w v T f->Wf T->Calls prog 6 #[f] v λe x=>e=.returned (.bool (cS T))/\x=v:=by
 intro T
 induction T with
 |nil=>intro f h;exact h.elim
 |node n1 n2 a l r o u=>
  intro f h C;obtain⟨b,D,F,L,A,rfl,_,y,_,_,t⟩:=h;have c0:v.cell? ⟨b,0,X⟩=Y (.string (bG a.1)):=aB y rfl;have s:v.cell? ⟨b,6,X⟩=Y A:=aB y rfl
  have leaf:l=.nil->r=.nil->1<=a.1/\a.1<=4->Calls prog 6 #[.pointer (Y ⟨b,0,X⟩)] v λe x=>e=.returned (.bool (cS (.node n1 n2 a l r)))/\x=v:=by
   intro g i hk;subst g i
   have:A=.slice X 0 0:=by
    rcases t with⟨_,_,h⟩|⟨_,p,q,_,_,_,h⟩|⟨p,q,B,_,_,_,h,_⟩
    .exact h
    .exact h.elim
    .exact h.elim
   subst this
   have e:cS (.node n1 n2 a .nil .nil)=J:=by simp[cS];omega
   rw[e];exact aQ9 hk c0 s
  rcases C with⟨hk,_,_,g,i⟩|⟨hk,_,_,g,i⟩|⟨hk,_,_,_,_,g,i⟩|⟨hk,j,_,i⟩|⟨hk,j,m,_⟩
  .exact leaf g i O
  .exact leaf g i O
  .exact leaf g i O
  .rcases hk with hk|hk
   .subst i
    rcases t with⟨g,_⟩|⟨_,p,q,rfl,_,k,n⟩|⟨p,q,B,_,_,_,_,h⟩
    .subst g;exact j.elim
    .obtain⟨c,rfl⟩:=n.ptr
     have e:cS (.node n1 n2 a l .nil)=cS l:=by simp[cS];omega
     rw[e];rw[hk]at c0;exact aQ7 c0 s (aB k rfl) (o n j)
    .exact h.elim
   .have e:cS (.node n1 n2 a l r)=I:=by simp[cS];omega
    rw[e];exact aN3 hk c0
  .rcases t with⟨g,_⟩|⟨i,_⟩|⟨p,q,B,rfl,_,k,n,z⟩
   .subst g;exact j.elim
   .subst i;exact m.elim
   .obtain⟨c,rfl⟩:=n.ptr;obtain⟨d,rfl⟩:=z.ptr
    have e:cS (.node n1 n2 a l r)=(cS l||cS r):=by
     have:decide (10<=a.1)=J:=decide_eq_false O;simp[cS,this]
    rw[e];exact aQ8 hk c0 s (aB k rfl) (aB k rfl) (o n j) (u z m)
def yI (x:Step):Prop:=iV x/\(x.1=1->yH x.2.2.2)
def Df (w:World)(l:List Step)(v i:Value)(wr:World):Prop:=
 ∃(k:Nat) (a:List Step),k<=l.length/\i=.int .i64 k/\a.length<=k/\wr.ownsRow w.heap.size 25 4 v a.length (dR a)/\(∀x∈a,yI x)/\Below w.heap.size w wr
theorem aHF {wr L:World}{l d:List Step}{k:Nat}{z c:Value}{x:Step}{o:Obj}(h:d.length<=k)(i:k<l.length)(f:wr.ownsRow v.heap.size 25 4 z d.length (dR d))(e:∀x∈d,yI x)
  (a:Below v.heap.size v wr) (j:yI x)
  (b:L.ownsRow v.heap.size 25 4 c (d.length+1) (dR d++[.int .i64 x.1,.int .i64 x.2.1,.int .i64 x.2.2.1,.string x.2.2.2])) (g:(wr.alloc o).grownBy L z.ownBlock):
  Df v l c (.int .i64 (k+1)) L:=by
 refine⟨k+1,d++[x],O,E4,by simp;omega,?_,?_,qT f a a.size o g⟩
 .rw[List.length_append,aEr];exact b
 .intro y hy
  rcases List.mem_append.1 hy with hy|hy
  .exact e y hy
  .rw[List.mem_singleton.1 hy];exact j
theorem aPL (HA:kA)(w:World)(v:Value)(l:List Step)(h:ScrAt w v l)(hT:mI w):Calls prog 3 #[v] w (sM w):=by
 have S:=cA (aI5 w v l h);obtain⟨ao,a0,rfl,h1,h2,P⟩:=h.sl;obtain⟨i,hi,hz,q,M⟩:=info_parts Cj;have KK:=aH HA;have HT:=aH hT;clear HA hT
 go_in
 go_wp2_with fail
 refine(S.out).mono ?_;rintro e w1⟨b,rfl,L,rfl⟩;cases b
 .go_wp2_with fail
  go_ret
  exact⟨rfl,Below.refl _ _⟩
 .have hn:=L rfl;clear L
  go_wp2_with fail
  go_loopw [3,13] (λv i wr=>Df w l v i wr) (λ_ i _=>l.length-(intOf i).toNat)
  case atStart=>exact⟨0,[],j9 _,rfl,j8 _,u7 _ _ _ _,(λx D=>by cases D),Below.refl _ _⟩
  case round=>
   obtain⟨k,ls,hk,rfl,N,n,m,f⟩:=hrel;obtain⟨az,bb,a2,rfl⟩:=Ra n
   by_cases o:k<l.length
   .rcases P with P|⟨b,bc,rfl,P⟩
    .rw[P]at o;simp at o
    have z:=cA (h.ok l[k] (q8 o));obtain⟨c0,c1,c2,c3⟩:=P k o;generalize l[k]=x at*;obtain⟨kd,A,B,S⟩:=x;simp only at c0 c1 c2 c3;have a7:=f.size;have d0:=(f.cell (kV c0)).trans c0;have d1:=(f.cell (kV c1)).trans c1;have d2:=(f.cell (kV c2)).trans c2;have d3:=(f.cell (kV c3)).trans c3;clear P
    by_cases q1:kd=1
    .subst q1;obtain⟨x,D,hR⟩:=Wy S wr z.out.s;have RR:=aH hR;have F:=aH D;clear hR D
     go_wp2_with fail
     refine RR.out.mono ?_;rintro e w2⟨sb,v2,rfl,_,r,T⟩;have c:=f.trans (T.mono f.size);have j:=Wv n T;have ba:=c.size;have g0:=(c.cell (kV c0)).trans c0;have g1:=(c.cell (kV c1)).trans c1;have g2:=(c.cell (kV c2)).trans c2;have g3:=(c.cell (kV c3)).trans c3;clear d0 d1 d2 d3 c0 c1 c2 c3
     rcases aKg F.out with⟨j1,j2⟩|⟨t,rfl⟩
     .obtain⟨t,er,pl⟩:=x;simp only at j1 j2 r;subst j1
      have e0:(er==0)=J:=by simpa using j2
      have R:=aH (show yI (1,A,B,S)from⟨z.out,λ_ t' e p hr=>by have:=F.out;rw[hr]at this;cases this⟩);rw[show v2=Value.pointer X from r];clear r RR F
      go_wp2_with (at_builtin;(refine wpList_append_own _ rfl _ _ 22 rfl w.heap.size 25 i (.agg #[.int .i64 0,.int .i64 0,.int .i64 0,.string ⟨#[]⟩]) 4 40 underlying22 hi hz q M rfl E3 _ _ _ rfl (j.alloc _) ⟨w2.heap.size,0,X⟩ 1 1 [.int .i64 1,.int .i64 A,.int .i64 B,.string S] rfl rfl (Vs _ _ _ _ _ _) (by intro u C;simp at C;rcases C with rfl|rfl|rfl|rfl<;>rfl) (by unfold maxLen;omega) O (by simp;omega) ?_;intro v' w3 d a g;have y:=cA (aHF N o j m c R.out d a);clear d a g))
      go_roundw
      case rel=>exact y.out
      case measure=>simp[intOf];omega
     .obtain⟨mb,rfl⟩:=REnc.ptr r;have CO:=aH (aN4 t r (Rd.aLH (aHT S (S.size+1) 0) F.out).1);clear r RR
      go_wp2_with fail
      refine CO.out.mono ?_;rintro e w2⟨rfl,rfl⟩;cases U:cS t
      .have R:=aH (show yI (1,A,B,S) from ⟨z.out,λ_ t' e p hr=>by
        have:=F.out;rw[hr]at this;cases this
        exact aN5 _ U⟩)
       clear CO F
       go_wp2_with (at_builtin;(refine wpList_append_own _ rfl _ _ 22 rfl w.heap.size 25 i (.agg #[.int .i64 0,.int .i64 0,.int .i64 0,.string ⟨#[]⟩]) 4 40 underlying22 hi hz q M rfl E3 _ _ _ rfl (j.alloc _) ⟨w2.heap.size,0,X⟩ 1 1 [.int .i64 1,.int .i64 A,.int .i64 B,.string S] rfl rfl (Vs _ _ _ _ _ _) (by intro u C;simp at C;rcases C with rfl|rfl|rfl|rfl<;>rfl) (by unfold maxLen;omega) O (by simp;omega) ?_;intro v' w3 d a g;have y:=cA (aHF N o j m c R.out d a);clear d a g))
       go_roundw
       case rel=>exact y.out
       case measure=>simp[intOf];omega
      .clear CO F
       go_wp2_with fail
       go_roundw
       case rel=>exact⟨k+1,ls,O,E4,O,j,m,c⟩
       case measure=>simp[intOf];omega
    .have e1:(kd==1)=J:=by simpa using q1
     have R:yI (kd,A,B,S):=⟨z.out,λe=>absurd e q1⟩
     go_wp2_with (at_builtin;(refine wpList_append_own _ rfl _ _ 22 rfl w.heap.size 25 i (.agg #[.int .i64 0,.int .i64 0,.int .i64 0,.string ⟨#[]⟩]) 4 40 underlying22 hi hz q M rfl E3 _ _ _ rfl (n.alloc _) ⟨wr.heap.size,0,X⟩ 1 1 [.int .i64 kd,.int .i64 A,.int .i64 B,.string S] rfl rfl (Vs _ _ _ _ _ _) (by intro u C;simp at C;rcases C with rfl|rfl|rfl|rfl<;>rfl) (by unfold maxLen;omega) O (by simp;omega) ?_;intro v' w3 d a g;have y:=cA (aHF N o n m f R d a);clear d a g))
     go_roundw
     case rel=>exact y.out
     case measure=>simp[intOf];omega
   .obtain rfl:k=l.length:=O
    have a1:=(Below.refl wr.heap.size wr).alloc (j8 _) (.cells #[.int .i64 4,.int .i64 5] 3);have e1:=f.trans (a1.mono f.size);have W:=aPH (n.alloc (.cells #[.int .i64 4,.int .i64 5] 3)) O (λx D=>(m x D).1);have PL:=aH (aPO (wr.alloc (.cells #[.int .i64 4,.int .i64 5] 3)) _ ls wr.heap.size W (λx D=>(m x D).2) (aB (lE _ _) rfl) (aB (lE _ _) rfl) (λw1 v1 ls hs hn hp L=>aSD KK.out w1 v1 ls hs hn hp (Lib.tabBelow_of_tabIs HT.out w1 (e1.trans (L.mono e1.size)))));clear W
    go_wp2_with fail
    refine(PL.out).mono ?_;rintro e w2⟨rfl,L⟩;have HB:=aH L;clear L
    go_wp2_with fail
    go_ret
    exact⟨rfl,e1.trans (HB.out.mono e1.size)⟩
open Go.ChangeShapes Go.WideShapes Go.RowKit
open Go.Deep (open_slice choose_lt add_add)
theorem Uj:(prog.underlying 25).map (λt=>match t with|.struct a=>a.toList.map (λf=>(f.offset,f.type))|_=>[])=Y [(0,3),(1,3),(2,3),(3,9)]:=E0
theorem Hg:prog.cellsOf 25=4:=E0
theorem oA:prog.cellsOf 3=1:=E0
theorem tX:prog.cellsOf 9=1:=E0
theorem Dc:∃a,prog.underlying 25=Y (.struct a)/\a.toList.map (λf=>(f.offset,f.type))=[(0,3),(1,3),(2,3),(3,9)]:=by
 simp_all
section
variable {Hy:Type} {enc:TypeId×Value->Hy} {w:World} {base:Nat} {spare:Nat->Bool} {held:Bool}
theorem aUZ {n:Nat}{cs:PH}{x:DataW Hy×List MemPlace}(h:A4 enc prog w base spare held n 25 cs=Y x):
  ∃s:Step,cs=[.int .i64 s.1,.int .i64 s.2.1,.int .i64 s.2.2.1,.string s.2.2.2]/\iV s:=by
 have⟨fs,he,hfs⟩:=Dc;have⟨xs,k,_,_,hlen,hxl,hf⟩:=DataW.trod_struct he h
 match cs,hlen with
 | [q,r,u,v],_=>
  have m:fs.size=4:=by
   have:=congrArg List.length hfs
   simpa using this
  have d:∀(j:Nat) (o:Nat) (t:TypeId),[(0,3),(1,3),(2,3),(3,9)][j]?=Y (o,t)->∃f,fs[j]?=Y f/\f.offset=o/\f.type=t:=by
   grind
  have val:∀j:Nat,j<4->∃y,xs[j]?=Y y:=λj p=>⟨xs[j],q9 O⟩
  have⟨f0,g0,o0,t0⟩:=d 0 0 3 rfl;have⟨f1,g1,o1,t1⟩:=d 1 1 3 rfl;have⟨f2,g2,o2,t2⟩:=d 2 2 3 rfl;have⟨f3,g3,o3,t3⟩:=d 3 3 9 rfl;have⟨y0,e0⟩:=val 0 O;have⟨y1,e1⟩:=val 1 O;have⟨y2,e2⟩:=val 2 O;have⟨y3,e3⟩:=val 3 O;have k0:=hf 0 f0 g0;have k1:=hf 1 f1 g1;have k2:=hf 2 f2 g2;have l:=hf 3 f3 g3;rw[o0,t0,oA,e0]at k0;rw[o1,t1,oA,e1]at k1;rw[o2,t2,oA,e2]at k2;rw[o3,t3,tX,e3]at l;have⟨a,ea,_,wa⟩:=A5 underlying3 k0;have⟨b,eb,_,wb⟩:=A5 underlying3 k1;have⟨c,ec,_,wc⟩:=A5 underlying3 k2;have⟨s,es,_,ws⟩:=DataW.trod_string underlying9 l;simp at ea eb ec es;subst ea eb ec es;have e:=bounds_i64 wa;have g:=bounds_i64 wb;have i:=bounds_i64 wc;exact⟨(a,b,c,s),rfl,⟨e.1,e.2,g.1,g.2,i.1,i.2,ws⟩⟩
theorem aRP {n:Nat}{v:Value}{x:DataW Hy×List MemPlace}(h:A4 enc prog w base spare held n 22 [v]=Y x):∃l,ScrAt w v l:=by
 rcases open_slice underlying22 h with⟨e,_⟩|⟨a,len,p,m,k,D,M,e,N,B,F,r,_,y⟩
 .simp at e;subst e;exact⟨[],⟨X,0,rfl,j8 _,j9 _,Or.inl rfl⟩,λx y=>by cases y⟩
 .simp at e;subst e
  have C:len<=m:=by rw[r];split<;>omega
  have g:∀i,i<len->∃s:Step,iV s/\∀j u,[Value.int .i64 s.1,.int .i64 s.2.1,.int .i64 s.2.2.1,.string s.2.2.2][j]?=Y u->w.cell? (a.add (i*4+j))=Y u:=by
   intro i hi;have⟨cs',h1,h2⟩:=y i O;rw[Hg]at h1;have⟨_,c,hcell⟩:=World.cells?_some h1;obtain⟨s,rfl,t⟩:=aUZ h2;refine⟨s,t,λj u A=>?_⟩;rw[<-add_add,hcell j ((List.getElem?_eq_some_iff.1 A).1)];exact A
  have⟨f,hf⟩:=choose_lt g
  have c:((r5 len).map f).length=len:=E4
  refine⟨(r5 len).map f,⟨Y a,p,by rw[c],by rw[c];exact B,F,?_⟩,?_⟩
  .rcases Nat.eq_zero_or_pos len with h0|h0
   .grind
   .right;obtain⟨b,z,o⟩:=a
    have d:o=X:=by simpa[Addr.add]using World.cell?_spot ((hf 0 h0).2 0 _ rfl)
    subst d;refine⟨b,z,rfl,λi hi=>?_⟩;rw[c]at hi;have q:=(hf i hi).2;refine⟨?_,?_,?_,?_⟩
    .simpa[add_plain]using q 0 _ rfl
    .simpa[add_plain,o9]using q 1 _ rfl
    .simpa[add_plain,o9]using q 2 _ rfl
    .simpa[add_plain,o9]using q 3 _ rfl
  .intro s L;obtain⟨i,hi,rfl⟩:=List.mem_map.1 L;exact(hf i (List.mem_range.1 hi)).1
end
open Go.ChangeShapes Go.WideShapes Go.ChangeAt Go.RowKit
theorem Um:laidOutB prog=I:=E0
theorem My:mapsRowed prog=I:=E0
theorem Hj:prog.stopsHeard=I:=E0
theorem Hi:prog.mayEnter=I:=E0
theorem Mw:(Rows.plainRow.lifted==prog.liftsFinal)=I:=E0
theorem Mv:(Rows.plainRow.plainKeys==prog.plainKeys)=I:=E0
theorem Mx:(prog.make==Y Rows.plainRow.make)=I:=E0
theorem Gu:(Rows.plainRow.inPlace==prog.inPlace 3)=I:=E0
theorem Cn:(Rows.plainRow.unfollowed==prog.unfollowed 3)=I:=E0
theorem Tn:(Rows.plainRow.recurses==prog.recurses 3)=I:=E0
theorem Gt:(Rows.plainRow.named==prog.varsNamed 3)=I:=E0
theorem jfPlain:joinedFacts prog 3 Tryz.f3 (z8 Rows.plainSpec).bare Rows.plainRow=I:=by
 unfold joinedFacts;rw[Um,My,Hj,Hi,Mw,Mv,Mx,Gu,Cn,Tn,Gt];kernel_rfl
theorem own:ownKnob prog.godebug=X:=E0
theorem laidOut:laidOutB prog=I:=E0
theorem bBy:prog.globalNamed "internal/strconv.uint64pow10"=Y 0:=E0
theorem Ch:(prog.globals[0]?).map (·.type)=Y 298:=E0
theorem Dz:prog.underlying 298=Y (.array 20 237):=E0
theorem Dy:prog.cellsOf 298=20:=E0
theorem Ed:prog.cellsOf 237=1:=E0
theorem Ee:prog.underlying 237=Y (.int .u64):=E0
theorem wH (h:laidMetH prog Rows.plainRow.laid v):mI v:=
 Lib.tabIs_of_head (rest:=[]) bBy Ch Dz Ee Ed Dy (laidMet.tail (laidMet.tail h))
theorem pL (y:kA)(a:Type)(d:TypeId×Value->a)(W:World)(base:Nat)(args:Array Value)(o z:List (DataW a))(b:List MemPlace)
  (c:∀(j:Nat) t v,Tryz.f3.params[j]?=Y t->args[j]?=Y v->Value.okWide prog W .any base t v)
  (u:DataW.Whole d prog Tryz.f3.params.toList Rows.plainSpec.vars J W args.toList o z b) (A:laidMetH prog Rows.plainRow.laid W):
  Calls prog 3 args W λe n=>∃v,e=.returned v/\Rows.plainSpec.post d prog Tryz.f3 J I J J W args v n:=by
 have f:=u;obtain⟨p,q,g,B,rfl,F,M⟩:=u;have s:DataW.TrodAll d prog W 0 (λ_=>I) I Tryz.f3.params.toList args.toList o p:=g;rw[params3]at s c;obtain⟨P,d0,rfl,rfl,r⟩:=trodAll_one s;obtain⟨rfl,rfl⟩:=trodVars_none B;obtain⟨a0,len,i,rfl⟩:=okWide_slice underlying22 (c 0 22 P rfl rfl);have k:=r;obtain⟨fuel,D⟩:=r;clear g;simp only[List.append_nil]at f
 have m:∀x∈p,x.block<W.heap.size:=λx N=>by simpa using f.lt x N
 obtain⟨l,L⟩:=aRP (v:=.slice a0 len i) D
 refine(aPL y W _ l L (wH A)).mono λe n ⟨C,w⟩=>?_
 subst C;exact⟨_,rfl,_,_,_,[],p,[],f,trodAll_mk1 (shut_bool underlying4 _),trodAll_mk1 (Below.trod laidOut E0 (of_decide_eq_true E0) k w m),rfl,w.frame _,λh=>by cases h⟩
def putCells (a:Array Value):Obj->Obj
 |.cells _ t f=>.cells a t f
 |o=>o
def rQ (w:World):World:=
 {w with heap:=((w.heap.modify 0 (putCells #[.int .u64 1,.int .u64 10,.int .u64 100,.int .u64 1000,.int .u64 10000,.int .u64 100000,.int .u64 1000000,.int .u64 10000000,.int .u64 100000000,.int .u64 1000000000,.int .u64 10000000000,.int .u64 100000000000,.int .u64 1000000000000,.int .u64 10000000000000,.int .u64 100000000000000,.int .u64 1000000000000000,.int .u64 10000000000000000,.int .u64 100000000000000000,.int .u64 1000000000000000000,.int .u64 10000000000000000000])).modify 1 (putCells #[.int .u8 0,.int .u8 1,.int .u8 28,.int .u8 2,.int .u8 29,.int .u8 14,.int .u8 24,.int .u8 3,.int .u8 30,.int .u8 22,.int .u8 20,.int .u8 15,.int .u8 25,.int .u8 17,.int .u8 4,.int .u8 8,.int .u8 31,.int .u8 27,.int .u8 13,.int .u8 23,.int .u8 21,.int .u8 19,.int .u8 16,.int .u8 7,.int .u8 26,.int .u8 12,.int .u8 18,.int .u8 6,.int .u8 11,.int .u8 5,.int .u8 10,.int .u8 9])).modify 2 (putCells #[.int .u8 0,.int .u8 1,.int .u8 56,.int .u8 2,.int .u8 57,.int .u8 49,.int .u8 28,.int .u8 3,.int .u8 61,.int .u8 58,.int .u8 42,.int .u8 50,.int .u8 38,.int .u8 29,.int .u8 17,.int .u8 4,.int .u8 62,.int .u8 47,.int .u8 59,.int .u8 36,.int .u8 45,.int .u8 43,.int .u8 51,.int .u8 22,.int .u8 53,.int .u8 39,.int .u8 33,.int .u8 30,.int .u8 24,.int .u8 18,.int .u8 12,.int .u8 5,.int .u8 63,.int .u8 55,.int .u8 48,.int .u8 27,.int .u8 60,.int .u8 41,.int .u8 37,.int .u8 16,.int .u8 46,.int .u8 35,.int .u8 44,.int .u8 21,.int .u8 52,.int .u8 32,.int .u8 23,.int .u8 11,.int .u8 54,.int .u8 26,.int .u8 40,.int .u8 15,.int .u8 34,.int .u8 20,.int .u8 31,.int .u8 10,.int .u8 25,.int .u8 14,.int .u8 19,.int .u8 9,.int .u8 13,.int .u8 8,.int .u8 7,.int .u8 6])}
theorem rP (os:Os):laidMet prog Rows.plainRow.laid ((rQ (u9 prog os ⟨#[],#[],[]⟩)).forCall (λ_ _=>0) ⟨#[],#[.slice X 0 0],[]⟩).memory:=
 laidMet_of_run' 8 E0 E0
theorem Eg (os:Os){a:Type}(c:TypeId×Value->a):∃b,DataW.whole c prog ((rQ (u9 prog os ⟨#[],#[],[]⟩)).forCall (λ_ _=>0) ⟨#[],#[.slice X 0 0],[]⟩).memory Tryz.f3.params.toList Rows.plainSpec.vars J #[Value.slice X 0 0].toList 8=Y ([.nil],[],b):=
 ⟨[],E0⟩
theorem tI (g:kA)(os:Os)(c:os.Started)(a:Type)(b:TypeId×Value->a)(F:Stop.Interp):
  ReturnsInHanded {} Tryz.checked os 3 .any ((z8 Rows.plainSpec).preRow b prog Tryz.f3 Rows.plainRow.domain J Rows.plainRow.laid) (((z8 Rows.plainSpec).at F).post b prog Tryz.f3 J I J J):=by
 obtain⟨f,n⟩:=Eg os b
 refine returnsInHanded_of_row (C:=Tryz.checked) (s:=z8 Rows.plainSpec) own c E0 func3
  (witness_row_at (enc:=b) (C:=Tryz.checked) J (rQ (u9 prog os ⟨#[],#[],[]⟩)) #[.slice X 0 0] rfl E0 E0 E0
   (A0 8 n E0 (λk m=>by cases m) E0 (rP os))) ?_
 intro W base args h i d e l _ _ _ j _ _;exact pL g a b W base args h i d e l j
theorem zN (d:kA):Rows.PlainSaid:=
 OpenClaim.holds_of_cond 3 Tryz.f3 rfl rfl rfl rfl rfl rfl rfl ⟨rfl,rfl,rfl,rfl,rfl⟩ rfl rfl rfl rfl rfl E0 func3 jfPlain
  (of_decide_eq_true E0) (by unfold Func.isWrapper;first|(rw[if_pos (by decide +kernel)];kernel_rfl)|(rw[if_neg (by decide +kernel)];exact⟨rfl,rfl⟩))
  (λos b a c _ F=>by rw[OpenClaim.pre_eq_preRow];exact tI d os b a c F)
theorem wC (f:FuncId)(fn:Func)(hf:Tryz.pinned.checked.prog.funcNamed "reals/realslaw.Plain"=Y f)(hfn:Tryz.pinned.checked.prog.funcs[f]?=Y fn):
  J=Tryz.pinned.checked.prog.looks []/\∀(j:Nat) t,fn.params[j]?=Y t->Tryz.pinned.checked.prog.wantsStandIn t=J:=by
 obtain rfl:f=3:=Option.some.inj ((show prog.funcNamed "reals/realslaw.Plain"=Y 3 by kernel_rfl).symm.trans hf) |>.symm
 obtain rfl:fn=Tryz.f3:=(Option.some.inj (func3.symm.trans hfn)).symm;refine⟨E0,λj t ht=>?_⟩;rw[params3]at ht
 obtain rfl:t=22:=by simpa using Array.mem_of_getElem? ht
 exact(show prog.wantsStandIn 22=J by kernel_rfl)
theorem aIO (a:kA):Rows.PlainCardSaid:=
 Claim7.holds_tied_plain_at .later [] _ _ _ _ (zN a) (λ_ h=>by cases h) E0 (λ_ h=>by cases h) plain_row_tie rfl ⟨rfl,rfl⟩ E0 rfl wC E0
namespace Ab
def gX (s:Int):Int:=bif s==2 then -1 else bif s==3 then 1 else bif s==4 then 1 else bif s==5 then 1 else bif s==6 then 3 else bif s==7 then 2 else 1
def gY (s:Int):Int:=bif s==2 then 0 else bif s==3 then -1 else bif s==4 then 1 else bif s==5 then 0 else bif s==6 then 1 else bif s==7 then 1 else 0
def gZ (s:Int):Int:=bif s==2 then 0 else bif s==3 then 1 else bif s==4 then -1 else bif s==5 then 1 else bif s==6 then 1 else bif s==7 then 0 else 0
def hX (s:Int):Int:=bif s==2 then 1 else bif s==3 then 1 else bif s==4 then 1 else bif s==5 then 2 else bif s==6 then 3 else bif s==7 then 1 else 1
def Cd:List G->Option RG
 | [.i .i64 s]=>Y (.one (.ns [gX s,gY s,gZ s,hX s]))
 |_=>X
theorem aND:bD Z 59 (eF I Cd aS 1 [0]):=eU Sj (aZ func59 rfl rfl) λ_ _ h=>by
 unfold Cd at h
 split at h<;>cases h
 kernel_rfl
def vN:List G->Option RG
 | [.ns [a,b,c,d],.ns [e,f,g,h]]=>Y (.one (.ns [a*e+b*g,a*f+b*h,c*e+d*g,c*f+d*h]))
 |_=>X
theorem aKF:bD Z 58 (eF I vN aS 7 [3,3]):=eU Sj (aZ func58 rfl rfl) λ_ _ h=>by
 unfold vN at h
 split at h<;>cases h
 kernel_rfl
noncomputable def tM:List (FuncId×TE):=(59,eF I Cd aS 1 [0])::(58,eF I vN aS 7 [3,3])::tM0
theorem aSl:cK Z tM:=⟨aND,aKF,Sj⟩
def xH:List Int->Option (List Int)
 | [p,q]=>Y [p,q]
 |_=>X
theorem aU6:bD Z 214 (uQ I xH):=by
 refine uB aSl (aZ func214 rfl rfl) ?_ ?_
 .intro c out h;unfold xH at h;split at h
  .rename_i p q;cases h;exact⟨[p.natAbs<1000000000000000000,q.natAbs<1000000000000000000],E0,λh=>by simp at h;exact iR h.1 (iR h.2 fX)⟩
  .cases h
 .intro c out h b;unfold xH at h;split at h
  .cases h
   exact λz a=>iX (b z a)
  .cases h
def Bw:List G->Option RG
 | [.ns [p,q],.ns [n]]=>Y (.one (.ns [p*n,q*n]))
 |_=>X
theorem aTJ:bD Z 280 (eF I Bw aS 18 [15,3]):=eU aSl (aZ func280 rfl rfl) λ_ _ h=>by
 unfold Bw at h
 split at h<;>cases h
 kernel_rfl
def Bv:List G->Option RG
 | [.ns [p,q],.ns [r,s]]=>Y (.one (.ns [p+r,q+s]))
 |_=>X
theorem aTI:bD Z 281 (eF I Bv aS 19 [18,18]):=eU aSl (aZ func281 rfl rfl) λ_ _ h=>by
 unfold Bv at h
 split at h<;>cases h
 kernel_rfl
noncomputable def tC0:List (FuncId×TE):=(214,uQ I xH)::(280,eF I Bw aS 18 [15,3])::(281,eF I Bv aS 19 [18,18])::tM
theorem aTt:cK Z tC0:=⟨aU6,aTJ,aTI,aSl⟩
def Cc:List G->Option RG
 | [.ns [p,q],.ns [r,s],.ns [a,b,c,d]]=>Y (.tup [.ns [p*a+r*c,q*a+s*c],.ns [p*b+r*d,q*b+s*d]])
 |_=>X
theorem aTO:bD Z 271 (eF I Cc aS 19 [15,15,3]):=eU aTt (aZ func271 rfl rfl) λ_ _ h=>by
 unfold Cc at h
 split at h<;>cases h
 kernel_rfl
noncomputable def tC1:List (FuncId×TE):=(271,eF I Cc aS 19 [15,15,3])::tC0
theorem Zh:cK Z tC1:=⟨aTO,aTt⟩
def Lr:List G->Option RG
 | [.ns [e,g,p1,h,p2,i,f,j],.ns [a,b,c,d]]=>Y (.one (.ns [e*a+p2*c,g*a+i*c,p1*a+f*c,h*a+j*c,e*b+p2*d,g*b+i*d,p1*b+f*d,h*b+j*d]))
 |_=>X
theorem aV2:bD Z 262 (eF I Lr aS 19 [15,3]):=eU Zh (aZ func262 rfl rfl) λ_ _ h=>by
 unfold Lr at h
 split at h<;>cases h
 kernel_rfl
def Ls:List G->Option RG
 | [.ns [e,g,p1,h,p2,i,f,j],.ns [a,b,c,d]]=>Y (.one (.ns [e*a+p1*c,g*a+h*c,e*b+p1*d,g*b+h*d,p2*a+f*c,i*a+j*c,p2*b+f*d,i*b+j*d]))
 |_=>X
theorem aV3:bD Z 257 (eF I Ls aS 19 [15,3]):=eU Zh (aZ func257 rfl rfl) λ_ _ h=>by
 unfold Ls at h
 split at h<;>cases h
 kernel_rfl
def Cb:List G->Option RG
 | [.ns [e,g,p1,h,p2,i,f,j],.ns [a,b,c,d]]=>Y (.one (.ns [d*e-b*g,a*g-c*e,d*p1-b*h,a*h-c*p1,d*p2-b*i,a*i-c*p2,d*f-b*j,a*j-c*f]))
 |_=>X
theorem aTN:bD Z 240 (eF I Cb aS 19 [15,3]):=eU Zh (aZ func240 rfl rfl) λ_ _ h=>by
 unfold Cb at h
 split at h<;>cases h
 kernel_rfl
noncomputable def tC2:List (FuncId×TE):=(262,eF I Lr aS 19 [15,3])::(257,eF I Ls aS 19 [15,3])::(240,eF I Cb aS 19 [15,3])::tC1
theorem Kv:cK Z tC2:=⟨aV2,aV3,aTN,Zh⟩
noncomputable def cR (t z:Int):Int:=bif Nm.cmp z 0==0 then t else bif decide (t<0)then(tz z:Int)else bif decide ((tz z:Int)<t)then(tz z:Int)else t
def fZ (k:Int):Int:=bif k==0 then 2 else bif k.tmod 3==2 then Wr ((Wr (2*Wr (k+1))).tdiv 3)else 1
theorem aVa {k:Int}(h:0<=k/\k<=100000000):Holds [(k==0)=J->(Wr (k*k)).natAbs<1000000000000000000,(k==0)=J->(Wr (Wr (2*k)+1)).natAbs<1000000000000000000]:=by
 have b:=Int.mul_nonneg h.1 h.1;have c:=Int.mul_le_mul h.2 h.2 h.1 E3;have e1:Wr (k*k)=k*k:=uI O O;have e2:Wr (2*k)=2*k:=uI O O;have a:Wr (2*k+1)=2*k+1:=uI O O;rw[e1,e2,a];exact iR (λ_=>by omega) (iR (λ_=>by omega) fX)
def Ty:List G->List Prop
 | [.i .i64 k]=>[0<=k/\k<=100000000]
 |_=>[]
noncomputable def Lm:List G->Option RG
 | [.i .i64 t,.ns [z]]=>Y (.one (.i .i64 (cR t z)))
 |_=>X
theorem aVX:bD Z 251 (eF I Lm aS 0 [0,19]):=eU Kv (aZ func251 rfl rfl) λ_ _ h=>by
 unfold Lm at h
 split at h<;>cases h
 kernel_rfl
def rH:List G->Option RG
 | [.ns [p,q]]=>Y (.one (.b ((Nm.cmp p 0==0)&&(Nm.cmp q 0==0))))
 |_=>X
theorem aNC:bD Z 286 (eF I rH aS 0 [19]):=eU Kv (aZ func286 rfl rfl) λ_ _ h=>by
 unfold rH at h
 split at h<;>cases h
 kernel_rfl
def Ln:List G->Option RG
 | [.ns [a],.ns [b]]=>Y (.one (.ns [bif decide (Nm.cmp a b<0)then b else a]))
 |_=>X
theorem aVY:bD Z 272 (eF I Ln aS 80 [80,80]):=eU Kv (aZ func272 rfl rfl) λ_ _ h=>by
 unfold Ln at h
 split at h<;>cases h
 kernel_rfl
def Ll:List G->Option RG
 | [.i .i64 k]=>Y (.one (.i .i64 (fZ k)))
 |_=>X
theorem aVW:bD Z 268 (eF I Ll aS 0 [0]):=eU Kv (aZ func268 rfl rfl) λ_ _ h=>by
 unfold Ll at h
 split at h<;>cases h
 kernel_rfl
def Lq:List G->Option RG
 | [.i .i64 k]=>Y (.one (.ns [bif k==0 then 0 else 0,bif k==0 then 4 else Wr (k*k),bif k==0 then 1 else 1,bif k==0 then 1 else Wr (Wr (2*k)+1)]))
 |_=>X
theorem aV1:bD Z 267 (eF I Lq Ty 1 [0]):=by
 refine iB Kv bO (aZ func267 rfl rfl) ?_;intro b out h;unfold Lq at h;split at h
 .rename_i k;cases h;exact⟨[(k==0)=J->(Wr (k*k)).natAbs<1000000000000000000,(k==0)=J->(Wr (Wr (2*k)+1)).natAbs<1000000000000000000],1,E0,E3,λa _=>aVa a.one⟩
 .cases h
def Lp:List G->Option RG
 | [.i .i64 k]=>Y (.one (.ns [bif k==6 then 0 else bif k==7 then 0 else bif k==8 then 1 else 0,bif k==6 then 0 else bif k==7 then 0 else bif k==8 then 0 else 0,bif k==6 then 1 else bif k==7 then 1 else bif k==8 then 0 else 1,bif k==6 then 0 else bif k==7 then 0 else bif k==8 then 0 else 0,bif k==6 then 1 else bif k==7 then -1 else bif k==8 then 0 else 0,bif k==6 then 0 else bif k==7 then 0 else bif k==8 then 0 else 1,bif k==6 then 0 else bif k==7 then 0 else bif k==8 then 0 else 0,bif k==6 then 1 else bif k==7 then 1 else bif k==8 then 1 else 0]))
 |_=>X
theorem aV0:bD Z 215 (eF I Lp aS 1 [0]):=eU Kv (aZ func215 rfl rfl) λ_ _ h=>by
 unfold Lp at h
 split at h<;>cases h
 kernel_rfl
noncomputable def tC3:List (FuncId×TE):=(251,eF I Lm aS 0 [0,19])::(286,eF I rH aS 0 [19])::(272,eF I Ln aS 80 [80,80])::(268,eF I Ll aS 0 [0])::(267,eF I Lq Ty 1 [0])::(215,eF I Lp aS 1 [0])::tC2
theorem aTu:cK Z tC3:=⟨aVX,aNC,aVY,aVW,aV1,aV0,Kv⟩
def Dw (p q:Int):Int:=bif (Nm.cmp p 0==0)&&(Nm.cmp q 0==0)then 1 else p+q
def Lu:List G->Option RG
 | [.ns [p,q]]=>Y (.one (.ns [Dw p q]))
 |_=>X
theorem aV5:bD Z 282 (eF I Lu aS 16 [15]):=eU aTu (aZ func282 rfl rfl) λ_ _ h=>by
 unfold Lu at h
 split at h<;>cases h
 kernel_rfl
noncomputable def tC4:List (FuncId×TE):=(282,eF I Lu aS 16 [15])::tC3
theorem aTv:cK Z tC4:=⟨aV5,aTu⟩
def jB (up c d e op a rp b:Int):Int:=(((up*e-c*d)*(Dw op a*Dw rp b)).natAbs:Int)
def grZ (a b:Int):Int:=bif decide (Nm.cmp a b<0)then b else a
def Lt:List G->Option RG
 | [.ns [up,c],.ns [d,e],.ns [op,a],.ns [rp,b]]=>Y (.one (.ns [jB up c d e op a rp b]))
 |_=>X
theorem aV4:bD Z 273 (eF I Lt aS 63 [15,15,15,15]):=eU aTv (aZ func273 rfl rfl) λ_ _ h=>by
 unfold Lt at h
 split at h<;>cases h
 kernel_rfl
noncomputable def tC5:List (FuncId×TE):=(273,eF I Lt aS 63 [15,15,15,15])::tC4
theorem aTw:cK Z tC5:=⟨aV4,aTv⟩
def jV (a c p1 d p2 e b f t:Int):Int:=
 Nm.cmp (grZ (jB a c p2 e p1 d b f) (jB p1 d b f a c p2 e)*t) (grZ (jB a c p1 d p2 e b f) (jB p2 e b f a c p1 d))
def Jo:List G->List Prop
 | [.ns _,.i .i64 t]=>[t.natAbs<1000000000000000000]
 |_=>[]
inductive SF where
 |st (b:Bool)
 |sy (b:Bool)
def SF.val:SF->Bool
 |.st b=>b
 |.sy b=>b
def Lv:List G->Option RG
 | [.ns [a,c,p1,d,p2,e,b,f],.i .i64 t]=>Y (.one (.i .i64 (jV a c p1 d p2 e b f t)))
 |_=>X
theorem aSM:bD Z 259 (eF I Lv Jo 0 [15,0]):=by
 refine iB aTw bO (aZ func259 rfl rfl) ?_;intro b out h;unfold Lv at h;split at h
 .rename_i c e p1 f p2 g d i t;cases h;exact⟨[t.natAbs<1000000000000000000],0,E0,E3,λa _=>iR a.one fX⟩
 .cases h
noncomputable def Nj:List (FuncId×TE):=(259,eF I Lv Jo 0 [15,0])::tC5
theorem Zi:cK Z Nj:=⟨aSM,aTw⟩
def Th:List G->Option RG
 | [.ns [a,b,c,d]]=>Y (.one (.ns [eZ b d,eP b d]))
 |_=>X
def Tx:List G->List Prop
 | [.ns [a,b,c,d]]=>[0<aN b d]
 |_=>[]
theorem aW1:bD Z 60 (eF I Th Tx 41 [10]):=by
 refine iB Sj bO (aZ func60 rfl rfl) ?_;intro f out h;unfold Th at h;split at h
 .rename_i a b c d;cases h;exact⟨[0<aN b d],41,E0,E3,λe _=>iR e.one fX⟩
 .cases h
def Tg:List G->Option RG
 | [.ns [a,b,c,d]]=>Y (.one (.ns [eZ a c,eP a c]))
 |_=>X
def Tw:List G->List Prop
 | [.ns [a,b,c,d]]=>[0<aN a c]
 |_=>[]
theorem aW0:bD Z 62 (eF I Tg Tw 41 [10]):=by
 refine iB Sj bO (aZ func62 rfl rfl) ?_;intro f out h;unfold Tg at h;split at h
 .rename_i a b c d;cases h;exact⟨[0<aN a c],41,E0,E3,λe _=>iR e.one fX⟩
 .cases h
def sJ (w:World)(c:LB)(e:Ending)(a:World):Prop:=∃b:PH,e=.returned (.agg b.toArray)/\aP I a c b/\Below w.heap.size w a
variable {a b c d:Int}{h:PH}
theorem aPs (l:aP I v [a,b,c,d] h)(j:∀z∈[a,b,c,d],Bits 1 z)(k:0<aN b d):Calls prog 60 #[.agg h.toArray] v (sJ v [eZ b d,eP b d]):=by
 refine(aW1.2 [.agg [.num I a 1,.num I b 1,.num I c 1,.num I d 1]] _ _ rfl (iR k fX) v [.agg h.toArray] ⟨⟨h,rfl,Ij [a,b,c,d] h l j⟩,trivial⟩).mono ?_;rintro e n⟨f,rfl,⟨i,rfl,m⟩,g⟩;exact⟨i,rfl,(sD [.num I _ 41,.num I _ 41] _ _ i rfl m).1,g⟩
theorem aPr (l:aP I v [a,b,c,d] h)(j:∀z∈[a,b,c,d],Bits 1 z)(k:0<aN a c):Calls prog 62 #[.agg h.toArray] v (sJ v [eZ a c,eP a c]):=by
 refine(aW0.2 [.agg [.num I a 1,.num I b 1,.num I c 1,.num I d 1]] _ _ rfl (iR k fX) v [.agg h.toArray] ⟨⟨h,rfl,Ij [a,b,c,d] h l j⟩,trivial⟩).mono ?_;rintro e n⟨f,rfl,⟨i,rfl,m⟩,g⟩;exact⟨i,rfl,(sD [.num I _ 41,.num I _ 41] _ _ i rfl m).1,g⟩
theorem aNH {e f g h:Int}{k l:PH}(p:aP I v [a,b,c,d] k)(n:∀z∈[a,b,c,d],Bits 1 z)(q:aP I v [e,f,g,h] l)(o:∀z∈[e,f,g,h],Bits 1 z):Calls prog 58 #[.agg k.toArray,.agg l.toArray] v (sJ v [a*e+b*g,a*f+b*h,c*e+d*g,c*f+d*h]):=by
 refine(aKF.2 [.agg [.num I a 1,.num I b 1,.num I c 1,.num I d 1],.agg [.num I e 1,.num I f 1,.num I g 1,.num I h 1]] _ _ rfl fX v [.agg k.toArray,.agg l.toArray] ⟨⟨k,rfl,Ij [a,b,c,d] k p n⟩,⟨l,rfl,Ij [e,f,g,h] l q o⟩,trivial⟩).mono ?_;rintro _ s⟨i,rfl,⟨m,rfl,r⟩,j⟩;exact⟨m,rfl,(sD [.num I _ 7,.num I _ 7,.num I _ 7,.num I _ 7] _ _ m rfl r).1,j⟩
theorem aQm (w:World)(s:Int):Calls prog 59 #[.int .i64 s] w (sJ w [gX s,gY s,gZ s,hX s]):=by
 refine(aND.2 [.one (.sint .i64 s)] _ _ rfl fX w [.int .i64 s] ⟨⟨rfl,rfl⟩,trivial⟩).mono ?_;rintro _ d⟨v,rfl,⟨b,rfl,c⟩,a⟩;exact⟨b,rfl,(sD [.num I _ 1,.num I _ 1,.num I _ 1,.num I _ 1] _ _ b rfl c).1,a⟩
theorem aPq (w:World):Calls prog 57 #[.int .i64 1,.int .i64 0,.int .i64 0,.int .i64 1] w (sJ w [1,0,0,1]):=by
 refine(aS9.2 [.one (.int .i64 1),.one (.int .i64 0),.one (.int .i64 0),.one (.int .i64 1)] _ _ rfl (λ_ h=>by cases h) w [.int .i64 1,.int .i64 0,.int .i64 0,.int .i64 1] ⟨⟨rfl,rfl⟩,⟨rfl,rfl⟩,⟨rfl,rfl⟩,⟨rfl,rfl⟩,trivial⟩).mono ?_;rintro _ d⟨v,rfl,⟨b,rfl,c⟩,a⟩;exact⟨b,rfl,(sD [.num I _ 1,.num I _ 1,.num I _ 1,.num I _ 1] _ _ b rfl c).1,a⟩
end Ab
def tV (w:World)(a:LB)(b i:Value)(wr:World):Prop:=
 ∃(k:Nat) (R:Int) (q:LB),i=.int .i64 ((k:Int)-1)/\k<=a.length/\b=.int .u64 R/\0<=R/\R<1000000000/\dI wr w.heap.size q/\q.length=a.length/\bZ 4294967296 q/\Below w.heap.size w wr/\
  Nm.val 4294967296 (a.drop k)=Nm.val 4294967296 (q.drop k)*1000000000+R
theorem aNd {x b t l:Int}(h:b=t*1000000000+l):x+4294967296*b=((l*4294967296+x)/1000000000+4294967296*t)*1000000000+(l*4294967296+x)%1000000000:=by
 omega
theorem aFJ (w:World)(a:LB)(v:Value)(s:Lims w a v)(M:a.length<=10000000)(z:bZ 4294967296 a):
  Calls prog 106 #[v,.int .u32 1000000000] w λe C=>∃B Q,e=.returned (.tuple #[B,.int .u32 (Nm.val 4294967296 a%1000000000)])/\cG w.heap.size C Q B/\Nm.Good 4294967296 Q/\Nm.val 4294967296 Q=Nm.val 4294967296 a/1000000000/\Below w.heap.size w C:=by
 obtain⟨U,L,rfl,_⟩:=s.shape;have N:=run_make_row' 123 192 (.int .u32 0) 4 underlying123 kE rfl .i64 .i64 a.length O O;have F:=hid s;have D:=hid z;clear s z
 go_in
 go_wp2_with fail
 go_loopw [7,8] (λr i wr=>tV w a r i wr) (λ_ i _=>(intOf i+1).toNat)
 case atStart=>exact⟨a.length,0,r7 a.length 0,rfl,j8 _,rfl,O,O,dI.made w _,E4,bZ.jO E3 _,aU (Below.refl _ _) O _,by simp[Nm.val]⟩
 case round=>
  obtain⟨k,R,q,rfl,W,rfl,S,T,c,j,f,d,l⟩:=hrel
  cases k with
  |zero=>
   have A:Nm.val 4294967296 a=Nm.val 4294967296 q*1000000000+R:=by simpa using l
   have u:=hid (Nm.Qi E3 A S T);have y:=hid (Ek wr q _ 0 (c.rR O) O);have t:=Nm.wQ q;have x:=hid (c.used O (j8 _));rw[j]at y t x;have p:=hid (Nm.wR f);have m:=hid d;generalize P:(Nm.strip q).length=n at*;clear A P c j f d l
   go_wp2_with fail
   refine(y.out).mono ?_;rintro e w1⟨rfl,rfl⟩
   go_wp2_with fail
   refine bodyPost_ret (v:=.tuple #[.slice (Y ⟨w.heap.size,0,X⟩) n a.length,.int .u32 R]) (by simp[results,results106]) rfl ⟨_,Nm.strip q,by rw[u.out.2],x.out,p.out,by rw[(hid (Nm.uZ 4294967296 q)).out];exact u.out.1.symm,m.out⟩
  |succ k=>
   obtain⟨g,rfl,hc⟩:=(F.out.below d).place O;have x1:=hc k O;have a0:=D.out.at' E3 k;have k1:=c.cell k O;have k2:=c.frozen k
   have o:Hid (∀b,b=R*4294967296+Nm.at' a k->tV w a (.int .u64 (b%1000000000)) (.int .i64 ((k:Int)-1)) (wr.setCell ⟨w.heap.size,k,X⟩ (.int .u32 (b/1000000000)))):=by
    rintro b rfl;refine⟨k,_,q.set k ((R*4294967296+Nm.at' a k)/1000000000),E4,O,rfl,O,O,c.set _ _,by simpa using j,f.set _ O O,d.setCell E4 _,?_⟩;rw[Nm.Ik 4294967296 a k O,aGk O];exact aNd l
   clear hc c j f d l
   go_wp2_with fail
   go_roundw
   case rel=>
    first
     |exact o.out _ rfl
     | (have h:=o.out _ rfl
        exact h)
   case measure=>simp[intOf]
theorem aRp:∀c,fix c 0=r7 c 48:=by
 intro c
 induction c with
 |zero=>rfl
 |succ c a=>
  rw[fix,Nat.zero_div,a,List.replicate_succ'];rfl
theorem aOA:∀c x,x<10^c->0<c->(p8 x).length<=c/\fix c x=r7 (c-(p8 x).length) 48++p8 x:=by
 intro c
 induction c with
 |zero=>intro x _ h;omega
 |succ c a=>
  intro x b _
  by_cases h:x<10
  .have e:p8 x=[rA x]:=by
    rw[p8,dif_pos h,rA,Nat.mod_eq_of_lt h]
   rw[fix,Nat.div_eq_of_lt h,aRp,e];grind
  .have e:p8 x=p8 (x/10)++[rA x]:=by
    conv=>lhs;rw[p8,dif_neg h]
    rfl
   have hc:0<c:=by
    grind
   have⟨i1,i2⟩:=a (x/10) O hc;rw[fix,i2,e];grind
variable {k:Nat}
theorem Ft {x:Nat}(h:x<2^k):(p8 x).length<=k+1:=by
 have a:2^k<=10^(k+1):=by
  have:=Nat.pow_le_pow_left (show 2<=10 by decide) k;omega
 exact(aOA (k+1) x O O).1
theorem Kh {z:Int}{n:Nat}(h:z.natAbs<2^n):(Nm.text z).length<=n+2:=by
 have:=Ft h;unfold Nm.text;grind
def mD (N:Nat)(R:LB)(l:FF):Prop:=(N=0/\R=[]/\l=[])\/(0<N/\(R=[]->l=p8 N)/\(R≠[]->p8 (Nm.val 4294967296 R).toNat++l=p8 N))
def Vd (w:World)(N a:Nat)(c b:Value)(wr:World):Prop:=
 ∃(s:ByteArray) (l:FF) (R:LB),c=.string s/\dE s l/\Lims wr R b/\Nm.Good 4294967296 R/\R.length<=10000000/\a=(Nm.val 4294967296 R).toNat/\mD N R l/\Below w.heap.size w wr
variable {x:LB}{l:FF}
theorem aSm (h:mD w x l)(a:w<2^k):l.length<=k+1:=by
 rcases h with⟨_,_,rfl⟩|⟨_,b,c⟩
 .simp
 .have:=Ft a
  by_cases d:x=[]
  .grind
  .grind
theorem aQr {Q:LB}(h:mD w x l)(f:x≠[])(k:Nm.Good 4294967296 x)(b:Nm.Good 4294967296 Q)(n:Nm.val 4294967296 Q=Nm.val 4294967296 x/1000000000):
  mD w Q ((bif Q.isEmpty then p8 (Nm.val 4294967296 x%1000000000).toNat else fix 9 (Nm.val 4294967296 x%1000000000).toNat)++l):=by
 rcases h with⟨_,m,_⟩|⟨c,_,d⟩
 .simp_all
 .refine A6 ⟨c,?_,?_⟩
  .intro a;have j:=(yQ E3 b).2 a;grind
  .intro a
   have j:Nm.val 4294967296 Q≠0:=λe=>a ((yQ E3 b).1 e)
   have i:=oY E3 b.cP
   have g:Q.isEmpty=J:=by cases Q with|nil=>exact absurd rfl a|cons _ _=>rfl
   rw[g,cond_false,<-d f,<-List.append_assoc];congr 1;have:=Rd.aOf 9 (Nm.val 4294967296 Q).toNat (Nm.val 4294967296 x%1000000000).toNat O O;grind
theorem aUd (x:Nat):0<(p8 x).length:=by
 rw[p8]
 split<;>simp
def Mu (w:World)(Q:LB)(d:FF)(a:Value)(wr:World):Prop:=
 ∃(s:ByteArray) (j:Nat),a=.string s/\dE s (r7 j 48++d)/\j+d.length<=9/\(Q=[]->j=0)/\wr=w
theorem aNy (w:World)(D:Bool)(a:LB)(W:Option Addr)(f n N:Nat)(ha:Lims w a (.slice W a.length f))(ga:Nm.Good 4294967296 a)(bp:a.length<=1000000)(hN:Nm.val 4294967296 a=N)(hn:N<2^n)(br:n<=1000000)(ht:mI w):
  Calls prog 66 #[.agg #[.bool D,.slice W a.length f]] w (aR w (bif decide (N=0)then [48]else(bif D then [45]else [])++p8 N)):=by
 have HA:=hid ha;have GA:=hid ga;have HT:=hid ht;have HN:=hid hN;have ag:=hid hn;have o:Hid (Below w.heap.size w (w.alloc (.cells #[.bool D,.slice W a.length f] 125))):=aU (Below.refl _ _) O _;clear ha ga ht hN hn
 go_in
 go_wp2_with fail
 go_loopg [3,4] N (λgk t r wr=>Vd (w.alloc (.cells #[.bool D,.slice W a.length f] 125)) N gk t r wr)
 case atStart=>
  refine⟨_,[],a,rfl,dE.mk' [],HA.out.alloc _,GA.out,O,by rw[HN.out];simp,?_,Below.refl _ _⟩;have hz:=yQ E3 GA.out;rw[HN.out]at hz
  by_cases h:N=0
  .exact Or.inl ⟨h,hz.1 O,rfl⟩
  .refine A6 ⟨O,λe=>absurd (hz.2 e) O,λ_=>?_⟩;rw[HN.out];simp
 case round=>
  obtain⟨s,l,R,rfl,hS,hR,gR,bk,P,b,m⟩:=hrel;have C:=hid hS;have HR:=hid hR;have F:=hid gR;have ae:=hid P;have q:=hid b;have B:=hid m;have ap:=aSm b ag.out
  have bu:s.size<=1000010:=by rw[hS.size];omega
  obtain⟨ro,rc,rfl,_⟩:=hR.shape;clear hS hR gR P b m ap
  by_cases i:R=[]
  .subst i
   have r0:wr.cell? ⟨w.heap.size,0,X⟩=Y (.bool D):=by
    rw[B.out.cell E4];exact aB (yR _ _) rfl
   by_cases M:N=0
   .have T:l=[]:=by
     rcases q.out with⟨_,_,h⟩|⟨h,_⟩
     .exact h
     .omega
    have an:s=⟨#[]⟩:=by
     have:=C.out.size;rw[T]at this;obtain⟨d⟩:=s;rw[Array.eq_empty_of_size_eq_zero this]
    subst an
    go_wp2_with fail
    go_ret
    exact⟨_,rfl,(dE.mk' [48]).to (by rw[decide_eq_true M];rfl),o.out.trans (B.out.mono o.out.size)⟩
   .have T:l=p8 N:=by
     rcases q.out with⟨h,_⟩|⟨_,h,_⟩
     .omega
     .exact h rfl
    have am:0<s.size:=by rw[C.out.size,T];exact aUd N
    obtain⟨z1,z2⟩:=Qj am;have HL:=hid T;have HD:=hid (decide_eq_false M);clear T;cases D
    .go_wp2_with fail
     go_ret
     exact⟨_,rfl,C.out.to (by rw[HD.out,HL.out];rfl),o.out.trans (B.out.mono o.out.size)⟩
    .go_wp2_with fail
     go_ret
     exact⟨_,rfl,((dE.mk' [45]).app C.out).to (by rw[HD.out,HL.out];rfl),o.out.trans (B.out.mono o.out.size)⟩
  .have bn:(0:Int)<R.length:=by have:=r8.2 i;omega
   have bm:=oY E3 F.out.cP
   have bo:Nm.val 4294967296 R≠0:=λe=>i ((yQ E3 F.out).1 e)
   have DS:=hid (aFJ wr R _ HR.out O F.out.cP)
   go_wp2_with fail
   refine(DS.out).mono ?_;rintro e w1⟨qv,Q,rfl,y,gQ,vQ,z⟩;have bs:=z.size;obtain⟨qo,qc,rfl,_⟩:=y.shape;have bi:=Iv gQ F.out (by rw[vQ];omega);have TS:=hid (aQr q.out i F.out gQ vQ)
   have c:Hid ((Nm.val 4294967296 Q).toNat<gk):=by show _<_;rw[ae.out,vQ];omega
   have m0:0<=Nm.val 4294967296 R%1000000000:=O
   have m1:Nm.val 4294967296 R%1000000000<1000000000:=O
   have HQ:=hid (y.cJ (j9 _));have GQ:=hid gQ;have B1:=hid (B.out.trans (z.mono B.out.size));have IT:=hid (Ri (Nm.val 4294967296 R%1000000000) ⟨m0,m1⟩ w1 ((HT.out.below o.out).below (B1.out.mono E4)));clear y gQ vQ z DS;generalize Nm.val 4294967296 R%1000000000=low at*
   go_wp2_with fail
   refine(IT.out).mono ?_;rintro e w2⟨u,rfl,hu,bc,k⟩;have bt:=k.size
   obtain⟨wo,ar⟩:∃wo:World,wo=wr:=⟨_,rfl⟩
   subst ar
   have U:dec low=p8 low.toNat:=by unfold dec;rfl
   rw[U]at hu
   have ai:Hid (dE u (p8 low.toNat)):=⟨hu⟩
   have FP:=hid (aOA 9 low.toNat O E3);have B2:=hid (B1.out.trans (k.mono B1.out.size));have L:=hid (HQ.out.below k);clear hu U IT k
   go_wp2_with fail
   go_loopw [7] (λp wr=>Mu w2 Q (p8 low.toNat) p wr) (λp _=>match p with|.string t=>9-t.size|_=>0)
   case atStart=>exact⟨u,0,rfl,ai.out.to E4,by have:=FP.out.1;omega,λ_=>rfl,rfl⟩
   case round=>
    obtain⟨t,j,rfl,hT,hj,S,rfl⟩:=hrel
    have bz:t.size=j+(p8 low.toNat).length:=by rw[hT.size];simp
    have v:=hid hT
    have bx:t.size<=9:=O
    clear hT
    by_cases g:Q=[]
    .subst g;have j0:=S rfl;subst j0;have x:Hid (mD N [] (p8 low.toNat++l)):=TS.out;have ah:Hid (dE t (p8 low.toNat)):=v.out;clear S
     go_wp2_with fail
     go_roundg 0
     case measure=>exact c.out
     case rel=>exact⟨_,_,[],rfl,ah.out.app C.out,L.out,GQ.out,E4,rfl,x.out,B2.out⟩
    .have bj:(0:Int)<Q.length:=by have:=r8.2 g;omega
     by_cases h9:(t.size:Int)<9
     .go_wp2_with fail
      go_roundw
      case rel=>exact⟨_,j+1,rfl,((dE.mk' [48]).app v.out).to (by rw[List.replicate_succ];rfl),O,λe=>absurd e g,rfl⟩
      case measure=>
       simp only[ByteArray.size_append];have h1:(⟨#[48]⟩:ByteArray).size=1:=rfl;omega
     .have A:Hid (r7 j 48++p8 low.toNat=fix 9 low.toNat):=by
       show _=_;rw[FP.out.2];congr 2;omega
      have he:Q.isEmpty=J:=by cases Q with|nil=>exact absurd rfl g|cons _ _=>rfl
      have x:Hid (mD N Q (fix 9 low.toNat++l)):=by have:=TS.out;rw[he]at this;exact this
      go_wp2_with fail
      go_roundg ((Nm.val 4294967296 Q).toNat)
      case measure=>exact c.out
      case rel=>exact⟨_,_,Q,rfl,(v.out.app C.out).to (by rw[A.out]),L.out,GQ.out,O,rfl,x.out,B2.out⟩
theorem aJv (w:World)(z:Int)(v:Value)(n:Nat)(h:WhoAt w z v)(b:z.natAbs<2^n)(j:n<=1000000)(k:mI w):Calls prog 66 #[v] w (aR w (Nm.text z)):=by
 obtain⟨g,f,a,rfl,i,d,hv⟩:=h.open;have m:=yV d hv b;have l:=aNy w (decide (z<0)) g f a n z.natAbs i d O hv b j k
 have e:(bif decide (z.natAbs=0)then [48]else(bif decide (z<0)then [45]else [])++p8 z.natAbs)=Nm.text z:=by
  unfold Nm.text
  by_cases c:z.natAbs=0
  .rw[decide_eq_true c,c,decide_eq_false (show¬z<0 by omega)];rw[Lib.decDigits_one E3];rfl
  .grind
 simp_all
namespace Ab
open Rf (Wt)
section
variable {w W:World} {B k:Nat}
def Hx (B k:Nat)(w W:World):Prop:=k<B/\(∃cs,w.heap[k]?=Y (.cells cs 26 (0,0)))/\∀j,j<w.heap.size->j≠k->W.heap[j]?=w.heap[j]?
theorem Hx.at (h:Hx B k w W){j:Nat}{cs:Array Value}{d:TypeId}(a:w.heap[j]?=Y (.cells cs d (0,0)))(f:d≠26\/B<=j):W.heap[j]?=Y (.cells cs d (0,0)):=by
 refine(h.2.2 j (bL a) λe=>?_).trans a;subst e;obtain⟨g,⟨b,c⟩,_⟩:=h;rw[c]at a;cases a
 rcases f with h|h
 .exact h rfl
 .omega
theorem Hx.hold (h:Hx B k w W):∀{d:LB} {c:PH},aP J w d c->aP J W d c
 | [],[],_=>trivial
 |_::d,_::_::c,⟨i,⟨f,⟨j,l⟩,m⟩,n⟩=>⟨i,⟨f,⟨j,l.elim Or.inl λ⟨g,a,b,e,o,p,r⟩=>A6 ⟨g,a,b,e,o,h.at p (Or.inl E3),r⟩⟩,m⟩,h.hold n⟩
 | [],_::_,h=>h.elim
 |_::_,[],h=>h.elim
 |_::_,[_],h=>h.elim
theorem TreeB.aside (d:Hx B k w W){S:ByteArray}{a:PH}{z c:Value}(h:TreeB w b S a z c):TreeB W b S a z c:=⟨d.at h.1 (Or.inl E3),h.2⟩
theorem lY.aside (f:Hx B k w W){y:NU}{v:Value}(h:lY B w y v):lY B W y v:=by
 obtain⟨k,b,a,d,c,e⟩:=h;exact⟨k,b,a,d,c,f.at e (A6 c)⟩
theorem kU.aside (a:Hx B k w W):∀{u:Wt} {b:Nat},kU B w u b->kU B W u b
 |.fr _ _,b,⟨g,l,f,h,e⟩=>⟨g,l,f,h.aside a,a.hold e⟩
 |.fE _ _,b,⟨g,f,to,q,p,h,e⟩=>⟨g,f,to,q,p,h.aside a,e.elim Or.inl λ⟨k,m,j,n,e,i⟩=>A6 ⟨k,m,j,n,a.at e (Or.inl E3),i⟩⟩
 |.neg _,b,⟨g,l,f,c,h,e,i⟩=>⟨g,l,f,c,h.aside a,e.aside a,kU.aside a i⟩
 |.two _ _ _,b,⟨g,l,f,c,d,h,e,i,o⟩=>⟨g,l,f,c,d,h.aside a,e.aside a,kU.aside a i,kU.aside a o⟩
theorem lY.mono (f:b<=B){ps:NU}{v:Value}(h:lY B w ps v):lY b w ps v:=by
 obtain⟨k,cap,a,c,d,e⟩:=h;exact⟨k,cap,a,c,p5 f d,e⟩
theorem kU.mono {j:Nat}(a:j<=B):∀{u:Wt} {b:Nat},kU B w u b->kU j w u b
 |.fr _ _,b,h=>h
 |.fE _ _,b,h=>h
 |.neg _,b,⟨xs,i,g,c,h,e,f⟩=>⟨xs,i,g,c,h,e.mono a,kU.mono a f⟩
 |.two _ _ _,b,⟨xs,i,g,c,d,h,e,f,l⟩=>⟨xs,i,g,c,d,h,e.mono a,kU.mono a f,kU.mono a l⟩
end
variable {A:Wt}
theorem aQV (h:((Fe A).toList==[113])=I):∃p q,A=.fr p q:=by
 cases A with
 |fr p q=>exact⟨p,q,rfl⟩
 |_=>rw[aTG (λ_ _ e=>by cases e)]at h;cases h
theorem Ve:((⟨#[113]⟩:ByteArray).toList==[113])=I:=E0
variable {b:Int}
theorem aPz:pC .div A (.fr 0 b)=X:=by cases A<;>rfl
theorem aUX {kd:Rf.Kind}{a:Wt}(h:((Fe a).toList==[113])=J):pC kd A a=Y (.two kd A a):=by
 cases a with
 |fr _ _=>exact absurd (Ve.symm.trans h) E3
 |_=>cases A<;>rfl
variable {a:Int}
theorem aPA {kd:Rf.Kind}(h:((Fe A).toList==[113])=J)(c:¬(kd=.div/\a=0)):pC kd A (.fr a b)=Y (.two kd A (.fr a b)):=by
 cases A with
 |fr _ _=>exact absurd (Ve.symm.trans h) E3
 |_=>exact if_neg c
theorem Zq {kd:Rf.Kind}:((qI kd).toList==[47])=decide (kd=.div):=by cases kd<;>kernel_rfl
theorem aYb {kd:Rf.Kind}{p q:Int}:[eZ (tY kd p q a b).1 (tY kd p q a b).2,eP (tY kd p q a b).1 (tY kd p q a b).2]=[qL kd p q a b,qK kd p q a b]:=by
 unfold qL qK
 have:tY kd p q a b=(Np (cV kd) p q a b,Hv (cV kd) p q a b):=by
  cases kd with
  |add=>rfl
  |sub=>exact congrArg (·,_) (by show p*b-a*q=p*b+-a*q;rw[Int.neg_mul];rfl)
  |mul=>rfl
  |div=>exact congrArg (_,·) (Int.mul_comm _ _)
 rw[this]
theorem aYc {kd:Rf.Kind}{p q:Int}(d:0<q)(c:0<b)(h:¬(kd=.div/\a=0)):(tY kd p q a b).2≠0:=by
 have:=Zx (p:=p) d c h
 cases kd with
 |div=>rw[show(tY .div p q a b).2=Hv (cV .div) p q a b from Int.mul_comm _ _];exact this
 |_=>exact this
theorem aN9 (h:a≠0):¬Nm.cmp a 0=0:=by unfold Nm.cmp;grind
variable {w:World}{z:Value}
theorem aKu {W:World}{kd:Rf.Kind}{b:Wt}{b1:Nat}(e:Below w.heap.size w W)(f:lY w.heap.size W [b1,k] z)(c:kU w.heap.size W A b1)(d:kU w.heap.size W b k)(g:pC kd A b=Y (.two kd A b)):
  kL w ((Y A).bind λu=>(Y b).bind λv=>pC kd u v) (.returned (.pointer (Y ⟨W.heap.size,0,X⟩))) (W.alloc (.cells #[.string (qI kd),.bool J,nilR,.bool J,nilR,nilR,z] 49 (0,0))):=by
 have a:=(Below.refl W.heap.size W).alloc (j8 _) (.cells #[.string (qI kd),.bool J,nilR,.bool J,nilR,nilR,z] 49 (0,0));rw[s8,s8,g];exact⟨e.trans (a.mono e.size),_,rfl,[.bool J,nilR,.bool J,nilR],nilR,_,b1,k,⟨iJ _ _,rfl⟩,f.up a,c.up a,d.up a⟩
theorem Ma {W L:World}{n:Nat}(a:Below n w W)(h:W.grownBy L (Y k))(d:n<=k)(c:n<=W.heap.size):Below n w L:=⟨h.os.trans a.os,h.tape.trans a.tape,h.output.trans a.output,p5 a.size h.size,λj b=>(h.block j (p6 b c) (by simp;omega)).trans (a.block j b)⟩
theorem aQS {b lb c d cap:Nat}{kd:Rf.Kind}{o1 o2:Option Wt}(hS:∀W,Below w.heap.size w W->W.cell? ⟨b,0,X⟩=Y (.string (qI kd))/\W.cell? ⟨b,6,X⟩=Y (.slice (Y ⟨lb,0,X⟩) 2 cap)/\W.cell? ⟨lb,0,X⟩=Y (.pointer (Y ⟨c,0,X⟩))/\W.cell? ⟨lb,1,X⟩=Y (.pointer (Y ⟨d,0,X⟩)))
  (hC:∀W,Below w.heap.size w W->Calls prog 78 #[.pointer (Y ⟨c,0,X⟩)] W (kL W o1)) (hD:∀W,Below w.heap.size w W->Calls prog 78 #[.pointer (Y ⟨d,0,X⟩)] W (kL W o2)) (ay:∀p q,o1=Y (.fr p q)->Fg p q) (az:∀p q,o2=Y (.fr p q)->Fg p q):
  Calls prog 78 #[.pointer (Y ⟨b,0,X⟩)] w (kL w (o1.bind λu=>o2.bind λv=>pC kd u v)):=by
 obtain⟨q0,q1,q2,q3⟩:=hS w (Below.refl _ _);obtain⟨iT,av,a3,a0,au⟩:=info_parts Jh;have HS:=hid hS;have HC:=hid hC;have HD:=hid hD;have HQ:=hid ay;have HP:=hid az;clear hS hC hD ay az
 go_in
 go_wp2_with fail
 refine wp_loop_rounds 4 ?_;rw[rounds_succ]
 go_wp2_with fail
 refine(HC.out w (Below.refl _ _)).mono ?_;rintro e w1⟨R,h1⟩
 cases o1 with
 |none=>
  cases h1
  go_wp2_with fail
  exact bodyPost_ret (v:=.pointer X) (by simp[results,results78,go_sem]) rfl ⟨R,rfl⟩
 |some u1=>
  obtain⟨b1,rfl,ap⟩:=h1;have u0:=ap.cell w1 (Below.refl _ _);cases ad:((Fe u1).toList==[113])
  all_goals
   go_wp2_with (at_builtin;refine wpList_append_own_at _ rfl _ _ 47 rfl w1.heap.size 26 iT (.pointer X) 1 8 underlying47 av a3 a0 au rfl E3 _ 0 [] rfl (u7 _ _ _ _) ⟨w1.heap.size,0,X⟩ 1 1 [.pointer (Y ⟨b1,0,X⟩)] rfl rfl (cell_one_new _ _ _) (λu hu=>by simp at hu;subst hu;rfl) (by unfold maxLen;omega) O E4 ?_;intro v' w3 z x ax bt)
   have a2:=(Below.refl w1.heap.size w1).alloc (j8 _) (.cells #[.pointer (Y ⟨b1,0,X⟩)] 26 (0,0));have d3:=a2.trans ((vW x).mono a2.size);have e3:=R.trans (d3.mono R.size);obtain⟨k,cp,cj,rfl,bx,hk⟩:=Xp (ps:=[b1]) z rfl E4;obtain⟨r0,r1,r2,r3⟩:=HS.out w3 e3;clear q0 q1 q2 q3 x ax bt u0;rw[rounds_succ]
   go_wp2_with fail
   refine(HD.out w3 e3).mono ?_;rintro e w4⟨d4,h2⟩;have D:=d3.trans (d4.mono d3.size)
   rcases o2 with _|u2
   .cases h2
    go_wp2_with fail
    exact bodyPost_ret (v:=.pointer X) (by simp[results,results78,go_sem]) rfl ⟨R.trans (D.mono R.size),rfl⟩
   obtain⟨g,rfl,aq⟩:=h2;have v0:=aq.cell w4 (Below.refl _ _);have A:=Wv z d4;clear r0 r1 r2 r3
   go_wp2_with (at_builtin;refine wpList_append_own_at _ rfl _ _ 47 rfl w1.heap.size 26 iT (.pointer X) 1 8 underlying47 av a3 a0 au rfl E3 _ 1 [.pointer (Y ⟨b1,0,X⟩)] rfl (A.alloc _) ⟨w4.heap.size,0,X⟩ 1 1 [.pointer (Y ⟨g,0,X⟩)] rfl rfl (cell_one_new _ _ _) (λu hu=>by simp at hu;subst hu;rfl) (by unfold maxLen;omega) O (p5 d3.size (p5 d4.size E4)) ?_;intro dt i C m ab ar)
   have a5:=(Below.refl w4.heap.size w4).alloc (j8 _) (.cells #[.pointer (Y ⟨g,0,X⟩)] 26 (0,0));have aa:(w4.alloc (.cells #[.pointer (Y ⟨g,0,X⟩)] 26 (0,0))).grownBy i (Y k):=m;have ao:=Ma (D.trans (a5.mono D.size)) aa bx (p5 D.size a5.size);have S:=R.trans (ao.mono R.size);have hR:=(Xp (ps:=[b1,g]) C rfl E4).mono R.size
   have hA:Hx w3.heap.size k w4 i:=⟨bL hk,⟨_,(d4.block _ (bL hk)).trans hk⟩,λj hj hn=>(aa.block j (p6 hj a5.size) (by simpa using hn)).trans (a5.block j hj)⟩
   have M:=ap.up ao;have r:=(aq.aside hA).mono e3.size;obtain⟨k2,cr,b4,rfl,ch,N⟩:=id hR;obtain⟨z0,z1,z2,z3⟩:=HS.out i S;have y0:i.cell? ⟨k2,0,X⟩=Y (.pointer (Y ⟨b1,0,X⟩)):=aB N rfl;have y1:i.cell? ⟨k2,1,X⟩=Y (.pointer (Y ⟨g,0,X⟩)):=aB N rfl;have y2:=r.cell i (Below.refl _ _);clear z A C m aa ab ar v0;cases ae:((Fe u2).toList==[113])
   case' false=>
    cases hd:((qI kd).toList==[47])
    all_goals
     rw[rounds_succ]
     go_wp2_with fail
     exact bodyPost_ret (v:=.pointer (Y ⟨i.heap.size,0,X⟩)) (by simp[results,results78,go_sem]) rfl (aKu S hR M r (aUX ae))
  .obtain⟨a,U,rfl⟩:=aQV ae;obtain⟨xs,tv,lv,hT,f⟩:=id r;obtain⟨x0,l0,c0,x1,l1,c1,rfl⟩:=jA f;have n2:=hid f;clear f
   cases hd:((qI kd).toList==[47])with
   |false=>
    rw[rounds_succ]
    go_wp2_with fail
    have y:¬(kd=.div/\a=0):=λh=>by rw[Zq]at hd;simp[h.1]at hd
    exact bodyPost_ret (v:=.pointer (Y ⟨i.heap.size,0,X⟩)) (by simp[results,results78,go_sem]) rfl (aKu S hR M r (aPA ad y))
   |true=>
    have t1:i.cell? ⟨g,1,X⟩=Y (.bool (decide (a<0))):=aB hT.1 rfl;have t2:i.cell? ⟨g,2,X⟩=Y (.slice x0 l0 c0):=aB hT.1 rfl;simp only[Fe]at y2;rw[rounds_succ]
    go_wp2_with fail
    refine(Kg i a _ (Fy n2.out)).mono ?_;rintro e l⟨rfl,t⟩;have F:=S.trans (t.mono S.size);obtain⟨g0,g1,g2,g3⟩:=HS.out l F
    obtain rfl:kd=.div:=by rw[Zq]at hd;simpa using hd
    by_cases L:a=0
    .have hc:Nm.cmp a 0=0:=by rw[L];rfl
     go_wp2_with fail
     subst L;exact bodyPost_ret (v:=.pointer X) (by simp[results,results78,go_sem]) rfl ⟨F,by rw[s8,s8,aPz]⟩
    .have hc:¬Nm.cmp a 0=0:=aN9 L
     go_wp2_with fail
     exact bodyPost_ret (v:=.pointer (Y ⟨l.heap.size,0,X⟩)) (by simp[results,results78,go_sem]) rfl (aKu F (hR.up t) (M.up t) (r.up t) (aPA ad λh=>L h.2))
  .obtain⟨p,q,rfl⟩:=aQV ad;obtain⟨a,U,rfl⟩:=aQV ae;obtain⟨xs,tv,lv,hT,f⟩:=id r;obtain⟨x0,l0,c0,x1,l1,c1,rfl⟩:=jA f;obtain⟨ys,dq,c7,bs,n⟩:=id M;obtain⟨s,m0,n0,P,m1,n1,rfl⟩:=jA n;have n2:=hid f;have b3:=hid n;clear f n;have t1:i.cell? ⟨g,1,X⟩=Y (.bool (decide (a<0))):=aB hT.1 rfl;have t2:i.cell? ⟨g,2,X⟩=Y (.slice x0 l0 c0):=aB hT.1 rfl;simp only[Fe]at y2;cases hd:((qI kd).toList==[47])
   case' false=>
    have y:=hid (show¬(kd=.div/\a=0)from λh=>by rw[Zq]at hd;simp[h.1]at hd);have t:=Below.refl i.heap.size i;have F:=S;rw[rounds_succ];generalize i=l at*
   case' true=>
    rw[rounds_succ]
    go_wp2_with fail
    refine(Kg i a _ (Fy n2.out)).mono ?_;rintro e l⟨rfl,t⟩;have F:=S.trans (t.mono S.size);obtain⟨g0,g1,g2,g3⟩:=HS.out l F
    by_cases L:a=0
    case' pos=>
     have hc:Nm.cmp a 0=0:=by rw[L];rfl
     obtain rfl:kd=.div:=by rw[Zq]at hd;simpa using hd
     go_wp2_with fail
     subst L;exact bodyPost_ret (v:=.pointer X) (by simp[results,results78,go_sem]) rfl ⟨F,by rw[s8,s8,aPz]⟩
    have hc:¬Nm.cmp a 0=0:=aN9 L;have y:=hid (show¬(kd=.div/\a=0)from λh=>L h.2)
   all_goals
    have K6:=(t.block _ (bL N)).trans N;have T6:=hT.up t;have S6:=bs.up t;have k0:=aB (o:=0) K6 rfl;have s1:=aB (o:=1) S6.1 rfl;have s2:=aB (o:=2) S6.1 rfl;have a7:=(Below.refl l.heap.size l).alloc (j8 _) (.cells #[.bool (decide (p<0)),.slice s m0 n0] 46 (0,0));have a8:=(Below.refl (l.alloc (.cells #[.bool (decide (p<0)),.slice s m0 n0] 46 (0,0))).heap.size _).alloc (j8 _) (.cells #[.bool (decide (q<0)),.slice P m1 n1] 46 (0,0));have k5:=iJ (l.alloc (.cells #[.bool (decide (p<0)),.slice s m0 n0] 46 (0,0))) (.cells #[.bool (decide (q<0)),.slice P m1 n1] 46 (0,0));rw[x8]at k5;have k4:=(a8.block _ E4).trans (iJ l (.cells #[.bool (decide (p<0)),.slice s m0 n0] 46 (0,0)));have bz:=aB (o:=0) ((a7.block _ (bL K6)).trans K6) rfl;have t3:=aB (o:=3) (S6.up a7).1 rfl;have t4:=aB (o:=4) (S6.up a7).1 rfl
    go_wp2_with fail
    clear k0 bz t3 t4 s1 s2;have a9:=a7.trans (a8.mono a7.size);have d7:=F.trans (a9.mono F.size);have f7:=t.trans (a9.mono t.size);have R7:=(a9.block _ (bL K6)).trans K6;have T7:=T6.up a9;have f:=pJ (On.below f7) n2.out;have n:=pJ (On.below f7) b3.out;generalize (l.alloc _).alloc _=w7 at*
    have HZ:∀W,Below w7.heap.size w7 W->(λW=>W.cell? ⟨b,0,X⟩=Y (.string (qI kd))/\C2 l.heap.size (.bool (decide (p<0))) (.slice s m0 n0) W/\C2 (l.heap.size+1) (.bool (decide (q<0))) (.slice P m1 n1) W/\W.cell? ⟨k2,1,X⟩=Y (.pointer (Y ⟨g,0,X⟩))/\W.cell? ⟨g,1,X⟩=Y (.bool (decide (a<0)))/\W.cell? ⟨g,2,X⟩=Y (.slice x0 l0 c0)/\W.cell? ⟨g,3,X⟩=Y (.bool (decide (U<0)))/\W.cell? ⟨g,4,X⟩=Y (.slice x1 l1 c1)) W:=λW T=>⟨(HS.out W (d7.trans (T.mono d7.size))).1,Kw k4 T,Kw k5 T,aB ((T.block _ (bL R7)).trans R7) rfl,aB (T7.up T).1 rfl,aB (T7.up T).1 rfl,aB (T7.up T).1 rfl,aB (T7.up T).1 rfl⟩
    refine mX (λW=>W.cell? ⟨b,0,X⟩=Y (.string (qI kd))/\C2 l.heap.size (.bool (decide (p<0))) (.slice s m0 n0) W/\C2 (l.heap.size+1) (.bool (decide (q<0))) (.slice P m1 n1) W/\W.cell? ⟨k2,1,X⟩=Y (.pointer (Y ⟨g,0,X⟩))/\W.cell? ⟨g,1,X⟩=Y (.bool (decide (a<0)))/\W.cell? ⟨g,2,X⟩=Y (.slice x0 l0 c0)/\W.cell? ⟨g,3,X⟩=Y (.bool (decide (U<0)))/\W.cell? ⟨g,4,X⟩=Y (.slice x1 l1 c1)) (λ_=>I) E0 ?_
    iterate 18 refine cH [0,1,2,3,4,5,6,7,8,9,10,11,12,13,14,15,16,17] 19 (HZ _ (bB w7)) ?_
    refine aW 18 (aSv kd ((Fy n).below (bB w7)) ((Qx n).below (bB w7)) ((Fy f).below (bB w7)) ((Qx f).below (bB w7)) (HQ.out p q rfl).2.2.1 (HQ.out p q rfl).2.2.2 (HP.out a U rfl).2.2.1 (HP.out a U rfl).2.2.2 (aYc (HQ.out p q rfl).1 (HP.out a U rfl).1 y.out)) ?_;rintro e w8⟨bb,rfl,ct,bq,ys,g4,g5⟩;have d8:=aX bq;refine⟨_,rfl,λ_=>HZ _ d8,?_⟩;refine bK 19 (λ_=>HZ _ d8) ?_;refine kC E0 ?_ _
    go_wp2_with fail
    rw[aYb]at g5;refine bodyPost_ret (v:=.pointer (Y ⟨bb,0,X⟩)) (by simp[results,results78,go_sem]) rfl ⟨d7.trans (d8.mono d7.size),?_⟩;rw[show pC kd (.fr p q) (.fr a U)=_ from if_neg y.out];exact⟨_,rfl,ys,_,_,g4,g5⟩
variable {w:Nat}
theorem b61 {n:Int}(h:RB w n)(a:w<=6100):Bits 1 n:=wS h (p5 a E3)
theorem aUp {t:Rd.Tr}(a:Wf t)(hc:32*iS t<=6100)(p q:Int)(h:dG t=Y (.fr p q)):Fg p q:=by
 obtain⟨_,e⟩:=Iq t _ a hc h;obtain⟨b,c,d⟩:=e p q rfl;exact⟨b,aRT t p q a hc h,b61 c hc,b61 d hc⟩
theorem aQt (h:cI w v x z):∃to g f,z=.slice to g f/\sO v (λ_=>X) x z:=by
 rcases h with⟨rfl,rfl⟩|⟨tb,a,b,rfl,_,c,d,e⟩
 .exact⟨_,_,_,rfl,Or.inl ⟨rfl,rfl⟩⟩
 .refine⟨_,_,_,rfl,A6 ⟨tb,a,b.toList.drop x.length,rfl,?_,rfl,d⟩⟩;rw[c,<-e,List.take_append_drop]
theorem aLp (h:gV w v k z){n:Int}(e:n=(k:Int)):Gy J v n z:=by
 obtain⟨a,b,c,d⟩:=h.open;subst e;exact⟨a,b,c,d⟩
theorem aSJ:∀(T:Rd.Tr) {f:Value} {g:World},REnc w v T f->Wf T->32*iS T<=6100->Fj T->Below v.heap.size v g->Calls prog 78 #[f] g (kL g (dG T)):=by
 intro T
 induction T with
 |nil=>intro f g h;exact h.elim
 |node n1 n2 a l r A M=>
  intro f g h hw hc B i;have af:iS (.node n1 n2 a l r)=iS l+iS r+1:=rfl;obtain⟨b,pv,qv,tv,U,rfl,_,hb,hn,R,L⟩:=h
  have q:TreeB v b (bG a.1) [.bool J,pv,.bool J,qv] tv U:=⟨hb,rfl⟩
  have leaf:∀u,l=.nil->r=.nil->dG (.node n1 n2 a l r)=Y u->kU g.heap.size g u b->Calls prog 78 #[.pointer (Y ⟨b,0,X⟩)] g (kL g (dG (.node n1 n2 a l r))):=by
   intro u n o hu p;subst n o
   have:U=.slice X 0 0:=by
    rcases L with⟨_,_,h⟩|⟨_,t,C,_,_,_,h⟩|⟨t,C,yv,_,_,_,h,_⟩
    .exact h
    .exact h.elim
    .exact h.elim
   subst this;refine(aNw (q.cell i).2.2).mono ?_;rintro e w'⟨rfl,rfl⟩;rw[hu];exact⟨Below.refl _ _,b,rfl,p⟩
  rcases hw with⟨hk,y,_,n,o⟩|⟨hk,_,_,n,o⟩|⟨hk,ah,h2,h9,_,n,o⟩|⟨hk,k,_,o⟩|⟨hk,k,s,_⟩
  .refine leaf (.fr a.2.1 1) n o (by rw[dG,if_pos hk]) ⟨_,_,_,by rw[hk]at q;exact q.up i,?_⟩
   rcases hn with⟨_,g1,g2⟩|⟨h,_⟩
   .have hz:=y.1;exact pJ (On.below i) ⟨by rw[decide_eq_false O],aLp g1 O,rfl,aLp g2 rfl,trivial⟩
   .exact absurd hk h
  .obtain⟨to,P,N,rfl,D⟩:=aQt R
   have e:bG a.1=Da (pN a.1):=by rcases hk with hk|hk<;>(rw[hk];rfl)
   rw[e]at q;exact leaf (.fE (pN a.1) a.2.2) n o (by rw[dG,if_neg O,if_pos O]) (kU.up (u:=.fE (pN a.1) a.2.2) i ⟨_,_,to,P,N,q,D⟩)
  .obtain⟨to,P,N,rfl,D⟩:=aQt R
   have e:bG a.1=Da (pN a.1):=by rw[hk];rfl
   rw[e]at q;exact leaf (.fE (pN a.1) a.2.2) n o (by rw[dG,if_neg O,if_pos O]) (kU.up (u:=.fE (pN a.1) a.2.2) i ⟨_,_,to,P,N,q,D⟩)
  .have x:a.1=5:=by have:=B.1;omega
   subst o
   rcases L with⟨n,_⟩|⟨_,t,C,rfl,_,j,z⟩|⟨t,C,yv,_,_,_,_,h⟩
   .subst n;exact k.elim
   .obtain⟨c,rfl⟩:=z.ptr;rw[dG,if_neg O,if_neg O,if_pos x];refine aQR (lb:=t) (c:=c) (cap:=1) (λW p=>?_) (λW p=>A z k O B.2.1 (i.trans (p.mono i.size))) (aUp k O);have m:=i.trans (p.mono i.size);have:=q.cell m;rw[x]at this;exact⟨this.1,this.2.2,aB ((m.block _ (bL j)).trans j) rfl⟩
   .exact h.elim
  .rcases L with⟨n,_⟩|⟨o,_⟩|⟨t,C,yv,rfl,_,j,z,S⟩
   .subst n;exact k.elim
   .subst o;exact s.elim
   .obtain⟨c,rfl⟩:=z.ptr;obtain⟨d,rfl⟩:=S.ptr;rw[dG,if_neg O,if_neg O,if_neg O,if_pos O];refine aQS (kd:=Cp a.1) (lb:=t) (c:=c) (d:=d) (cap:=2) (λW p=>?_) (λW p=>A z k O B.2.1 (i.trans (p.mono i.size))) (λW p=>M S s O B.2.2 (i.trans (p.mono i.size))) (aUp k O) (aUp s O);have m:=i.trans (p.mono i.size);have:=q.cell m
    have F:bG a.1=qI (Cp a.1):=by
     have:a.1=6\/a.1=7\/a.1=8\/a.1=9:=O
     rcases this with h|h|h|h<;>(rw[h];rfl)
    rw[F]at this;exact⟨this.1,this.2.2,aB ((m.block _ (bL j)).trans j) rfl,aB ((m.block _ (bL j)).trans j) rfl⟩
open Rf (Nd Inv Wt)
structure Qc (w:World) (own:dQ) (xb nb cb r:Nat) (m:Mt):Prop where
 ex:∃xs,w.heap[xb]?=Y (.cells (.pointer (Y ⟨nb,0,X⟩)::.pointer (Y ⟨cb,0,X⟩)::.int .i64 (r:Int)::xs).toArray 120 (0,0))/\dT w own (cM m) xs
 ow:own xb=Y (0,5)
structure nP (u:Wt) (c0:Nat) (P:Bool) (w0 w:World) (xb:Nat) (s:Rf.St) (top r:Nat) (m:Mt):Prop where
 ex:∃own at1 cb c n,(∀k,k<w0.heap.size->own k=X)/\NetX w own at1 cb s/\s.clock=((c:Nat):Int)/\c<=c0/\Inv s.nodes c/\s.nodes[top]?=Y n/\n.pos=P/\r<=n.out.length/\top<u.size/\Qc w own xb (at1 top) cb r m
 below:Below w0.heap.size w0 w
 bits:cO (2*r+1) m
theorem bBa (w:World)(A B C:Obj):Below w.heap.size w (((w.alloc A).alloc B).alloc C):=(((Below.refl w.heap.size w).alloc (j8 _) A).alloc E4 B).alloc (by simp;omega) C
section
variable {w w':World} {own own':dQ} {at1:NN} {ns:List Nd} {nb xb cb r f:Nat} {m:Mt} {s:Rf.St}
theorem aJA (h:NodsX w own at1 ns):Calls prog 85 #[.pointer (Y ⟨nb,0,X⟩),.int .i64 (f:Int)] w λe w'=>∃xb cb own',e=.returned (.pointer (Y ⟨xb,0,X⟩))/\NetX w' own' at1 cb ⟨ns,(f:Int)⟩/\Qc w' own' xb nb cb 0 Rf.one/\gU w own own'/\Below w.heap.size w w':=by
 go_in
 go_wp2_with fail
 refine(Zd 1 w E3).mono ?_;rintro e b⟨v,rfl,⟨y,N,rfl,p,z,C⟩,q,l⟩;obtain⟨a0,a,c0,rfl⟩:=Io p
 go_wp2_with fail
 have A:=Kz b (.cells (r9 [.bool J,.slice a0 a c0]) 46 (0,0)) (.cells (r9 [.int .i64 (f:Int)]) 209 (0,0)) (.cells (r9 [.pointer (Y ⟨nb,0,X⟩),.pointer (Y ⟨b.heap.size+1,0,X⟩),.int .i64 0,.bool J,.slice a0 a c0,.bool J,nilR,.bool J,nilR,.bool J,.slice a0 a c0]) 120 (0,0));have B:=bBa b (.cells (r9 [.bool J,.slice a0 a c0]) 46 (0,0)) (.cells (r9 [.int .i64 (f:Int)]) 209 (0,0)) (.cells (r9 [.pointer (Y ⟨nb,0,X⟩),.pointer (Y ⟨b.heap.size+1,0,X⟩),.int .i64 0,.bool J,.slice a0 a c0,.bool J,nilR,.bool J,nilR,.bool J,.slice a0 a c0]) 120 (0,0));have M:=q.size;have D:=q.trans (B.mono M)
 have u:Gy J b 1 (.slice a0 a c0):=⟨y,p,z,C⟩
 have j:eK w.heap.size b (cM Rf.one) [.bool J,.slice a0 a c0,.bool J,nilR,.bool J,nilR,.bool J,.slice a0 a c0]:=by
  refine⟨⟨rfl,u,rfl,Kf J _,rfl,Kf J _,rfl,u,trivial⟩,λx c=>?_⟩;have F:=l (.slice a0 a c0) E4;simp only[s7,List.not_mem_nil,or_false]at c
  rcases c with rfl|rfl|rfl|rfl|rfl|rfl|rfl|rfl<;>first|exact F|trivial
 have t:gU w own λk=>if k=b.heap.size+1 then Y (0,4)else if k=b.heap.size+1+1 then Y (0,5)else own k:=λk d=>by
  simp only;rw[if_neg O,if_neg O]
 refine bodyPost_ret (v:=.pointer (Y ⟨b.heap.size+1+1,0,X⟩)) (by simp[results,results85,go_sem]) rfl ⟨_,b.heap.size+1,_,rfl,⟨λi n L=>(h.nd i n L).keep (D:=[]) (Kp.cQ D) (λk d=>by cases d) t,A.2.1,if_pos rfl,λk d=>?_⟩,⟨⟨_,A.2.2,(j.up B (j8 _)).1,λx c=>?_⟩,?_⟩,t,D⟩
 .simp only[x8]at d;rw[if_neg O,if_neg O];exact h.new k O
 .have g:=j.2 x c;have o:=Ol j.1 x c;unfold iU at g;unfold Nr at o;unfold lW;split
  .simp only at g o ⊢;rw[if_neg O,if_neg O];exact h.new _ g
  .trivial
 .simp
end
end Ab
namespace Rf
noncomputable def readK (f:Nat):Nat->St->Nat->Nat->Option (List Int)
 |0,_,_,_=>Y []
 |m+1,s,d,r=>match sym f s d r with
  |some (a,Y z)=>(readK f m a d (r+1)).map (z::·)
  |_=>X
def cD (t:Wt):Nat:=3002+t.size
noncomputable def symsT (t:Wt)(k c:Nat):Option (List Int):=
 (of t []).bind λx=>(x.1[x.2]?).bind λn=>if n.pos=I then(readK (cD t) k ⟨x.1,c⟩ x.2 0).map (43::·)else readK (cD t) (k+1) ⟨x.1,c⟩ x.2 0
theorem Ww {w:Nat}:∀(m:Nat) (s:St) (d r:Nat) (l:LB),readK w m s d r=Y l->l.length=m
 |0,s,d,r,l,h=>by cases h;rfl
 |m+1,s,d,r,l,h=>by
  unfold readK at h;split at h
  .rename_i e z b;obtain⟨c,a,rfl⟩:=u5.1 h;simp[Ww m _ _ _ _ a]
  .cases h
theorem aJb {t:Wt}{c:Nat}{l:LB}(h:symsT t k c=Y l):l.length=k+1:=by
 obtain⟨x,e,b⟩:=u6.1 h;obtain⟨n,f,a⟩:=u6.1 b;split at a
 .obtain⟨g,d,rfl⟩:=u5.1 a;simp[Ww _ _ _ _ _ d]
 .exact Ww _ _ _ _ _ a
end Rf
namespace Ab
open Rf (Nd Inv Wt cD)
def Pw (u:Wt)(c0:Nat)(P:Bool)(w0:World)(xb:Nat)(s:Rf.St)(top r:Nat)(m:Mt)(e:Ending)(w':World):Prop:=
 (e=.returned (.tuple #[.int .i64 0,.bool J])/\Below w0.heap.size w0 w'/\∃a,Rf.sym (cD u) s top r=Y (a,X))\/
  ∃a z,e=.returned (.tuple #[.int .i64 z,.bool I])/\Rf.sym (cD u) s top r=Y (a,Y z)/\z∈(if P=J/\r=0 then [43,45,111,119]else [-1,1,0]:LB)/\nP u c0 P w0 w' xb a top (r+1) (m.mul (Mt.sym z))
section
variable {u:Wt} {c0:Nat} {P:Bool} {w0 w w':World} {own own':dQ} {at1:NN} {nb xb cb r top:Nat} {m:Mt} {s:Rf.St}
theorem KeptX.bBG (h:KeptX w w' own own')(a:Below w0.heap.size w0 w)(c:∀k,k<w0.heap.size->own k=X):Below w0.heap.size w0 w':=
 ⟨h.os.trans a.os,h.tape.trans a.tape,h.output.trans a.output,p5 a.size h.size,λk b=>(h.low k (p6 b a.size) λo e=>by rw[c k b]at e;cases e).trans (a.block k b)⟩
theorem dT.kept (f:KeptX w w' own own'):∀{zs:LB} {xs:PH},dT w own zs xs->dT w' own' zs xs
 | [],[],_=>⟨trivial,λx B=>by cases B⟩
 |z::zs,x::y::xs,⟨⟨k,⟨i,q,t⟩,v⟩,l⟩=>by
  obtain⟨k1,k2⟩:=dT.kept f (zs:=zs) (xs:=xs) ⟨v,λu hu=>l u (by simp[hu])⟩;have n:=l y E4
  have g:Ints w' i y/\lW own' X y:=by
   obtain⟨j,d⟩:=q
   rcases d with⟨rfl,d⟩|⟨g,b,c,rfl,A,p,r⟩
   .exact⟨⟨j,Or.inl ⟨rfl,d⟩⟩,trivial⟩
   .have a:=bL p;exact⟨⟨j,A6 ⟨g,b,c,rfl,A,(f.low g a λo e=>by rw[show own g=X from n]at e;cases e).trans p,r⟩⟩,(f.ext g a).trans n⟩
  refine⟨⟨k,⟨i,g.1,t⟩,k1⟩,λu hu=>?_⟩;simp only[s7]at hu
  rcases hu with rfl|rfl|hu
  .rw[k];trivial
  .exact g.2
  .exact k2 u hu
 | [],_::_,h=>h.1.elim
 |_::_,[],h=>h.1.elim
 |_::_,[_],h=>h.1.elim
theorem NetX.aside (h:NetX w own at1 cb s)(b:Kp w w' [xb])(c:own xb=Y (0,5)):NetX w' own at1 cb s:=by
 refine⟨λi n d=>(h.nd i n d).keep b (λk a=>?_) λ_ _=>rfl,b.at h.Gg λe=>?_,h.ck,λk a=>h.new k (p5 b.size a)⟩
 .simp at a;exact⟨_,a▸c,A6 E3⟩
 .simp at e;have:=h.ck;rw[e,c]at this;cases this
theorem aGy (h3:c0<=3000)(h:nP u c0 P w0 w xb s top r m)(hr:r<=100):Calls prog 56 #[.pointer (Y ⟨xb,0,X⟩)] w (Pw u c0 P w0 xb s top r m):=by
 obtain⟨own,at1,cb,c,n,o0,hN,h1,h2,hI,h4,b2,h5,h6,⟨⟨xs,l,ad⟩,B⟩⟩:=h.ex
 have hf:c+top+2<=cD u:=by unfold cD;omega
 obtain⟨x,hx,hp⟩:=Rf.total (cD u) s top r c h1 O hI n h4 h5 hf
 have SY:=hid λ(W:World) (t:Below w.heap.size w W)=>aVx (cD u) W own at1 cb s c top r n x (hN.still t) h1 O hI h4 h5 hf hx
 obtain⟨a0,l0,k0,a1,l1,k1,a2,l2,k2,a3,l3,k3,rfl⟩:=eN ad.1;have q0:w.cell? ⟨xb,0,X⟩=Y (.pointer (Y ⟨at1 top,0,X⟩)):=aB l rfl;have q1:w.cell? ⟨xb,1,X⟩=Y (.pointer (Y ⟨cb,0,X⟩)):=aB l rfl;have q2:w.cell? ⟨xb,2,X⟩=Y (.int .i64 (r:Int)):=aB l rfl
 go_in
 go_wp2_with fail
 refine mX (λW:World=>W.cell? ⟨xb,0,X⟩=Y (.pointer (Y ⟨at1 top,0,X⟩))/\W.cell? ⟨xb,1,X⟩=Y (.pointer (Y ⟨cb,0,X⟩))/\W.cell? ⟨xb,2,X⟩=Y (.int .i64 (r:Int))) (λ_=>I) E0 ?_
 iterate 12 refine cH [0,1,2,3,4,5,6,7,8,9,10,11] 17 ⟨q0,q1,q2⟩ ?_
 refine aW 12 (SY.out _ (bB w)) ?_;rintro e L⟨rfl,C,p,T⟩
 have p:KeptX w L own C:=⟨p.os,p.tape,p.output,p.size,p.low,p.ext⟩
 have q:=(p.low xb (bL l) λo e=>by rw[B]at e;cases e;rfl).trans l;have p0:L.cell? ⟨xb,0,X⟩=Y (.pointer (Y ⟨at1 top,0,X⟩)):=aB q rfl;have p1:L.cell? ⟨xb,1,X⟩=Y (.pointer (Y ⟨cb,0,X⟩)):=aB q rfl;have p2:L.cell? ⟨xb,2,X⟩=Y (.int .i64 (r:Int)):=aB q rfl;refine⟨_,rfl,λ_=>⟨p0,p1,p2⟩,?_⟩
 iterate 3 refine cH [13,14,15] 4 ⟨p0,p1,p2⟩ ?_
 refine bK 16 (λ_=>⟨p0,p1,p2⟩) ?_;refine bK 17 (λ_=>⟨p0,p1,p2⟩) ?_;refine kC E0 ?_ _;have b1:=p.bBG h.below o0;obtain⟨s',z⟩:=x
 cases z with
 |none=>
  go_wp2_with fail
  exact bodyPost_ret (v:=.tuple #[.int .i64 0,.bool J]) (by simp[results,results56,go_sem]) rfl (Or.inl ⟨rfl,b1,s',hx⟩)
 |some z=>
  have U:=T rfl;obtain⟨c',g1,g2,g3,g4,n',g5,g6⟩:=hp.ex z rfl;obtain⟨n2,i1,i2,_⟩:=g4.le.at' top n h4;rw[g5]at i1;cases i1
  have aa:n'.pos=P:=by grind
  obtain⟨n3,i3,i4⟩:=Rf.Sa _ _ _ _ _ _ hx;rw[g5]at i3;cases i3;have hz:=(g3.at' top n' g5).fst.2 r z i4;rw[aa]at hz;clear i2 i4;have f2:=dP (o:=2) q
  go_wp2_with fail
  have S2:=zX q 2 (.int .i64 ((r:Int)+1));have ab:=S2.blk;have K2:=Kp.Im S2;clear S2 p0 p1 p2 q0 q1 q2 q f2 SY T;generalize y8 L _ _=w2 at*
  have f:=λ(W:World) (t:Below w2.heap.size w2 W)=>(t.block _ (bL ab)).trans ab
  have M:∀W,Below w2.heap.size w2 W->(λW:World=>W.cell? ⟨xb,3,X⟩=Y (.bool (decide (m.a<0)))/\W.cell? ⟨xb,4,X⟩=Y (.slice a0 l0 k0)/\W.cell? ⟨xb,5,X⟩=Y (.bool (decide (m.b<0)))/\W.cell? ⟨xb,6,X⟩=Y (.slice a1 l1 k1)/\W.cell? ⟨xb,7,X⟩=Y (.bool (decide (m.c<0)))/\W.cell? ⟨xb,8,X⟩=Y (.slice a2 l2 k2)/\W.cell? ⟨xb,9,X⟩=Y (.bool (decide (m.d<0)))/\W.cell? ⟨xb,10,X⟩=Y (.slice a3 l3 k3)) W:=λW t=>⟨aB (f W t) rfl,aB (f W t) rfl,aB (f W t) rfl,aB (f W t) rfl,aB (f W t) rfl,aB (f W t) rfl,aB (f W t) rfl,aB (f W t) rfl⟩
  refine mX (λW:World=>W.cell? ⟨xb,3,X⟩=Y (.bool (decide (m.a<0)))/\W.cell? ⟨xb,4,X⟩=Y (.slice a0 l0 k0)/\W.cell? ⟨xb,5,X⟩=Y (.bool (decide (m.b<0)))/\W.cell? ⟨xb,6,X⟩=Y (.slice a1 l1 k1)/\W.cell? ⟨xb,7,X⟩=Y (.bool (decide (m.c<0)))/\W.cell? ⟨xb,8,X⟩=Y (.slice a2 l2 k2)/\W.cell? ⟨xb,9,X⟩=Y (.bool (decide (m.d<0)))/\W.cell? ⟨xb,10,X⟩=Y (.slice a3 l3 k3)) (λj=>!(j==10)) E0 ?_
  iterate 6 refine cH [0,1,2,3,4,5] 10 (M _ (bB w2)) ?_
  refine aW 6 (aIM z _) ?_;rintro e v1⟨cj,rfl,av,ax⟩;have R:=aX ax;refine⟨_,rfl,λ_=>M _ R,?_⟩
  have au:aP J v1 (cM m) [.bool (decide (m.a<0)),.slice a0 l0 k0,.bool (decide (m.b<0)),.slice a1 l1 k1,.bool (decide (m.c<0)),.slice a2 l2 k2,.bool (decide (m.d<0)),.slice a3 l3 k3]:=by
   exact pJ (On.below R) ((ad.kept p).keep K2 (λk A e=>by simp at A;rw[A,(p.ext xb (bL l)).trans B]at e;cases e) λ_ _=>rfl).1
  refine aW 7 (aGg au av (Ei (N:=2*r+1) O h.bits) (aQl z)) ?_;rintro e v2⟨ck,rfl,D,ay⟩;obtain⟨al,e0,f0,am,e1,f1,ao,e2,f2,aq,e3,f3,rfl⟩:=eN D.1;have S:=R.trans (ay.mono R.size);refine⟨_,rfl,λ_=>M _ S,?_⟩;refine bK 8 (λ_=>M _ S) ?_;refine bK 9 (λ_=>M _ S) ?_;have g:=f _ S;have k0:=aB (o:=3) g rfl;have j0:=dP (o:=3) g;have k1:=aB (o:=4) g rfl;have j1:=dP (o:=4) g;have k2:=aB (o:=5) g rfl;have j2:=dP (o:=5) g;have k3:=aB (o:=6) g rfl;have j3:=dP (o:=6) g;have k4:=aB (o:=7) g rfl;have j4:=dP (o:=7) g;have k5:=aB (o:=8) g rfl;have j5:=dP (o:=8) g;have k6:=aB (o:=9) g rfl;have j6:=dP (o:=9) g;have k7:=aB (o:=10) g rfl;have j7:=dP (o:=10) g;refine Ig (i:=10) E0 rfl (λK T=>?_)
  go_simp
  refine T.out _ _ (λh=>absurd h E3) ?_;clear T K;refine kC E0 ?_ _;have S8:=(((((((zX g 3 (.bool (decide ((m.mul (Mt.sym z)).a<0)))).dZ 4 (.slice al e0 f0)).dZ 5 (.bool (decide ((m.mul (Mt.sym z)).b<0)))).dZ 6 (.slice am e1 f1)).dZ 7 (.bool (decide ((m.mul (Mt.sym z)).c<0)))).dZ 8 (.slice ao e2 f2)).dZ 9 (.bool (decide ((m.mul (Mt.sym z)).d<0)))).dZ 10 (.slice aq e3 f3);clear k0 k1 k2 k3 k4 k5 k6 k7 j0 j1 j2 j3 j4 j5 j6 j7;generalize y8 (y8 _ _ _) _ _=w7 at*
  go_wp2_with fail
  have o1:C xb=Y (0,5):=(p.ext xb (bL l)).trans B;have K8:=Kp.Im S8;have F:Kp L w7 [xb]:=K2.trans ((Kp.cQ S).trans K8)
  have low:Below w0.heap.size w0 w7:=⟨F.os.trans b1.os,F.tape.trans b1.tape,F.output.trans b1.output,p5 b1.size F.size,λk A=>(F.low k (p6 A b1.size) (by
   intro e;simp at e;subst e;rw[o0 k A]at B
   cases B)).trans (b1.block k A)⟩
  refine bodyPost_ret (v:=.tuple #[.int .i64 z,.bool I]) (by simp[results,results56,go_sem]) rfl (A6 ⟨s',z,rfl,hx,hz,⟨C,at1,cb,c',n',λk A=>?_,U.aside F o1,g2,O,g3,g5,aa,g6,h6,⟨⟨_,S8.blk,dT.keep ⟨D.1,λy hy=>?_⟩ K8 (λk A e=>?_) λ_ _=>rfl⟩,o1⟩⟩,low,Rf.aDl h.bits z⟩)
  .rw[p.ext k (p6 A h.below.size)];exact o0 k A
  .have:=(D.2 y hy).cJ (p5 K2.size R.size);unfold iU at this;unfold lW;split
   .exact U.new _ this
   .trivial
  .simp at A;rw[A,o1]at e;cases e
end
def nM (k f:Int):Prop:=k<0\/60<k\/f<0\/3000<f
theorem aO9 {w:World}{k b:Int}{z:Value}(h:nM k b):Calls prog 54 #[.int .i64 k,.int .i64 b,z] w λe a=>e=.returned (.int .i64 4)/\a=w:=by
 unfold nM at h
 by_cases c:k<0
 .clear h
  go_in
  go_wp2_with fail
  exact bodyPost_ret (v:=.int .i64 4) (by simp[results,results54,go_sem]) rfl ⟨rfl,rfl⟩
 by_cases d:60<k
 .clear h
  go_in
  go_wp2_with fail
  exact bodyPost_ret (v:=.int .i64 4) (by simp[results,results54,go_sem]) rfl ⟨rfl,rfl⟩
 by_cases g:b<0
 .clear h
  go_in
  go_wp2_with fail
  exact bodyPost_ret (v:=.int .i64 4) (by simp[results,results54,go_sem]) rfl ⟨rfl,rfl⟩
 have i:3000<b:=O
 clear h
 go_in
 go_wp2_with fail
 exact bodyPost_ret (v:=.int .i64 4) (by simp[results,results54,go_sem]) rfl ⟨rfl,rfl⟩
theorem Zr {f p:Nat}{z:Value}{o:Option Wt}(l:k<=60)(i:f<=3000)(j:v.cell? ⟨p,0,X⟩=Y z)(hv:∃b,z=.pointer (Y ⟨b,0,X⟩))(d:Calls prog 78 #[z] v (kL v o)):Calls prog 54 #[.int .i64 (k:Int),.int .i64 (f:Int),.slice (Y ⟨p,0,X⟩) 1 1] v λe h=>e=.returned (.int .i64 (if o.isSome then 0 else 5))/\Below v.heap.size v h:=by
 obtain⟨b,rfl⟩:=hv;have HC:=hid d;clear d
 have k0:¬(k:Int)<0:=O
 have k1:¬60<(k:Int):=O
 have f0:¬(f:Int)<0:=O
 have f1:¬3000<(f:Int):=O
 go_in
 go_wp2_with fail
 refine wp_loop_rounds 3 ?_;rw[rounds_succ]
 go_wp2_with fail
 refine HC.out.mono ?_;rintro e m⟨a,c⟩
 cases o with
 |none=>
  cases c
  go_wp2_with fail
  exact bodyPost_ret (v:=.int .i64 5) (by simp[results,results54,go_sem]) rfl ⟨rfl,a⟩
 |some u=>
  obtain⟨b1,rfl,_⟩:=c
  go_wp2_with fail
  rw[rounds_succ]
  go_wp2_with fail
  exact bodyPost_ret (v:=.int .i64 0) (by simp[results,results54,go_sem]) rfl ⟨rfl,a⟩
theorem aLs {w:World}{c:Nat}{A:Wt}(hc:c<=3000)(p:A.Ok)(t:Calls prog 78 #[.pointer (Y ⟨b,0,X⟩)] w (kL w (Y A))):Calls prog 55 #[.pointer (Y ⟨b,0,X⟩),.int .i64 (c:Int)] w λe T=>∃g ns d n,e=.returned (.pointer (Y ⟨g,0,X⟩))/\Rf.of A []=Y (ns,d)/\ns[d]?=Y n/\nP A c n.pos w T g ⟨ns,c⟩ d 0 Rf.one:=by
 obtain⟨ns,d,j,N,hd,_,R⟩:=Rf.wV A [] p hc (Rf.Rx c);have HC:=hid t;have F:=hid p;clear t p
 go_in
 go_wp2_with fail
 refine HC.out.mono ?_;rintro e U⟨m,b1,rfl,B⟩;have L:=hid B;clear B
 go_wp2_with fail
 have r:NodsX U (λ_=>X) (λ_=>0) []:=⟨λi n o=>by simp at o,λ_ _=>rfl⟩
 refine(Zt A L.out F.out (Below.refl _ _) r (λn o=>by cases o) (λ_ _=>rfl) j).mono ?_;rintro e w2⟨b2,rfl,a⟩;have q:=hid a;clear a r;obtain⟨own,at2,k1,k2,k3,S⟩:=q.out.ex
 go_wp2_with fail
 refine(aJA (f:=c) k1).mono ?_;rintro e W⟨g,M,l,rfl,y,z,x,s⟩;have D:=q.out.below;have e2:=m.trans (D.mono m.size);have h:=q9 hd
 have P:nP A c ns[d].pos w W g ⟨ns,c⟩ d 0 Rf.one:=by
  refine⟨⟨l,at2,M,c,ns[d],λk C=>?_,y,rfl,j8 _,N.inv,h,rfl,j9 _,by simp at R;omega,S▸z⟩,e2.trans (s.mono e2.size),⟨Rf.mN E3,Rf.lF,Rf.lF,Rf.mN E3⟩⟩;rw[x k (p6 C e2.size),k2 k (p6 C m.size)]
 clear y z x s
 go_wp2_with fail
 exact bodyPost_ret (v:=.pointer (Y ⟨g,0,X⟩)) (by simp[results,results55,go_sem]) rfl ⟨g,ns,d,ns[d],rfl,j,h,P⟩
end Ab
end Go.Proofs.YtnlddnbfoehboaaGreatDoor
