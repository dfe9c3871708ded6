import Derived.Test.YtnlddnbfoehboaaGreatDoorRows
import Derived.WalkKit
import Derived.WalkSpells
import Derived.WalkLawsBesides
import Derived.BigQuiet
import Derived.Deep.Trees
import Derived.Deep.LoopGhost
set_option linter.all false
set_option maxRecDepth 100000
set_option maxHeartbeats 2000000
namespace Go.Proofs.YtnlddnbfoehboaaGreatDoor
theorem O{p:Prop}(h:p:=by omega):p:=h
theorem E0{p:Prop}(h:p:=by kernel_rfl):p:=h
theorem E3{p:Prop}(h:p:=by decide):p:=h
theorem E4{p:Prop}(h:p:=by simp):p:=h
open Option renaming some->Y,none->X
open Bool renaming true->I,false->J
open Option.some renaming injEq->j8,inj->j9
open Nat renaming le_refl->o9,zero_le->p5,le_trans->p6,lt_of_lt_of_le->p8
open Prod.mk renaming injEq->q8
open Go.Value renaming int->q9,ownBlock->r5,pointer->r7
open Go.World renaming setCell->r8
open Go.Proofs.Tryz
abbrev LI:=Nat->Option (Nat×Nat)
abbrev LV:=List (Int×Nat)
abbrev LB:=List Int
abbrev PH:=List Value
abbrev NU:=List Nat
abbrev NN:=Nat->Nat
abbrev EW:=Ending->World->Prop
abbrev FF:=List UInt8
abbrev XW:=Option Nat
abbrev AW:=FuncId->Option Func
abbrev LL:=Exit->Act->World->Prop
namespace Rd
def aY (n:Int):Bool:=decide (48<=n/\n<=57)
def isLet (n:Int):Bool:=decide (97<=n/\n<=122)
def kindOf (n:Int):Int:=bif aY n then 1 else bif isLet n then 2 else 3
def aQ (s:ByteArray)(k:Nat):Int:=((s.data.toList.getD k 0).toNat:Int)
theorem wP (s:ByteArray)(k:Nat)(h:k<s.size):aQ s k=(s[k].toNat:Int):=by
 unfold aQ
 have e:s.data[k]?=Y (s[k]):=by rw[Array.getElem?_eq_getElem h];rfl
 simp[e]
def bF (s:ByteArray)(a:Nat):Nat->Nat->Nat
 |0,e=>e
 |f+1,e=>bif decide (e<s.size/\e-a<9)&&aY (aQ s e)then bF s a f (e+1)else e
def bE (s:ByteArray):Nat->Nat->Nat
 |0,e=>e
 |f+1,e=>bif decide (e<s.size)&&(isLet (aQ s e)||aY (aQ s e))then bE s f (e+1)else e
theorem aPn (s:ByteArray)(a:Nat):∀f e,e<=bF s a f e:=by
 intro f
 induction f with
 |zero=>intro e;exact o9 _
 |succ f b=>
  unfold bF;grind
theorem aPm (s:ByteArray)(a:Nat):∀f e,e<=s.size->bF s a f e<=s.size:=by
 intro f
 induction f with
 |zero=>intro e h;exact h
 |succ f b=>
  unfold bF;grind
theorem aMO (s:ByteArray):∀f e,e<=bE s f e:=by
 intro f
 induction f with
 |zero=>intro e;exact o9 _
 |succ f a=>
  unfold bE;grind
theorem aMN (s:ByteArray):∀f e,e<=s.size->bE s f e<=s.size:=by
 intro f
 induction f with
 |zero=>intro e h;exact h
 |succ f a=>
  unfold bE;grind
structure Wd where
 kind:Int
 text:ByteArray
 pos:Nat
def aF (s:ByteArray)(a:Nat):Nat:=
 bif Rd.aY (aQ s a)then bF s a 9 (a+1)else bif Rd.isLet (aQ s a)then bE s s.size (a+1)else a+1
def split (s:ByteArray):Nat->Nat->List Wd
 |0,_=>[]
 |f+1,a=>
  bif decide (a<s.size)then
   bif aQ s a != 32 then⟨kindOf (aQ s a),s.extract a (aF s a),a⟩::split s f (aF s a)
   else split s f (aF s a)
  else [⟨0,⟨#[]⟩,s.size⟩]
theorem Ep (s:ByteArray)(a:Nat):a+1<=aF s a:=by grind [aF,aPn,aMO]
theorem Eo (s:ByteArray)(a:Nat)(h:a<s.size):aF s a<=s.size:=by grind [aF,aPm,aMN]
def dS:List Wd->List Value
 | []=>[]
 |w::r=>.int .i64 w.kind::.string w.text::.int .i64 w.pos::dS r
theorem aEy (a b:List Wd):dS (a++b)=dS a++dS b:=by
 induction a with
 |nil=>rfl
 |cons x r c=>simp[dS,c]
def valTo (t:ByteArray):Nat->Int
 |0=>0
 |k+1=>bif aY (aQ t k)then valTo t k*10+(aQ t k-48)else valTo t k
theorem Rm (t:ByteArray):∀k,0<=valTo t k:=by
 intro k
 induction k with
 |zero=>exact Int.le_refl _
 |succ k a=>
  unfold valTo
  cases h:aY (aQ t k)with
  |false=>exact a
  |true=>
   simp[aY]at h;simp;omega
theorem aSG (t:ByteArray):∀k,valTo t k<(10:Int)^k:=by
 intro k
 induction k with
 |zero=>simp[valTo]
 |succ k b=>
  unfold valTo;have a:=Rm t k
  cases h:aY (aQ t k)with
  |false=>simp;omega
  |true=>
   simp[aY]at h;simp;omega
theorem Yb (t:ByteArray)(k:Nat)(h:k<=9):valTo t k<1000000000:=by
 have a:=aSG t k
 have b:(10:Int)^k<=10^9:=by
  have:=Nat.pow_le_pow_right (n:=10) O h;exact_mod_cast this
 omega
def isT (t:ByteArray)(c:FF):Bool:=t.data.toList==c
theorem aS5 (t:ByteArray)(c:FF):(t.toList==c)=isT t c:=by unfold isT;rw[ByteArray.toList_eq]
def named (t:ByteArray):Int:=
 bif isT t [112,105]then 2 else bif isT t [101]then 3 else bif isT t [99,102]then 4 else bif isT t [115,113,114,116]then 10
 else bif isT t [101,120,112]then 11 else bif isT t [108,110,49,112]then 12 else bif isT t [97,116,97,110]then 13 else 0
structure St where
 next:Nat
 around:Nat
 deepest:Nat
 nodes:Nat
def aA (a:List Wd)(n:Nat):Wd:=a.getD n ⟨0,⟨#[]⟩,0⟩
theorem aQP:∀(a:List Wd) (n:Nat),n<a.length->(dS a)[n*3]?=Y (.int .i64 (aA a n).kind)/\(dS a)[n*3+1]?=Y (.string (aA a n).text)/\(dS a)[n*3+2]?=Y (.int .i64 (aA a n).pos):=by
 intro a
 induction a with
 |nil=>intro n h;simp at h
 |cons x r b=>
  intro n h
  cases n with
  |zero=>simp[dS,aA]
  |succ n=>
   have:=b n (by simpa using h)
   simpa[dS,aA,Nat.add_mul]using this
end Rd
open Go.RowKit
theorem Iu {k:IntKind}{a b:Int}(h:a=b):Ending.returned (.int k a)=.returned (.int k b):=by rw[h]
theorem Kc (n:Int)(w:World):
  Calls prog 203 #[.int .u8 n] w λe a=>e=.returned (.bool (Rd.aY n))/\w=a:=by
 by_cases b:48<=n
 all_goals
  go_wp2
  go_ret
  exact⟨by simp[Rd.aY];omega,rfl⟩
theorem Vo (n:Int)(w:World):
  Calls prog 204 #[.int .u8 n] w λe a=>e=.returned (.bool (Rd.isLet n))/\w=a:=by
 by_cases b:97<=n
 all_goals
  go_wp2
  go_ret
  exact⟨by simp[Rd.isLet];omega,rfl⟩
theorem Vz (n:Int)(w:World):
  Calls prog 167 #[.int .u8 n] w λe a=>e=.returned (.int .i64 (Rd.kindOf n))/\w=a:=by
 cases b:Rd.aY n
 all_goals cases c:Rd.isLet n
 all_goals
  go_in
  go_wp2_with (first|(go_at_call 203;refine(Kc _ _).mono ?_;rintro e a⟨rfl,rfl⟩)|(go_at_call 204;refine(Vo _ _).mono ?_;rintro e a⟨rfl,rfl⟩))
  go_ret
  exact⟨by simp[Rd.kindOf,b,c],rfl⟩
theorem aHw (s:ByteArray)(a:Nat)(w:World)(m:s.size<=120)(l:a<s.size):
  Calls prog 168 #[.string s,.int .i64 a] w λe g=>e=.returned (.int .i64 (Rd.bF s a 9 (a+1)))/\w=g:=by
 go_in
 go_wp2_with fail
 go_loop [5] (λe=>∃k:Nat,a+1<=k/\k<=a+9/\k<=s.size/\e=.int .i64 k/\Hid (Rd.bF s a (a+10-k) k=Rd.bF s a 9 (a+1))) (λe=>s.size-(intOf e).toNat)
 case atStart=>exact⟨a+1,O,O,O,by go_num,by rw[show a+10-(a+1)=9 by omega];rfl⟩
 case round=>
  obtain⟨k,h,i,j,rfl,c⟩:=hrel
  obtain⟨f,d⟩:∃f,a+10-k=f+1:=⟨a+9-k,O⟩
  have b:Hid (a+10-k=f+1):=d
  by_cases c1:k<s.size
  .by_cases c2:(k:Int)-a<9
   .cases c3:Rd.aY (s[k].toNat:Int)
    .go_wp2_with (go_at_call 203;refine(Kc _ _).mono ?_)
     go_ret
     rw[<-c.out,b.out,Rd.bF,Rd.wP s k c1,c3];simp
    .go_wp2_with (go_at_call 203;refine(Kc _ _).mono ?_)
     go_round
     case rel=>
      refine⟨k+1,O,O,O,by go_num,?_⟩;show Rd.bF s a (a+10-(k+1)) (k+1)=_
      have e1:a+10-(k+1)=f:=by have:=b.out;omega
      rw[e1,<-c.out,b.out]
      conv=>rhs;rw[Rd.bF,Rd.wP s k c1,c3]
      simp[c1,show k-a<9 by omega]
     case measure=>simp[intOf];omega
   .go_wp2_with fail
    go_ret
    rw[<-c.out,b.out,Rd.bF,decide_eq_false O];simp
  .go_wp2_with fail
   go_ret
   rw[<-c.out,b.out,Rd.bF,decide_eq_false O];simp
theorem aJ4 (s:ByteArray)(a:Nat)(w:World)(l:s.size<=120)(j:a<s.size):
  Calls prog 169 #[.string s,.int .i64 a] w λe d=>e=.returned (.int .i64 (Rd.bE s s.size (a+1)))/\w=d:=by
 go_in
 go_wp2_with fail
 go_loop [5] (λe=>∃k:Nat,a+1<=k/\k<=s.size/\e=.int .i64 k/\Hid (Rd.bE s (s.size+a+1-k) k=Rd.bE s s.size (a+1))) (λe=>s.size-(intOf e).toNat)
 case atStart=>exact⟨a+1,O,O,by go_num,by rw[show s.size+a+1-(a+1)=s.size by omega];rfl⟩
 case round=>
  obtain⟨k,h,i,rfl,c⟩:=hrel
  obtain⟨f,g⟩:∃f,s.size+a+1-k=f+1:=⟨s.size+a-k,O⟩
  have b:Hid (s.size+a+1-k=f+1):=g;clear g
  by_cases c1:k<s.size
  .cases c2:Rd.isLet (s[k].toNat:Int)
   .cases c3:Rd.aY (s[k].toNat:Int)
    .go_wp2_with (first|(go_at_call 203;refine(Kc _ _).mono ?_;rintro e d⟨rfl,rfl⟩)|(go_at_call 204;refine(Vo _ _).mono ?_))
     go_ret
     refine⟨Iu ?_,rfl⟩;rw[<-c.out,b.out,Rd.bE,Rd.wP s k c1,c2,c3];simp
    .go_wp2_with (first|(go_at_call 203;refine(Kc _ _).mono ?_;rintro e d⟨rfl,rfl⟩)|(go_at_call 204;refine(Vo _ _).mono ?_))
     go_round
     case rel=>
      refine⟨k+1,O,O,by go_num,?_⟩;show Rd.bE s (s.size+a+1-(k+1)) (k+1)=_
      have e1:s.size+a+1-(k+1)=f:=by have:=b.out;omega
      rw[e1,<-c.out,b.out]
      conv=>rhs;rw[Rd.bE,Rd.wP s k c1,c2,c3]
      simp[c1]
     case measure=>simp[intOf];omega
   .go_wp2_with (first|(go_at_call 203)|(go_at_call 204;refine(Vo _ _).mono ?_))
    go_round
    case rel=>
     refine⟨k+1,O,O,by go_num,?_⟩;show Rd.bE s (s.size+a+1-(k+1)) (k+1)=_
     have e1:s.size+a+1-(k+1)=f:=by have:=b.out;omega
     rw[e1,<-c.out,b.out]
     conv=>rhs;rw[Rd.bE,Rd.wP s k c1,c2]
     simp[c1]
    case measure=>simp[intOf];omega
  .go_wp2_with fail
   go_ret
   rw[<-c.out,b.out,Rd.bE,decide_eq_false O];simp
theorem Cl:(prog.info? 169).map (λi=>(i.zero,i.size,i.bytes))=Y (Y (.agg #[.int .i64 0,.string ⟨#[]⟩,.int .i64 0]),3,32):=E0
theorem Vk (w:World)(x y z:Value)(t:TypeId):∀j u,[x,y,z][j]?=Y u->(w.alloc (.cells #[x,y,z] t)).cell? ((⟨w.heap.size,0,X⟩:Addr).add j)=Y u:=by
 intro j u a
 match j,a with
 |0,a=>simp at a;subst a;simp[Addr.add]
 |1,a=>simp at a;subst a;simp[Addr.add]
 |2,a=>simp at a;subst a;simp[Addr.add]
theorem Below.pM (w:World)(o:Obj):(w.alloc o).heap[w.heap.size]?=Y o:=by
 show(w.heap.push o)[w.heap.size]?=Y o;simp
def oN (s:ByteArray)(w:World)(l i:Value)(wr:World):Prop:=
 ∃(k f:Nat) (done:List Rd.Wd),k<=s.size/\i=.int .i64 k/\done.length<=k/\s.size<f+k/\wr.ownsRow w.heap.size 169 3 l done.length (Rd.dS done)/\Below w.heap.size w wr/\done++Rd.split s f k=Rd.split s (s.size+1) 0
theorem Xa {x c u:Value}(b:x.oneCell'=I)(d:c.oneCell'=I)(e:u.oneCell'=I):∀a∈[x,c,u],a.oneCell'=I:=by
 grind
variable {wr L:World}{e:Nat}
theorem qT {v:World}{w size r:Nat}{l:Value}{a:PH}(c:wr.ownsRow w e size l r a)(b:Below w v wr)(m:w<=wr.heap.size)(o:Obj)(p:(wr.alloc o).grownBy L l.ownBlock):Below w v L:=by
 refine Below.grown (b.alloc m o) p (by simp;omega) ?_;intro k d
 rcases c.2 with⟨h,_⟩|⟨g,i,j,h,f,_⟩
 .rw[h]at d;cases d
 .rw[h]at d;cases d;exact f
theorem aGG (s:ByteArray)(f k:Nat)(h:k<s.size)(a:(Rd.aQ s k != 32)=I)(done:List Rd.Wd):
  done++[⟨Rd.kindOf (Rd.aQ s k),s.extract k (Rd.aF s k),k⟩]++Rd.split s f (Rd.aF s k)=done++Rd.split s (f+1) k:=by
 conv=>rhs;rw[Rd.split,decide_eq_true h,a]
 simp
theorem aGb (s:ByteArray)(f k:Nat)(h:k<s.size)(a:(Rd.aQ s k != 32)=J):Rd.split s f (Rd.aF s k)=Rd.split s (f+1) k:=by
 conv=>rhs;rw[Rd.split,decide_eq_true h,a]
 simp
theorem aI6 (s:ByteArray)(f k:Nat)(h:¬k<s.size):Rd.split s (f+1) k=[⟨0,⟨#[]⟩,s.size⟩]:=by
 rw[Rd.split,decide_eq_false h];rfl
theorem aHO (s:ByteArray)(w g:World)(k f:Nat)(done:List Rd.Wd)(i:Value)(x:Rd.Wd)(e:Nat)(m:x=⟨Rd.kindOf (Rd.aQ s k),s.extract k (Rd.aF s k),k⟩)(l:e=Rd.aF s k)
  (h:k<s.size) (j:(Rd.aQ s k != 32)=I) (hd:done.length<=k) (o:s.size<f+k) (b:g.ownsRow w.heap.size 169 3 i (done.length+1) (Rd.dS done++[.int .i64 x.kind,.string x.text,.int .i64 x.pos]))
  (a:Below w.heap.size w g) (d:done++Rd.split s f k=Rd.split s (s.size+1) 0):oN s w i (.int .i64 e) g:=by
 obtain⟨c,rfl⟩:∃c,f=c+1:=⟨f-1,O⟩
 have n:=Rd.Ep s k;subst l;refine⟨_,c,done++[x],(Rd.Eo s k h),rfl,by simp;omega,O,?_,a,?_⟩
 .rw[Rd.aEy]
  simpa[Rd.dS]using b
 .rw[<-d,m];exact aGG s c k h j done
theorem aPW (s:ByteArray)(w g:World)(k f:Nat)(done:List Rd.Wd)(l:Value)(e:Nat)(j:e=Rd.aF s k)
  (h:k<s.size) (i:(Rd.aQ s k != 32)=J) (hd:done.length<=k) (n:s.size<f+k) (b:g.ownsRow w.heap.size 169 3 l done.length (Rd.dS done))
  (a:Below w.heap.size w g) (d:done++Rd.split s f k=Rd.split s (s.size+1) 0):oN s w l (.int .i64 e) g:=by
 obtain⟨c,rfl⟩:∃c,f=c+1:=⟨f-1,O⟩
 have m:=Rd.Ep s k;subst j;exact⟨_,c,done,(Rd.Eo s k h),rfl,O,O,b,a,by rw[<-d,aGb s c k h i]⟩
theorem aQc (s:ByteArray)(w:World)(D:s.size<=120):
  Calls prog 127 #[.string s] w λe r=>∃v,e=.returned v/\r.ownsRow w.heap.size 169 3 v (Rd.split s (s.size+1) 0).length (Rd.dS (Rd.split s (s.size+1) 0))/\Below w.heap.size w r:=by
 have⟨i,hi,hz,hsize,hby⟩:=info_parts Cl
 go_in
 go_wp2_with fail
 go_loopw [3,4] (λl i wr=>oN s w l i wr) (λ_ i _=>s.size-(intOf i).toNat)
 case atStart=>
  refine⟨0,s.size+1,[],p5 _,rfl,o9 _,O,?_,(Below.refl _ _).alloc O _,rfl⟩;refine⟨rfl,Or.inr ⟨w.heap.size,0,#[],rfl,o9 _,Below.pM _ _,o9 _,p5 _,rfl,rfl⟩⟩
 case round=>
  obtain⟨k,f,done,L,rfl,hd,z,d,h,x⟩:=hrel;have n:Hid (done++Rd.split s f k=Rd.split s (s.size+1) 0):=x;clear x;have q:=h.size
  by_cases c1:k<s.size
  .have g:=Rd.wP s k c1;cases c2:Rd.aY (s[k].toNat:Int)
   .cases c3:Rd.isLet (s[k].toNat:Int)
    .cases c4:((s[k].toNat:Int) != 32)
     .have m:Rd.kindOf (s[k].toNat:Int)=3:=by simp[Rd.kindOf,c2,c3]
      have b:Hid (Rd.aF s k=k+1):=by show Rd.aF s k=k+1;simp[Rd.aF,g,c2,c3]
      have p:Hid (Rd.aQ s k=(s[k].toNat:Int)):=g;clear g
      go_wp2_with (go_at_call 167;refine(Vz _ _).mono ?_;rintro e r⟨rfl,rfl⟩)
      go_roundw
      case rel=>exact aPW s w _ k f done _ (k+1) b.out.symm c1 (by rw[p.out];exact c4) hd z d h n.out
      case measure=>simp[intOf];omega
     .have m:Rd.kindOf (s[k].toNat:Int)=3:=by simp[Rd.kindOf,c2,c3]
      have b:Hid (Rd.aF s k=(k+1)):=by show Rd.aF s k=(k+1);simp[Rd.aF,g,c2,c3]
      have t:k<(k+1):=by have o:=Rd.Ep s k;rw[b.out]at o;omega
      have u:(k+1)<=s.size:=by have o:=Rd.Eo s k c1;rw[b.out]at o;omega
      have p:Hid (Rd.aQ s k=(s[k].toNat:Int)):=g;clear g
      go_wp2_with (first|(go_at_call 167;refine(Vz _ _).mono ?_;rintro e r⟨rfl,rfl⟩)|(at_builtin;(refine wpList_append_own _ rfl _ _ 171 rfl w.heap.size 169 i (.agg #[.int .i64 0,.string ⟨#[]⟩,.int .i64 0]) 3 32 underlying171 hi hz hsize hby rfl E3 _ _ _ rfl (d.alloc _) ⟨wr.heap.size,0,X⟩ 1 1 [.int .i64 3,.string (s.extract k (k+1)),.int .i64 k] rfl rfl (Vk _ _ _ _ _) (Xa rfl rfl rfl) (by unfold maxLen;omega) O (by simp;omega) ?_);intro B C c a j))
      go_roundw
      case rel=>exact aHO s w _ k f done _ ⟨3,s.extract k (k+1),k⟩ (k+1) (by rw[p.out,m,b.out]) b.out.symm c1 (by rw[p.out];exact c4) hd z c (qT d h q _ a) n.out
      case measure=>simp[intOf];omega
    .have c4:((s[k].toNat:Int) != 32)=I:=by simp[Rd.isLet]at c3;rw[bne_iff_ne];omega
     have m:Rd.kindOf (s[k].toNat:Int)=2:=by simp[Rd.kindOf,c2,c3]
     have b:Hid (Rd.aF s k=(Rd.bE s s.size (k+1))):=by show Rd.aF s k=(Rd.bE s s.size (k+1));simp[Rd.aF,g,c2,c3]
     have t:k<(Rd.bE s s.size (k+1)):=by have o:=Rd.Ep s k;rw[b.out]at o;omega
     have u:(Rd.bE s s.size (k+1))<=s.size:=by have o:=Rd.Eo s k c1;rw[b.out]at o;omega
     have p:Hid (Rd.aQ s k=(s[k].toNat:Int)):=g;clear g
     go_wp2_with (first|(go_at_call 167;refine(Vz _ _).mono ?_;rintro e r⟨rfl,rfl⟩)|(go_at_call 169;refine(aJ4 _ _ _ D c1).mono ?_;rintro e r⟨rfl,rfl⟩)|(at_builtin;(refine wpList_append_own _ rfl _ _ 171 rfl w.heap.size 169 i (.agg #[.int .i64 0,.string ⟨#[]⟩,.int .i64 0]) 3 32 underlying171 hi hz hsize hby rfl E3 _ _ _ rfl (d.alloc _) ⟨wr.heap.size,0,X⟩ 1 1 [.int .i64 2,.string (s.extract k (Rd.bE s s.size (k+1))),.int .i64 k] rfl rfl (Vk _ _ _ _ _) (Xa rfl rfl rfl) (by unfold maxLen;omega) O (by simp;omega) ?_);intro B C c a j))
     go_roundw
     case rel=>exact aHO s w _ k f done _ ⟨2,s.extract k (Rd.bE s s.size (k+1)),k⟩ (Rd.bE s s.size (k+1)) (by rw[p.out,m,b.out]) b.out.symm c1 (by rw[p.out];exact c4) hd z c (qT d h q _ a) n.out
     case measure=>simp[intOf];omega
   .have c4:((s[k].toNat:Int) != 32)=I:=by simp[Rd.aY]at c2;rw[bne_iff_ne];omega
    have m:Rd.kindOf (s[k].toNat:Int)=1:=by simp[Rd.kindOf,c2]
    have b:Hid (Rd.aF s k=(Rd.bF s k 9 (k+1))):=by show Rd.aF s k=(Rd.bF s k 9 (k+1));simp[Rd.aF,g,c2]
    have t:k<(Rd.bF s k 9 (k+1)):=by have o:=Rd.Ep s k;rw[b.out]at o;omega
    have u:(Rd.bF s k 9 (k+1))<=s.size:=by have o:=Rd.Eo s k c1;rw[b.out]at o;omega
    have p:Hid (Rd.aQ s k=(s[k].toNat:Int)):=g;clear g
    go_wp2_with (first|(go_at_call 167;refine(Vz _ _).mono ?_;rintro e r⟨rfl,rfl⟩)|(go_at_call 168;refine(aHw _ _ _ D c1).mono ?_;rintro e r⟨rfl,rfl⟩)|(at_builtin;(refine wpList_append_own _ rfl _ _ 171 rfl w.heap.size 169 i (.agg #[.int .i64 0,.string ⟨#[]⟩,.int .i64 0]) 3 32 underlying171 hi hz hsize hby rfl E3 _ _ _ rfl (d.alloc _) ⟨wr.heap.size,0,X⟩ 1 1 [.int .i64 1,.string (s.extract k (Rd.bF s k 9 (k+1))),.int .i64 k] rfl rfl (Vk _ _ _ _ _) (Xa rfl rfl rfl) (by unfold maxLen;omega) O (by simp;omega) ?_);intro B C c a j))
    go_roundw
    case rel=>exact aHO s w _ k f done _ ⟨1,s.extract k (Rd.bF s k 9 (k+1)),k⟩ (Rd.bF s k 9 (k+1)) (by rw[p.out,m,b.out]) b.out.symm c1 (by rw[p.out];exact c4) hd z c (qT d h q _ a) n.out
    case measure=>simp[intOf];omega
  .obtain⟨A,y⟩:∃A,f=A+1:=⟨f-1,O⟩
   have F:Hid (Rd.split s (s.size+1) 0=done++[⟨0,⟨#[]⟩,s.size⟩]):=by
    show _=_;rw[<-n.out,y,aI6 s A k c1]
   clear y
   go_wp2_with (at_builtin;refine wpList_append_own _ rfl _ _ 171 rfl w.heap.size 169 i (.agg #[.int .i64 0,.string ⟨#[]⟩,.int .i64 0]) 3 32 underlying171 hi hz hsize hby rfl E3 _ _ _ rfl (d.alloc _) ⟨wr.heap.size,0,X⟩ 1 1 [.int .i64 0,.string ⟨#[]⟩,.int .i64 s.size] rfl rfl (Vk _ _ _ _ _) (Xa rfl rfl rfl) (by unfold maxLen;omega) O (by simp;omega) ?_;intro B C c a j)
   go_ret
   refine⟨_,rfl,?_,qT d h q _ a⟩;rw[F.out,Rd.aEy]
   simpa[Rd.dS]using c
theorem aGj (kd p:Int)(t:ByteArray)(w:World)(d:t.size<=9):
  Calls prog 227 #[.agg #[.int .i64 kd,.string t,.int .i64 p]] w λe b=>e=.returned (.int .i64 (Rd.valTo t t.size))/\w.alloc (.cells #[.int .i64 kd,.string t,.int .i64 p] 169)=b:=by
 go_in
 go_wp2_with fail
 go_loop [3,4] (λv i=>∃k:Nat,k<=t.size/\i=.int .i64 k/\v=.int .i64 (Rd.valTo t k)) (λ_ i=>t.size-(intOf i).toNat)
 case atStart=>exact⟨0,p5 _,rfl,rfl⟩
 case round=>
  obtain⟨k,c,rfl,rfl⟩:=hrel;have f:=Rd.Rm t k;have g:=Rd.Yb t k O
  by_cases c1:k<t.size
  .have a:Hid (Rd.aQ t k=(t[k].toNat:Int)):=Rd.wP t k c1;cases c2:Rd.aY (t[k].toNat:Int)
   .go_wp2_with (go_at_call 203;refine(Kc _ _).mono ?_)
    go_round
    case rel=>exact⟨k+1,O,by go_num,by rw[Rd.valTo,a.out,c2];rfl⟩
    case measure=>simp[intOf];omega
   .have b0:48<=(t[k].toNat:Int):=by simp[Rd.aY]at c2;omega
    have b1:(t[k].toNat:Int)<=57:=by simp[Rd.aY]at c2;omega
    go_wp2_with (go_at_call 203;refine(Kc _ _).mono ?_)
    go_round
    case rel=>exact⟨k+1,O,by go_num,by rw[Rd.valTo,a.out,c2];simp⟩
    case measure=>simp[intOf];omega
  .go_wp2_with fail
   go_ret
   exact⟨Iu (by rw[show k=t.size by omega]),rfl⟩
theorem aPe (t:ByteArray)(w:World):
  Calls prog 229 #[.string t] w λe a=>e=.returned (.int .i64 (Rd.named t))/\w=a:=by
 go_wp2
 all_goals
  go_ret
  exact⟨Iu (by simp[Rd.named,<-Rd.aS5, *]),rfl⟩
structure Keep (rb:Nat) (w w':World):Prop where
 os:w'.os=w.os
 tape:w'.tape=w.tape
 output:w'.output=w.output
 size:w.heap.size<=w'.heap.size
 block:∀k,k<w.heap.size->k≠rb->w'.heap[k]?=w.heap[k]?
theorem Keep.refl (rb:Nat)(w:World):Keep rb w w:=⟨rfl,rfl,rfl,o9 _,λ_ _ _=>rfl⟩
theorem Keep.trans {rb:Nat}{a b c:World}(h:Keep rb a b)(k:Keep rb b c):Keep rb a c:=
 ⟨k.os.trans h.os,k.tape.trans h.tape,k.output.trans h.output,p6 h.size k.size,λi hi d=>(k.block i (p8 hi h.size) d).trans (h.block i hi d)⟩
variable {rb:Nat}{w s:World}
theorem Keep.cQ (h:Below w.heap.size w s):Keep rb w s:=⟨h.os,h.tape,h.output,h.size,λk a _=>h.block k a⟩
theorem Keep.drewN {rb:Nat}{a w:World}(h:Keep rb a w)(n:Nat):Keep rb a (w.drewN n):=⟨h.os,h.tape,h.output,h.size,h.block⟩
theorem Keep.alloc {rb:Nat}{a w:World}(h:Keep rb a w)(o:Obj):Keep rb a (w.alloc o):=
 h.trans (Keep.cQ ((Below.refl _ _).alloc O o))
theorem Keep.setCell {rb:Nat}{a w:World}(h:Keep rb a w)(o:Nat)(u:Value):Keep rb a (w.setCell ⟨rb,o,X⟩ u):=
 h.trans ⟨rfl,rfl,rfl,by simp[r8],λk _ c=>Below.heap_setCell _ _ _ _ c⟩
theorem Keep.Nh {a:World}(h:Keep rb a w){p:Addr}(e:a.heap.size<=p.block)(u:Value):Keep rb a (w.setCell p u):=by
 refine⟨h.os,h.tape,h.output,p6 h.size (by simp[r8]),λk c d=>?_⟩;rw[Below.heap_setCell _ _ _ _ O];exact h.block k c d
structure Rdr (w:World) (rb g cap:Nat) (ws:List Rd.Wd) (st:Rd.St):Prop where
 rd:w.heap[rb]?=Y (.cells #[.slice (Y ⟨g,0,X⟩) ws.length cap,.int .i64 st.next,.int .i64 st.around,.int .i64 st.deepest,.int .i64 st.nodes] 173 (0,0))
 row:∃cur,w.heap[g]?=Y (.cells cur 169 (0,0))/\cur.toList.take (ws.length*3)=Rd.dS ws
 ne:g≠rb
theorem cZ {k:Nat}{o:Obj}(h:w.heap[k]?=Y o):k<w.heap.size:=by
 grind
variable {g cap:Nat}{ws:List Rd.Wd}{st:Rd.St}
theorem Rdr.lt (h:Rdr w rb g cap ws st):rb<w.heap.size:=cZ h.rd
theorem Rdr.keep {a:Rd.St}(h:Rdr w rb g cap ws st)(c:Keep rb w s)
  (d:s.heap[rb]?=Y (.cells #[.slice (Y ⟨g,0,X⟩) ws.length cap,.int .i64 a.next,.int .i64 a.around,.int .i64 a.deepest,.int .i64 a.nodes] 173 (0,0))):Rdr s rb g cap ws a:=by
 have⟨cur,h1,h2⟩:=h.row;exact⟨d,⟨cur,by rw[c.block g (cZ h1) h.ne];exact h1,h2⟩,h.ne⟩
theorem Rdr.below (h:Rdr w rb g cap ws st)(a:Below w.heap.size w s):Rdr s rb g cap ws st:=
 h.keep (Keep.cQ a) (by rw[a.block rb h.lt];exact h.rd)
variable {b o:Nat}{xs:Array Value}{t:TypeId}
theorem aB {v:Value}(h:w.heap[b]?=Y (.cells xs t (0,0)))(hv:xs[o]?=Y v):w.cell? ⟨b,o,X⟩=Y v:=by
 simp[World.cell?,h,hv]
theorem dP (h:w.heap[b]?=Y (.cells xs t (0,0))):w.frozen? ⟨b,o,X⟩=J:=by
 simp[World.frozen?,h]
section
variable {w:World} {b:Nat} {xs:Array Value} {t:TypeId} {u v x y:Value}
theorem fD (h:w.heap[b]?=Y (.cells xs t (0,0)))(a:xs[0]?=Y u)(c:xs[1]?=Y v):w.cell? ⟨b,0,X⟩=Y u/\w.cell? ⟨b,1,X⟩=Y v:=⟨aB h a,aB h c⟩
theorem qF (h:w.heap[b]?=Y (.cells xs t (0,0))):w.frozen? ⟨b,0,X⟩=J/\w.frozen? ⟨b,1,X⟩=J:=⟨dP h,dP h⟩
theorem cf2 (h:w.heap[b]?=Y (.cells xs t (0,0)))(a:xs[0]?=Y u)(c:xs[1]?=Y v):w.cell? ⟨b,0,X⟩=Y u/\w.cell? ⟨b,1,X⟩=Y v/\w.frozen? ⟨b,0,X⟩=J/\w.frozen? ⟨b,1,X⟩=J:=⟨aB h a,aB h c,dP h,dP h⟩
end
theorem nQ {m:Nat×Nat}(h:w.heap[b]?=Y (.cells xs t m))(u:Value):(w.setCell ⟨b,o,X⟩ u).heap[b]?=Y (.cells (xs.setIfInBounds o u) t m):=by
 simp[r8,Array.getElem?_modify,h]
section
variable {w:World} {rb g cap:Nat} {ws:List Rd.Wd} {st:Rd.St}
theorem Rdr.c0 (h:Rdr w rb g cap ws st):w.cell? ⟨rb,0,X⟩=Y (.slice (Y ⟨g,0,X⟩) ws.length cap):=aB h.rd rfl
theorem Rdr.c1 (h:Rdr w rb g cap ws st):w.cell? ⟨rb,1,X⟩=Y (.int .i64 st.next):=aB h.rd rfl
theorem Rdr.c2 (h:Rdr w rb g cap ws st):w.cell? ⟨rb,2,X⟩=Y (.int .i64 st.around):=aB h.rd rfl
theorem Rdr.c3 (h:Rdr w rb g cap ws st):w.cell? ⟨rb,3,X⟩=Y (.int .i64 st.deepest):=aB h.rd rfl
theorem Rdr.c4 (h:Rdr w rb g cap ws st):w.cell? ⟨rb,4,X⟩=Y (.int .i64 st.nodes):=aB h.rd rfl
theorem Rdr.fz (h:Rdr w rb g cap ws st)(o:Nat):w.frozen? ⟨rb,o,X⟩=J:=dP h.rd
theorem Rdr.alloc (h:Rdr w rb g cap ws st)(o:Obj):Rdr (w.alloc o) rb g cap ws st:=h.below ((Below.refl _ _).alloc O o)
theorem Rdr.drewN (h:Rdr w rb g cap ws st)(n:Nat):Rdr (w.drewN n) rb g cap ws st:=⟨h.rd,h.row,h.ne⟩
theorem Rdr.gK (h:Rdr w rb g cap ws st)(n:Nat){m:Int}(a:m=(n:Int)):Rdr (w.setCell ⟨rb,1,X⟩ (.int .i64 m)) rb g cap ws {st with next:=n}:=
 h.keep ((Keep.refl _ _).setCell 1 _) (by subst a;rw[nQ h.rd];rfl)
variable {n:Int}
theorem Rdr.pP (h:Rdr w rb g cap ws st)(a:Nat)(c:n=(a:Int)):Rdr (w.setCell ⟨rb,2,X⟩ (.int .i64 n)) rb g cap ws {st with around:=a}:=
 h.keep ((Keep.refl _ _).setCell 2 _) (by subst c;rw[nQ h.rd];rfl)
theorem Rdr.bCm (h:Rdr w rb g cap ws st)(a:Nat)(c:n=(a:Int)):Rdr (w.setCell ⟨rb,3,X⟩ (.int .i64 n)) rb g cap ws {st with deepest:=a}:=
 h.keep ((Keep.refl _ _).setCell 3 _) (by subst c;rw[nQ h.rd];rfl)
theorem Rdr.Ho (h:Rdr w rb g cap ws st)(a:Nat)(c:n=(a:Int)):Rdr (w.setCell ⟨rb,4,X⟩ (.int .i64 n)) rb g cap ws {st with nodes:=a}:=
 h.keep ((Keep.refl _ _).setCell 4 _) (by subst c;rw[nQ h.rd];rfl)
end
theorem lE (w:World)(o:Obj):(w.alloc o).heap[w.heap.size]?=Y o:=by
 show(w.heap.push o)[w.heap.size]?=Y o;simp
def zT (x:Rd.Wd):Value:=.agg #[.int .i64 x.kind,.string x.text,.int .i64 x.pos]
variable {p:Nat}{M:List Rd.Wd}
theorem Rdr.cells {f k:Nat}(h:Rdr w f k p M st)(n:Nat)(d:n<M.length):
  w.cell? ⟨k,n*3,X⟩=Y (.int .i64 (Rd.aA M n).kind)/\w.cell? ⟨k,n*3+1,X⟩=Y (.string (Rd.aA M n).text)/\w.cell? ⟨k,n*3+2,X⟩=Y (.int .i64 (Rd.aA M n).pos):=by
 have⟨cur,h1,h2⟩:=h.row
 have e:∀i v,i<M.length*3->(Rd.dS M)[i]?=Y v->w.cell? ⟨k,i,X⟩=Y v:=by
  intro i v hi hv;refine aB h1 ?_;grind
 have⟨a,b,c⟩:=Rd.aQP M n d;grind
theorem aVR (w:World)(d g b:Nat)(a:List Rd.Wd)(st:Rd.St)(h:Rdr w d g b a st)(i:st.next<a.length):
  Calls prog 90 #[.pointer (Y ⟨d,0,X⟩)] w λe j=>e=.returned (zT (Rd.aA a st.next))/\Below w.heap.size w j:=by
 have c0:=h.c0;have c1:=h.c1;have⟨e0,e1,e2⟩:=h.cells st.next i;have f:=h.lt
 have c:g<w.heap.size:=by have⟨cur,h1,_⟩:=h.row;exact cZ h1
 go_in
 go_wp2_with fail
 go_quiet (fail)
 go_wp2_with fail
 go_region
 all_goals go_wp2_with fail
 exact bodyPost_ret (v:=.agg #[.int .i64 (Rd.aA a st.next).kind,.string (Rd.aA a st.next).text,.int .i64 (Rd.aA a st.next).pos]) (by simp[results,go_sem]) rfl
  ⟨rfl,(((below_drewN ((Below.refl _ _).alloc (o9 _) _) _).setCell (o9 _) _).setCell (o9 _) _).setCell (o9 _) _⟩
theorem aSI (w:World)(b g a:Nat)(c:List Rd.Wd)(st:Rd.St)(h:Rdr w b g a c st)(i:¬st.next<c.length):
  Calls prog 90 #[.pointer (Y ⟨b,0,X⟩)] w λe f=>e=.returned (.agg #[.int .i64 0,.string ⟨#[]⟩,.int .i64 0])/\Below w.heap.size w f:=by
 have c0:=h.c0;have c1:=h.c1;have d:=h.lt
 go_in
 go_wp2_with fail
 go_quiet (fail)
 go_wp2_with fail
 exact bodyPost_ret (by simp[results,go_sem]) rfl
  ⟨rfl,(((below_drewN ((Below.refl _ _).alloc (o9 _) _) _).setCell (o9 _) _).setCell (o9 _) _).setCell (o9 _) _⟩
theorem Kj (w:World)(c g a:Nat)(b:List Rd.Wd)(st:Rd.St)(h:Rdr w c g a b st):
  Calls prog 90 #[.pointer (Y ⟨c,0,X⟩)] w λe f=>e=.returned (zT (Rd.aA b st.next))/\Below w.heap.size w f:=by
 by_cases d:st.next<b.length
 .exact aVR w c g a b st h d
 .have e:Rd.aA b st.next=⟨0,⟨#[]⟩,0⟩:=by
   unfold Rd.aA List.getD;grind
  rw[e];exact aSI w c g a b st h d
namespace Rd
abbrev Tr:=Go.Deep.BT (Int×Int×List Int)
def eY (k v:Int)(a:LB):Tr:=.node 0 0 (k,v,a) .nil .nil
def An (k:Int)(x:Tr):Tr:=.node 0 0 (k,0,[]) x .nil
def xQ (k:Int)(l r:Tr):Tr:=.node 0 0 (k,0,[]) l r
def tk (a:List Wd)(st:St)(c:ByteArray):Bool:=(!((aA a st.next).kind==0))&&isT (aA a st.next).text c.data.toList
def St.ok (st:St):Prop:=st.next<1000/\st.around<1000/\st.deepest<1000/\st.nodes<1000
def St.okB (st:St):Bool:=decide (st.next<1000/\st.around<1000/\st.deepest<1000/\st.nodes<1000)
def St.leaf (st:St):St:={st with nodes:=st.nodes+1,deepest:=bif decide (st.deepest<st.around)then st.around else st.deepest}
def St.node (st:St):St:={st with nodes:=st.nodes+1}
def St.aJ (st:St):St:={st with next:=st.next+1}
def St.uP (st:St):St:={st with around:=st.around+1}
def St.out (st:St):St:={st with around:=st.around-1}
def St.fO (st:St):Bool:=st.okB&&decide (1<=st.around)
theorem St.Bi {st:St}(h:st.okB=I):st.ok:=by simpa[St.okB,St.ok]using h
abbrev pQ:=Option (Option Tr×St)
def term (a:List Wd)(st:St):Int×St:=
 bif (aA a st.next).kind==1 then
  bif valTo (aA a st.next).text (aA a st.next).text.size==0 then(0,st)else(valTo (aA a st.next).text (aA a st.next).text.size,st.aJ)
 else(0,st)
def terms (a:List Wd):Nat->Nat->List Int->St->Option (Option (List Int)×St)
 |0,_,_,_=>X
 |f+1,c,ts,st=>
  bif st.okB&&(term a st).2.okB then
   bif (term a st).1==0 then Y (X,(term a st).2)
   else bif tk a (term a st).2 ⟨#[93]⟩then Y (Y (ts++[(term a st).1]),(term a st).2.aJ)
   else bif c==8 then Y (X,(term a st).2)
   else bif tk a (term a st).2 ⟨#[44]⟩then terms a f (c+1) (ts++[(term a st).1]) (term a st).2.aJ
   else Y (X,(term a st).2)
  else X
def lG:Option (Option (List Int)×St)->pQ
 |none=>X
 |some (X,st)=>Y (X,st)
 |some (Y a,st)=>bif st.okB then Y (Y (eY 4 0 a),st.leaf)else X
def continued (a:List Wd)(st:St):pQ:=
 bif decide (st.next<900)&&st.okB then
  bif tk a st ⟨#[91]⟩then
   bif (aA a st.aJ.next).kind==1 then
    bif tk a st.aJ.aJ ⟨#[59]⟩then lG (terms a 8 1 [valTo (aA a st.aJ.next).text (aA a st.aJ.next).text.size] st.aJ.aJ.aJ)
    else Y (X,st.aJ.aJ)
   else Y (X,st.aJ)
  else Y (X,st)
 else X
def cU (k:Int):Option Tr->St->pQ
 |none,st=>Y (X,st)
 |some x,st=>bif st.okB then Y (Y (An k x),st.node)else X
def operOf (k:Int)(l:Tr):Option Tr->St->pQ
 |none,st=>Y (X,st)
 |some r,st=>bif st.okB then Y (Y (xQ k l r),st.node)else X
def pQ.next (a:pQ)(f:Option Tr->St->pQ):pQ:=
 match a with
 |none=>X
 |some (x,st)=>f x st
def nameOf (c:List Wd)(k:Int)(st:St)(b:St->pQ):pQ:=
 bif k==0 then Y (X,st)
 else bif k==2||k==3 then(bif st.aJ.okB then Y (Y (eY k 0 []),st.aJ.leaf)else X)
 else bif k==4 then continued c st.aJ
 else(b st.aJ).next λx a=>cU k x a
def iY (a:List Wd)(x:Option Tr)(st:St):pQ:=
 bif st.fO then
  match x with
  |none=>Y (X,st.out)
  |some t=>bif tk a st.out ⟨#[41]⟩then Y (Y t,st.out.aJ)else Y (X,st.out)
 else X
def parse (a:List Wd):Nat->Nat->Option Tr->St->pQ
 |0,_,_,_=>X
 |f+1,0,_,st=>(parse a f 2 X st).next λl e=>parse a f 1 l e
 |_+1,1,X,st=>Y (X,st)
 |f+1,1,Y l,st=>
  bif st.okB then
   bif tk a st ⟨#[43]⟩then(parse a f 2 X st.aJ).next λr b=>(operOf 6 l r b).next λd c=>parse a f 1 d c
   else bif tk a st ⟨#[45]⟩then(parse a f 2 X st.aJ).next λr b=>(operOf 7 l r b).next λd c=>parse a f 1 d c
   else Y (Y l,st)
  else X
 |f+1,2,_,st=>(parse a f 4 X st).next λl e=>parse a f 3 l e
 |_+1,3,X,st=>Y (X,st)
 |f+1,3,Y l,st=>
  bif st.okB then
   bif tk a st ⟨#[42]⟩then(parse a f 4 X st.aJ).next λr b=>(operOf 8 l r b).next λd c=>parse a f 3 d c
   else bif tk a st ⟨#[47]⟩then(parse a f 4 X st.aJ).next λr b=>(operOf 9 l r b).next λd c=>parse a f 3 d c
   else Y (Y l,st)
  else X
 |f+1,4,_,st=>
  bif st.okB then
   bif tk a st ⟨#[45]⟩then(parse a f 4 X st.aJ.uP).next λx b=>bif b.fO then cU 5 x b.out else X
   else parse a f 5 X st
  else X
 |f+1,5,_,st=>
  bif st.okB then
   bif (aA a st.next).kind==1 then
    (bif st.aJ.okB then Y (Y (eY 1 (valTo (aA a st.next).text (aA a st.next).text.size) []),st.aJ.leaf)else X)
   else bif (aA a st.next).kind==2 then nameOf a (named (aA a st.next).text) st (λg=>parse a f 6 X g)
   else parse a f 6 X st
  else X
 |f+1,_,_,st=>
  bif st.okB then
   bif tk a st ⟨#[40]⟩then(parse a f 0 X st.aJ.uP).next λx b=>iY a x b
   else Y (X,st)
  else X
def read (f:Nat)(s:ByteArray):Option (Option Tr×Int×Int):=
 bif decide (120<s.size)then Y (X,1,0)
 else
  match parse (split s (s.size+1) 0) f 0 X ⟨0,0,0,0⟩with
  |none=>X
  |some (X,st)=>Y (X,2,(aA (split s (s.size+1) 0) st.next).pos)
  |some (Y t,st)=>
   bif (aA (split s (s.size+1) 0) st.next).kind==0 then
    bif decide (12<st.deepest)||decide (40<st.nodes)then Y (X,3,0)else Y (Y t,0,0)
   else Y (X,2,(aA (split s (s.size+1) 0) st.next).pos)
end Rd
theorem aL3 (w:World)(f g b:Nat)(a:List Rd.Wd)(st:Rd.St)(c:ByteArray)(h:Rdr w f g b a st)(q:st.next<1000):
  Calls prog 129 #[.pointer (Y ⟨f,0,X⟩),.string c] w λe k=>e=.returned (.bool (Rd.tk a st c))/\Rdr k f g b a (bif Rd.tk a st c then {st with next:=st.next+1} else st)/\Keep f w k:=by
 have j:=Kj w f g b a st h;unfold zT at j
 have m:Hid (Rd.tk a st c=((!((Rd.aA a st.next).kind==0))&&((Rd.aA a st.next).text.toList==c.toList))):=by
  show _=_;rw[Rd.aS5,ByteArray.toList_eq];rfl
 generalize Rd.aA a st.next=x at*;have l:Hid (Calls prog 90 #[.pointer (Y ⟨f,0,X⟩)] w λe k=>e=.returned (.agg #[.int .i64 x.kind,.string x.text,.int .i64 x.pos])/\Below w.heap.size w k):=j;cases n:(x.kind==0)
 all_goals cases o:(x.text.toList==c.toList)
 all_goals
  go_in
  go_wp2_with fail
  refine(l.out).mono ?_;rintro e s⟨rfl,i⟩;have d:=h.below i;have p:=d.c1;have f1:=d.fz 1;have r:=d.lt
  go_wp2_with fail
  go_ret
  rw[m.out,n,o]
 .exact⟨rfl,d.alloc _,(Keep.cQ i).alloc _⟩
 .exact⟨rfl,(d.gK (st.next+1) E4).alloc _,((Keep.cQ i).setCell 1 _).alloc _⟩
 .exact⟨rfl,d.alloc _,(Keep.cQ i).alloc _⟩
 .exact⟨rfl,d.alloc _,(Keep.cQ i).alloc _⟩
theorem Xg (w:World)(b g a:Nat)(d:List Rd.Wd)(st:Rd.St)(v:Value)(h:Rdr w b g a d st)(f:st.ok):
  Calls prog 228 #[.pointer (Y ⟨b,0,X⟩),v] w λe c=>e=.returned v/\Rdr c b g a d st.leaf/\Keep b w c:=by
 have⟨b1,b2,b3,b4⟩:=f;have i:=h.c2;have j:=h.c3;have k:=h.c4;have f3:=h.fz 3;have l:=h.fz 4;have m:=h.lt
 by_cases t:(st.deepest:Int)<st.around
 .go_in
  go_wp2_with fail
  go_quiet (fail)
  go_wp2_with fail
  go_ret
  have e:st.leaf={ {st with nodes:=st.nodes+1} with deepest:=st.around}:=by simp[Rd.St.leaf,show st.deepest<st.around by omega]
  rw[e];exact⟨rfl,((h.Ho (st.nodes+1) E4).drewN _).bCm st.around rfl,(((Keep.refl _ _).setCell 4 _).drewN _).setCell 3 _⟩
 .go_in
  go_wp2_with fail
  go_quiet (fail)
  go_wp2_with fail
  go_ret
  have e:st.leaf={st with nodes:=st.nodes+1}:=by simp[Rd.St.leaf,show¬st.deepest<st.around by omega]
  rw[e];exact⟨rfl,(h.Ho (st.nodes+1) E4).drewN _,((Keep.refl _ _).setCell 4 _).drewN _⟩
theorem aJk (w:World)(r:Value)(kd:Int):
  Calls prog 206 #[r,.int .i64 kd,.pointer X] w λe a=>e=.returned (.pointer X)/\w=a:=by
 go_in
 go_wp2_with fail
 go_ret
 simp
theorem Ej (w:World)(a:Addr)(u:Value):(w.setCell a u).heap.size=w.heap.size:=by simp[r8]
theorem aGN (w:World)(c g b:Nat)(f:List Rd.Wd)(st:Rd.St)(kd:Int)(a:Addr)(h:Rdr w c g b f st)(i:st.ok):
  Calls prog 206 #[.pointer (Y ⟨c,0,X⟩),.int .i64 kd,.pointer (Y a)] w λe d=>e=.returned (.pointer (Y ⟨w.heap.size,0,X⟩))/\Rdr d c g b f st.node/\Keep c w d/\
   d.heap[w.heap.size]?=Y (.cells #[.int .i64 kd,.int .i64 0,.slice X 0 0,.pointer (Y a),.pointer X] 98 (0,0)):=by
 have⟨b1,b2,b3,b4⟩:=i;have j:=h.c4;have k:=h.fz 4
 go_in
 go_wp2_with fail
 go_ret
 refine⟨rfl,(h.Ho (st.nodes+1) E4).alloc _,((Keep.refl _ _).setCell 4 _).alloc _,?_⟩;rw[<-Ej w ⟨c,4,X⟩ (.int .i64 (st.nodes+1))];exact lE _ _
theorem aHy (w:World)(r l:Value)(kd:Int):
  Calls prog 130 #[r,.int .i64 kd,l,.pointer X] w λe a=>e=.returned (.pointer X)/\w=a:=by
 go_in
 go_wp2_with fail
 go_ret
 simp
theorem aGo (w:World)(d g c:Nat)(i:List Rd.Wd)(st:Rd.St)(kd:Int)(a b:Addr)(h:Rdr w d g c i st)(j:st.ok):
  Calls prog 130 #[.pointer (Y ⟨d,0,X⟩),.int .i64 kd,.pointer (Y a),.pointer (Y b)] w λe f=>e=.returned (.pointer (Y ⟨w.heap.size,0,X⟩))/\Rdr f d g c i st.node/\Keep d w f/\
   f.heap[w.heap.size]?=Y (.cells #[.int .i64 kd,.int .i64 0,.slice X 0 0,.pointer (Y a),.pointer (Y b)] 98 (0,0)):=by
 have⟨b1,b2,b3,b4⟩:=j;have k:=h.c4;have l:=h.fz 4
 go_in
 go_wp2_with fail
 go_ret
 refine⟨rfl,(h.Ho (st.nodes+1) E4).alloc _,((Keep.refl _ _).setCell 4 _).alloc _,?_⟩;rw[<-Ej w ⟨d,4,X⟩ (.int .i64 (st.nodes+1))];exact lE _ _
open Go.Deep (BT)
def cI (e:Nat)(w:World)(c:LB)(d:Value):Prop:=
 (c=[]/\d=.slice X 0 0)\/∃tb a b,d=.slice (Y ⟨tb,0,X⟩) c.length a/\tb≠e/\w.heap[tb]?=Y (.cells b 3 (0,0))/\c.length<=a/\b.toList.take c.length=c.map (q9 .i64)
def jE (c:Nat)(w:World):Rd.Tr->Value->Prop
 |.nil,v=>v=.pointer X
 |.node _ _ a l r,v=>∃b f d e,v=.pointer (Y ⟨b,0,X⟩)/\b≠c/\w.heap[b]?=Y (.cells #[.int .i64 a.1,.int .i64 a.2.1,f,d,e] 98 (0,0))/\cI c w a.2.2 f/\jE c w l d/\jE c w r e
def Ap (a:Nat)(w:World):Option Rd.Tr->Value->Prop
 |none,v=>v=.pointer X
 |some t,v=>(∃b,v=.pointer (Y ⟨b,0,X⟩))/\jE a w t v
variable {ts:LB}{z:Value}
theorem cI.keep {c:Nat}(h:cI c w ts z)(i:Keep c w s):cI c s ts z:=by
 rcases h with h|⟨tb,a,b,f,d,e,g⟩
 .exact Or.inl h
 .exact Or.inr ⟨tb,a,b,f,d,by rw[i.block tb (cZ e) d];exact e,g⟩
theorem jE.keep {e:Nat}{w s:World}(f:Keep e w s):∀{t:Rd.Tr} {v:Value},jE e w t v->jE e s t v:=by
 intro t
 induction t with
 |nil=>intro v h;exact h
 |node _ _ a l r c d=>
  intro v h;have⟨b,tv,lv,rv,h1,h2,h3,h4,h5,h6⟩:=h;exact⟨b,tv,lv,rv,h1,h2,by rw[f.block b (cZ h3) h2];exact h3,h4.keep f,c h5,d h6⟩
variable {w:Nat}{v:World}
theorem Km {k a:Int}{c u:Value}{l r:Rd.Tr}(d:b≠w)(h:v.heap[b]?=Y (.cells #[.int .i64 k,.int .i64 a,z,c,u] 98 (0,0)))
  (g:cI w v ts z) (e:jE w v l c) (f:jE w v r u):Ap w v (Y (.node 0 0 (k,a,ts) l r)) (.pointer (Y ⟨b,0,X⟩)):=
 ⟨⟨b,rfl⟩,b,z,c,u,rfl,d,h,g,e,f⟩
def lD (a:List Rd.Wd):Prop:=∀n,(Rd.aA a n).kind=1->(Rd.aA a n).text.size<=9
theorem aSn (w:World)(f g b:Nat)(a:List Rd.Wd)(st:Rd.St)(h:Rdr w f g b a st)(v:st.next<1000)(l:lD a):
  Calls prog 253 #[.pointer (Y ⟨f,0,X⟩)] w λe m=>e=.returned (.int .i64 (Rd.term a st).1)/\Rdr m f g b a (Rd.term a st).2/\Keep f w m:=by
 have c:=Kj w f g b a st h;unfold zT at c;have k:=l st.next;have q:Hid (Rd.term a st=bif (Rd.aA a st.next).kind==1 then bif Rd.valTo (Rd.aA a st.next).text (Rd.aA a st.next).text.size==0 then(0,st)else(Rd.valTo (Rd.aA a st.next).text (Rd.aA a st.next).text.size,st.aJ)else(0,st)):=rfl;clear l;generalize Rd.aA a st.next=x at*;have i:Hid (Calls prog 90 #[.pointer (Y ⟨f,0,X⟩)] w λe m=>e=.returned (.agg #[.int .i64 x.kind,.string x.text,.int .i64 x.pos])/\Below w.heap.size w m):=c;have o:Hid (x.kind=1->x.text.size<=9):=k;clear c k;cases n:(x.kind==1)
 .have s:(x.kind != 1)=I:=by simp[bne,n]
  go_in
  go_wp2_with fail
  refine(i.out).mono ?_;rintro e t⟨rfl,d⟩
  go_wp2_with fail
  go_ret
  rw[q.out,n];exact⟨rfl,(h.below d).alloc _,(Keep.cQ d).alloc _⟩
 .have p:=o.out (by simpa using n);cases r:(Rd.valTo x.text x.text.size==0)
  all_goals
   go_in
   go_wp2_with fail
   refine(i.out).mono ?_;rintro e t⟨rfl,d⟩;have j:=h.below d;have u:=j.c1;have f1:=j.fz 1;have y:=j.lt
   go_wp2_with (go_at_call 227;refine(aGj _ _ _ _ p).mono ?_;rintro e m⟨rfl,rfl⟩)
   go_ret
   rw[q.out,n,r]
  .exact⟨rfl,((j.gK (st.next+1) E4).alloc _).alloc _,(((Keep.cQ d).setCell 1 _).alloc _).alloc _⟩
  .exact⟨Iu (by simpa using r),(j.alloc _).alloc _,((Keep.cQ d).alloc _).alloc _⟩
theorem Bc (w:World)(b g a:Nat)(d:List Rd.Wd)(st:Rd.St)(c:ByteArray)(h:Rdr w b g a d st)(i:st.next<1000)(t:Rd.tk d st c=I):
  Calls prog 129 #[.pointer (Y ⟨b,0,X⟩),.string c] w λe f=>e=.returned (.bool I)/\Rdr f b g a d st.aJ/\Keep b w f:=by
 have:=aL3 w b g a d st c h i;rw[t]at this;exact this
theorem Eu (w:World)(b g a:Nat)(d:List Rd.Wd)(st:Rd.St)(c:ByteArray)(h:Rdr w b g a d st)(i:st.next<1000)(t:Rd.tk d st c=J):
  Calls prog 129 #[.pointer (Y ⟨b,0,X⟩),.string c] w λe f=>e=.returned (.bool J)/\Rdr f b g a d st/\Keep b w f:=by
 have:=aL3 w b g a d st c h i;grind
def eW (b g a:Nat)(f:List Rd.Wd)(w:World)(res:Option Rd.Tr)(c:Rd.St)(e:Ending)(d:World):Prop:=
 ∃v,e=.returned v/\Ap b d res v/\Rdr d b g a f c/\Keep b w d
theorem eW.nil {k:Nat}{a:Rd.St}(h:Rdr s w k p M a)(b:Keep w v s):eW w k p M v X a (.returned (.pointer X)) s:=
 ⟨_,rfl,rfl,h,b⟩
variable {a:PH}
theorem pX {k size N:Nat}(b:wr.ownsRow k e size z N a)(j:Keep w wr s)(l:w<k):s.ownsRow k e size z N a:=by
 have⟨h1,f⟩:=b;refine⟨h1,?_⟩
 rcases f with f|⟨g,c,d,hv,i,h,r⟩
 .simp_all
 .exact Or.inr ⟨g,c,d,hv,i,by rw[j.block g (cZ h) O];exact h,r⟩
theorem aLb {B size N:Nat}{l:Value}(f:wr.ownsRow B e size l N a)(p:Keep w v wr)(r:v.heap.size<=B)(o:Obj)(c:(wr.alloc o).grownBy L l.ownBlock):Keep w v L:=by
 have b:=p.alloc o;refine⟨c.os.trans b.os,c.tape.trans b.tape,c.output.trans b.output,p6 b.size c.size,λk d q=>?_⟩;rw[c.block k (p8 d b.size) ?_]
 .exact b.block k d q
 .intro e
  rcases f.2 with⟨h,_⟩|⟨g,i,j,h,m,_⟩
  .rw[h]at e;cases e
  .rw[h]at e;simp only[r5,j8]at e;omega
theorem aVj {r size n:Nat}{l:Value}(h:Rdr wr w g p M st)(c:wr.ownsRow r e size l n a)(j:w<r)(i:g<r)(o:Obj)(m:(wr.alloc o).grownBy s l.ownBlock):Rdr s w g p M st:=by
 have f:=h.alloc o
 have d:∀k,k<r->k<(wr.alloc o).heap.size->s.heap[k]?=(wr.alloc o).heap[k]?:=by
  intro k u t;refine m.block k t ?_;intro e
  rcases c.2 with⟨h,_⟩|⟨g,p,b,h,q,_⟩
  .rw[h]at e;cases e
  .rw[h]at e;simp only[r5,j8]at e;omega
 have⟨b,h1,h2⟩:=f.row;exact⟨by rw[d w j f.lt];exact f.rd,⟨b,by rw[d g i (cZ h1)];exact h1,h2⟩,f.ne⟩
theorem aQv {B n:Nat}{x:LB}(a:v.ownsRow B 3 1 z n (x.map (q9 .i64)))(k:w<B)(j:n=x.length)(l:0<n):cI w v x z:=by
 rcases a.2 with⟨_,h⟩|⟨g,b,c,h,i,d,e,_,_,f⟩
 .omega
 .subst j;exact Or.inr ⟨g,b,c,h,O,d,e,by simpa using f⟩
theorem rM:(prog.info? 3).map (λi=>(i.zero,i.size,i.bytes))=Y (Y (.int .i64 0),1,8):=E0
theorem aRc (w:World)(b g a:Nat)(c:List Rd.Wd)(st:Rd.St)(h:Rdr w b g a c st)(i:st.next<1000)(j:Rd.tk c st ⟨#[91]⟩=J):
  Calls prog 243 #[.pointer (Y ⟨b,0,X⟩)] w (eW b g a c w X st):=by
 go_in
 go_wp2_with fail
 refine(Eu _ b g a c st _ h i j).mono ?_;rintro e k⟨rfl,f,d⟩
 go_wp2_with fail
 go_ret
 exact eW.nil f d
theorem aRd (w:World)(f g a:Nat)(b:List Rd.Wd)(st:Rd.St)(h:Rdr w f g a b st)(k:st.next<900)(j:Rd.tk b st ⟨#[91]⟩=I)(l:((Rd.aA b st.aJ.next).kind != 1)=I):
  Calls prog 243 #[.pointer (Y ⟨f,0,X⟩)] w (eW f g a b w X st.aJ):=by
 go_in
 go_wp2_with fail
 refine(Bc _ f g a b st _ h O j).mono ?_;rintro e m⟨rfl,c,i⟩
 go_wp2_with fail
 refine(Kj _ f g a b _ c).mono ?_;unfold zT;rintro e n⟨rfl,d⟩
 go_wp2_with fail
 go_ret
 exact eW.nil ((c.below d).alloc _) ((i.trans (Keep.cQ d)).alloc _)
theorem aRe (w:World)(d g a:Nat)(c:List Rd.Wd)(st:Rd.St)(h:Rdr w d g a c st)(p:st.next<900)(m:Rd.tk c st ⟨#[91]⟩=I)(r:((Rd.aA c st.aJ.next).kind != 1)=J)(n:Rd.tk c st.aJ.aJ ⟨#[59]⟩=J):
  Calls prog 243 #[.pointer (Y ⟨d,0,X⟩)] w (eW d g a c w X st.aJ.aJ):=by
 have b1:st.aJ.next<901:=by show st.next+1<901;omega
 go_in
 go_wp2_with fail
 refine(Bc _ d g a c st _ h O m).mono ?_;rintro e s⟨rfl,f,j⟩
 go_wp2_with fail
 refine(Kj _ d g a c _ f).mono ?_;unfold zT;rintro e t⟨rfl,i⟩;have b:=f.below i;have o:=b.c1;have f1:=b.fz 1;have q:=b.lt
 go_wp2_with fail
 refine(Eu _ d g a c st.aJ.aJ _ ((b.gK (st.aJ.next+1) E4).alloc _) (by show st.aJ.next+1<1000;omega) n).mono ?_;rintro e u⟨rfl,l,k⟩
 go_wp2_with fail
 go_ret
 exact eW.nil l ((((j.trans (Keep.cQ i)).setCell 1 _).alloc _).trans k)
theorem aEE (w:World)(o a:Obj):((w.alloc o).alloc a).heap[w.heap.size+1]?=Y a:=by
 have:=lE (w.alloc o) a
 simp_all
theorem aKr {c:Nat}{g:LB}{b a:Rd.St}{n:Int}{R:Option (Option (List Int)×Rd.St)}{x:Option Rd.Tr×Rd.St}(h8:c<=8)(h:Rd.terms M (9-c) c g b=R)(i:Rd.lG R=Y x)(k:Rd.term M b=(n,a)):
  b.ok/\a.ok/\R=bif n==0 then Y (X,a)else bif Rd.tk M a ⟨#[93]⟩then Y (Y (g++[n]),a.aJ)else bif c==8 then Y (X,a)else bif Rd.tk M a ⟨#[44]⟩then Rd.terms M (9-(c+1)) (c+1) (g++[n]) a.aJ else Y (X,a):=by
 obtain⟨f,j⟩:∃f,9-c=f+1:=⟨8-c,O⟩
 have e:9-(c+1)=f:=O
 rw[j,Rd.terms,k]at h;rw[e]
 cases d:(b.okB&&a.okB)with
 |false=>
  simp only[d]at h;rw[<-h]at i;cases i
 |true=>
  simp only[d]at h;simp at d;exact⟨Rd.St.Bi d.1,Rd.St.Bi d.2,h.symm⟩
def Gh (d g a:Nat)(e:List Rd.Wd)(w:World)(R:Option (Option (List Int)×Rd.St))(l i:Value)(wr:World):Prop:=
 ∃(c:Nat) (b:LB) (st:Rd.St),i=.int .i64 c/\1<=c/\c<=8/\b.length=c/\wr.ownsRow w.heap.size 3 1 l c (b.map (q9 .i64))/\Rdr wr d g a e st/\Keep d w wr/\Rd.terms e (9-c) c b st=R
theorem Qt {o:Obj}(c:Keep w (v.alloc o) s)(a:b=v.heap.size)(d:b≠w):s.heap[b]?=Y o:=by
 subst a;rw[c.block v.heap.size E4 d];exact lE _ _
theorem aRf (w:World)(j g f:Nat)(d:List Rd.Wd)(st:Rd.St)(h:Rdr w j g f d st)(hn:st.next<900)(ag:lD d)(t1:Rd.tk d st ⟨#[91]⟩=I)(t2:((Rd.aA d st.aJ.next).kind != 1)=J)(t3:Rd.tk d st.aJ.aJ ⟨#[59]⟩=I)
  (res:Option Rd.Tr) (N:Rd.St) (hp:Rd.lG (Rd.terms d 8 1 [Rd.valTo (Rd.aA d st.aJ.next).text (Rd.aA d st.aJ.next).text.size] st.aJ.aJ.aJ)=Y (res,N)):
  Calls prog 243 #[.pointer (Y ⟨j,0,X⟩)] w (eW j g f d w res N):=by
 have b1:st.aJ.next<901:=by show st.next+1<901;omega
 have m:=h.lt
 have hg:g<w.heap.size:=by obtain⟨a7,h1,_⟩:=h.row;exact cZ h1
 have ba:(Rd.aA d st.aJ.next).text.size<=9:=ag _ (by simpa[bne]using t2);obtain⟨i,hi,hz,ae,a9⟩:=info_parts rM;have am:Hid (lD d):=ag;clear ag;have HP:Hid (Rd.lG (Rd.terms d 8 1 [Rd.valTo (Rd.aA d st.aJ.next).text (Rd.aA d st.aJ.next).text.size] st.aJ.aJ.aJ)=Y (res,N)):=hp;clear hp
 have WX:Hid (∀W,Rdr W j g f d st.aJ->Calls prog 90 #[.pointer (Y ⟨j,0,X⟩)] W λe w'=>e=.returned (.agg #[.int .i64 (Rd.aA d st.aJ.next).kind,.string (Rd.aA d st.aJ.next).text,.int .i64 (Rd.aA d st.aJ.next).pos])/\Below W.heap.size W w'):=λW hW=>Kj W j g f d st.aJ hW
 generalize Rd.aA d st.aJ.next=x at*;generalize aq:Rd.terms d 8 1 [Rd.valTo x.text x.text.size] st.aJ.aJ.aJ=R at*;have ak:Hid (Rd.terms d 8 1 [Rd.valTo x.text x.text.size] st.aJ.aJ.aJ=R):=aq;clear aq
 go_in
 go_wp2_with fail
 refine(Bc _ j g f d st _ h O t1).mono ?_;rintro e w1⟨rfl,aa,ao⟩
 go_wp2_with fail
 refine(WX.out _ aa).mono ?_;rintro e w2⟨rfl,ab⟩;have z:=aa.below ab;have d1:=z.c1;have f1:=z.fz 1;have l1:=z.lt
 go_wp2_with fail
 refine(Bc _ j g f d st.aJ.aJ _ ((z.gK (st.aJ.next+1) E4).alloc _) (by show st.aJ.next+1<1000;omega) t3).mono ?_;rintro e w3⟨rfl,ar,S⟩;have hx:=Qt (b:=w2.heap.size) S (Ej _ _ _).symm O;have x0:w3.cell? ⟨w2.heap.size,0,X⟩=Y (.int .i64 x.kind):=aB hx rfl;have x1:w3.cell? ⟨w2.heap.size,1,X⟩=Y (.string x.text):=aB hx rfl;have x2:w3.cell? ⟨w2.heap.size,2,X⟩=Y (.int .i64 x.pos):=aB hx rfl;have U:Keep j w w3:=(((ao.trans (Keep.cQ ab)).setCell 1 _).alloc _).trans S;clear hx S z d1 f1 l1 ab aa ao WX
 go_wp2_with (go_at_call 227;refine(aGj _ _ _ _ ba).mono ?_;rintro e w'⟨rfl,rfl⟩)
 have bg:=U.size
 go_loopw [4,5] (λl i wr=>Gh j g f d w R l i wr) (λ_ i _=>9-(intOf i).toNat)
 case atStart=>
  refine⟨1,[Rd.valTo x.text x.text.size],st.aJ.aJ.aJ,rfl,o9 _,O,rfl,?_,(ar.alloc _).alloc _,(U.alloc _).alloc _,ak.out⟩;refine⟨rfl,Or.inr ⟨w3.heap.size+1,1,#[.int .i64 (Rd.valTo x.text x.text.size)],rfl,O,?_,o9 _,E3,rfl,rfl⟩⟩;exact aEE _ _ _
 case round=>
  obtain⟨c,ts,ay,rfl,c1,c8,ax,t,hR,hK,ap⟩:=hrel;generalize hT:Rd.term d ay=T;obtain⟨P,a⟩:=T;obtain⟨o1,o2,av⟩:=aKr c8 ap HP.out hT
  have TM:Hid (Calls prog 253 #[.pointer (Y ⟨j,0,X⟩)] wr λe w'=>e=.returned (.int .i64 P)/\Rdr w' j g f d a/\Keep j wr w'):=by
   have:=aSn wr j g f d ay hR o1.1 am.out;rw[hT]at this;exact this
  have y:Hid (R=bif P==0 then Y (X,a)else bif Rd.tk d a ⟨#[93]⟩then Y (Y (ts++[P]),a.aJ)else bif c==8 then Y (X,a)else bif Rd.tk d a ⟨#[44]⟩then Rd.terms d (9-(c+1)) (c+1) (ts++[P]) a.aJ else Y (X,a)):=av;have al:Hid (ts.length=c):=ax;have b2:a.next<1000:=o2.1;have b0:=hK.size;clear ap ax av hT o1 am ak x0 x1 x2 ar U h;cases u1:(P==0)
  .go_wp2_with fail
   refine(TM.out).mono ?_;rintro e w5⟨rfl,M,p⟩;have bh:=p.size
   go_wp2_with (at_builtin;refine wpList_append_own _ rfl _ _ 32 rfl w.heap.size 3 i (.int .i64 0) 1 8 underlying32 hi hz ae a9 rfl E3 _ _ _ rfl ((pX t p m).alloc _) ⟨w5.heap.size,0,X⟩ 1 1 [.int .i64 P] rfl rfl (cell_one_new _ _ _) (λu hu=>by simp at hu;subst hu;rfl) (by unfold maxLen;omega) O (by simp;omega) ?_;intro v' w6 C k ad)
   have au:=aVj M (pX t p m) m hg _ k;have L:=aLb (pX t p m) (hK.trans p) (o9 _) _ k;clear ad k M p t hR hK;cases u2:Rd.tk d a ⟨#[93]⟩
   .refine(Eu _ j g f d a _ au b2 u2).mono ?_;rintro e w7⟨rfl,v,s⟩;cases u3:((c:Int)==8)
    .have F:(c==8)=J:=by simp at u3;simp;omega
     cases u4:Rd.tk d a ⟨#[44]⟩
     .go_wp2_with fail
      refine(Eu _ j g f d a _ v b2 u4).mono ?_;rintro e w8⟨rfl,A,q⟩
      go_wp2_with fail
      go_ret
      have e:=HP.out;rw[y.out,u1,u2,F,u4]at e;simp only[cond_true,cond_false,Rd.lG,j8,q8]at e;obtain⟨rfl,rfl⟩:=e;exact eW.nil A ((L.trans s).trans q)
     .go_wp2_with fail
      refine(Bc _ j g f d a _ v b2 u4).mono ?_;rintro e w8⟨rfl,A,q⟩
      go_wp2_with fail
      go_roundw
      case rel=>
       refine⟨c+1,ts++[P],a.aJ,by go_num,O,by have:=F;simp at this;omega,by simp[al.out],?_,A,(L.trans s).trans q,?_⟩
       .have:=pX (pX C s m) q m
        simpa using this
       .have e:=y.out;rw[u1,u2,F,u4]at e;exact e.symm
      case measure=>simp[intOf];omega
    .have F:(c==8)=I:=by simp at u3;simp;omega
     go_wp2_with fail
     go_ret
     have e:=HP.out;rw[y.out,u1,u2,F]at e;simp only[cond_true,cond_false,Rd.lG,j8,q8]at e;obtain⟨rfl,rfl⟩:=e;exact eW.nil v (L.trans s)
   .refine(Bc _ j g f d a _ au b2 u2).mono ?_;rintro e w7⟨rfl,v,s⟩;have D:=pX C s m
    obtain⟨g6,o,af⟩:∃g6 o,v'=.slice (Y ⟨g6,0,X⟩) (c+1) o:=by
     rcases D.2 with⟨_,hh⟩|⟨g6,o,a7,hv,_⟩
     .omega
     .exact⟨g6,o,hv⟩
    have HV:Hid (v'=.slice (Y ⟨g6,0,X⟩) (c+1) o):=af;rw[af];clear af;have e:=HP.out;rw[y.out,u1,u2]at e;simp only[cond_true,cond_false,Rd.lG]at e
    have o3:a.aJ.okB=I:=by
     cases ho:a.aJ.okB with
     |true=>rfl
     |false=>rw[ho]at e;cases e
    have HE:Hid ((bif a.aJ.okB then Y (Y (Rd.eY 4 0 (ts++[P])),a.aJ.leaf)else X)=Y (res,N)):=e;have HO:Hid (a.aJ.okB=I):=o3;clear e o3
    go_wp2_with fail
    refine(Xg _ j g f d a.aJ _ (v.alloc _) (Rd.St.Bi HO.out)).mono ?_;rintro e w8⟨rfl,A,q⟩
    go_wp2_with fail
    go_ret
    have e:=HE.out;rw[HO.out]at e;simp only[cond_true,j8,q8]at e;obtain⟨rfl,rfl⟩:=e
    have hne:w7.heap.size≠j:=by have:=v.lt;omega
    refine⟨_,rfl,?_,A,((L.trans s).alloc _).trans q⟩;refine Km (ts:=ts++[P]) (l:=.nil) (r:=.nil) hne (Qt q rfl hne) ?_ rfl rfl;rw[<-HV.out];refine aQv (B:=w.heap.size) (n:=c+1) ?_ m (by simp[al.out]) O;have:=pX (D.alloc _) q m
    simpa using this
  .go_wp2_with fail
   refine(TM.out).mono ?_;rintro e w5⟨rfl,M,p⟩
   go_wp2_with fail
   go_ret
   have e:=HP.out;rw[y.out,u1]at e;simp only[cond_true,Rd.lG,j8,q8]at e;obtain⟨rfl,rfl⟩:=e;exact eW.nil M (hK.trans p)
theorem aG4 (w:World)(e g a:Nat)(c:List Rd.Wd)(st:Rd.St)(h:Rdr w e g a c st)(m:lD c)(res:Option Rd.Tr)(f:Rd.St)(b:Rd.continued c st=Y (res,f)):
  Calls prog 243 #[.pointer (Y ⟨e,0,X⟩)] w (eW e g a c w res f):=by
 unfold Rd.continued at b
 cases j:(decide (st.next<900)&&st.okB)with
 |false=>rw[j]at b;cases b
 |true=>
  rw[j]at b;simp at j;have l:=j.1
  cases d:Rd.tk c st ⟨#[91]⟩with
  |false=>
   rw[d]at b;obtain⟨rfl,rfl⟩:=b;exact aRc w e g a c st h O d
  |true=>
   cases i:((Rd.aA c st.aJ.next).kind==1)with
   |false=>
    rw[d,i]at b;obtain⟨rfl,rfl⟩:=b;exact aRd w e g a c st h l d (by simp[bne,i])
   |true=>
    cases k:Rd.tk c st.aJ.aJ ⟨#[59]⟩with
    |false=>
     rw[d,i,k]at b;obtain⟨rfl,rfl⟩:=b;exact aRe w e g a c st h l d (by simp[bne,i]) k
    |true=>
     rw[d,i,k]at b;exact aRf w e g a c st h l m d (by simp[bne,i]) k res f b
def kK (c g a:Nat)(e:List Rd.Wd)(h:FuncId)(d f:Nat):Prop:=
 ∀(w:World) (st:Rd.St) (res:Option Rd.Tr) (b:Rd.St),Rdr w c g a e st->Rd.parse e f d X st=Y (res,b)->Calls prog h #[.pointer (Y ⟨c,0,X⟩)] w (eW c g a e w res b)
variable {F:Option Rd.Tr->Rd.St->Rd.pQ}{y:Option Rd.Tr×Rd.St}
theorem uY {a:Rd.pQ}(h:Rd.pQ.next a F=Y y):∃l st,a=Y (l,st)/\F l st=Y y:=by
 cases a with
 |none=>cases h
 |some x=>exact⟨x.1,x.2,rfl,h⟩
theorem cA {p:Prop}(h:p):Hid p:=h
theorem aPD {k:Int}{l r:Rd.Tr}(h:Rd.pQ.next (Rd.operOf k l (Y r) st) F=Y y):st.ok/\F (Y (Rd.xQ k l r)) st.node=Y y:=by
 simp only[Rd.operOf]at h
 cases a:st.okB with
 |false=>rw[a]at h;cases h
 |true=>
  rw[a]at h;exact⟨Rd.St.Bi a,h⟩
theorem aQa (s g i:Nat)(j:List Rd.Wd)(f:Nat){W fc:FuncId}{n q:Nat}(h:(W=89/\fc=128/\w=0/\n=2/\q=1)\/(W=128/\fc=170/\w=2/\n=4/\q=3))(IH:Hid (∀k,k<f->kK s g i j fc n k)):kK s g i j W w f:=by
 rcases h with⟨rfl,rfl,rfl,rfl,hq⟩|⟨rfl,rfl,rfl,rfl,hq⟩
 all_goals
  intro a st res al L d
  obtain⟨f0,rfl⟩:∃f0,f=f0+1:=by
   cases f with
   |zero=>cases d
   |succ f0=>exact⟨f0,rfl⟩
  obtain⟨l0,D,y,z⟩:=uY d;have u:Hid (Rd.parse j f0 _ X st=Y (l0,D)):=y;have p:Hid (Rd.parse j f0 _ l0 D=Y (res,al)):=z;clear d y z
  first
  |go_in
  |go_in
  go_wp2_with fail
  refine(IH.out f0 O _ st l0 D L u.out).mono ?_;rintro e w1⟨v1,rfl,af,aj,ah⟩;clear L u
  go_wp2_with fail
  go_loopg [3] f0 (λk l wr=>∃lt c,k<=f0/\Ap s wr lt l/\Rdr wr s g i j c/\Keep s a wr/\Rd.parse j k q lt c=Y (res,al))
  case atStart=>exact⟨l0,D,o9 _,af,aj,ah,by rw[hq];exact p.out⟩
  case round=>
   obtain⟨lt,c,hk,hE,L,hK,d⟩:=hrel;rw[hq]at d;clear p af aj ah
   obtain⟨k,T⟩:∃k,gk=k+1:=by
    cases gk with
    |zero=>cases d
    |succ k=>exact⟨k,rfl⟩
   rw[T]at d;have ad:Hid (gk=k+1):=T
   have az:k<f0+1:=O
   clear T
   cases lt with
   |none=>
    simp only[Rd.parse,j8,q8]at d;obtain⟨rfl,rfl⟩:=d;rw[show _=r7 X from hE];clear hE
    go_wp2_with fail
    go_ret
    exact eW.nil L hK
   |some t=>
    obtain⟨⟨b,hb⟩,B⟩:=hE;rw[hb];rw[hb]at B;clear hb;rw[Rd.parse]at d
    cases ho:c.okB with
    |false=>rw[ho]at d;cases d
    |true=>
     rw[ho]at d;simp at d;have ok:=Rd.St.Bi ho;have b2:c.next<1000:=ok.1;clear ho ok
     first
     |(have _:q=1:=hq;cases u1:Rd.tk j c ⟨#[43]⟩)
     |cases u1:Rd.tk j c ⟨#[42]⟩
     first
     |(have _:q=1:=hq;cases u2:Rd.tk j c ⟨#[45]⟩)
     |cases u2:Rd.tk j c ⟨#[47]⟩
     .rw[u1,u2]at d;simp at d;obtain⟨rfl,rfl⟩:=d
      go_wp2_with fail
      refine(Eu _ s g i j c _ L b2 u1).mono ?_;rintro e w2⟨rfl,C,v⟩
      go_wp2_with fail
      refine(Eu _ s g i j c _ C b2 u2).mono ?_;rintro e w3⟨rfl,x,o⟩
      go_wp2_with fail
      go_ret
      exact⟨_,rfl,⟨⟨b,rfl⟩,jE.keep (v.trans o) B⟩,x,(hK.trans v).trans o⟩
     all_goals
      rw[u1]at d
      try rw[u2]at d
      simp only[cond_true,cond_false]at d;obtain⟨r,A,y,z⟩:=uY d;have u:Hid (Rd.parse j k _ X c.aJ=Y (r,A)):=y;have p:=cA z;clear d y z
      go_wp2_with fail
      first
      |(refine(Bc _ s g i j c _ L b2 u1).mono ?_;rintro e w3⟨rfl,x,o⟩)
      |(refine(Eu _ s g i j c _ L b2 u1).mono ?_;rintro e w2⟨rfl,C,v⟩;go_wp2_with fail;refine(Bc _ s g i j c _ C b2 u2).mono ?_;rintro e w3⟨rfl,x,F⟩;have o:=v.trans F;clear C v F)
      go_wp2_with fail
      refine(IH.out k az _ c.aJ r A x u.out).mono ?_;rintro e w4⟨v4,rfl,M,R,N⟩;have av:jE s w4 t (.pointer (Y ⟨b,0,X⟩)):=jE.keep (o.trans N) B;have ai:Keep s a w4:=(hK.trans o).trans N;clear hK o N L x B u
      cases r with
      |none=>
       rw[show v4=r7 X from M];clear M
       go_wp2_with fail
       refine(aHy _ _ _ _).mono ?_;rintro e w5⟨rfl,rfl⟩
       go_wp2_with fail
       go_roundg k
       case measure=>have:=ad.out;omega
       case rel=>exact⟨X,A,O,rfl,R,ai,by rw[hq];exact p.out⟩
      |some r=>
       obtain⟨⟨b4,S⟩,ag⟩:=M;rw[S];rw[S]at ag;clear S;obtain⟨a0,U⟩:=aPD p.out;rw[<-hq]at U;clear p;have aq:=cA U;have a4:=R.lt;clear U
       go_wp2_with fail
       refine(aGo _ s g i j A _ _ _ R a0).mono ?_;rintro e w5⟨rfl,ax,P,ak⟩
       go_wp2_with fail
       go_roundg k
       case measure=>have:=ad.out;omega
       case rel=>exact⟨Y (Rd.xQ _ t r),A.node,O,Km O ak (Or.inl ⟨rfl,rfl⟩) (jE.keep P av) (jE.keep P ag),ax,ai.trans P,aq.out⟩
theorem aLw (h:1<=st.around):(st.around:Int)-1=((st.around-1:Nat):Int):=O
theorem aF3 (h:st.fO=I):st.ok/\1<=st.around:=by
 simp only[Rd.St.fO,Bool.and_eq_true,decide_eq_true_eq]at h;exact⟨Rd.St.Bi h.1,h.2⟩
theorem aL9 {k:Int}{x:Rd.Tr}(h:Rd.cU k (Y x) st=Y y):st.ok/\y=(Y (Rd.An k x),st.node):=by
 simp only[Rd.cU]at h
 cases a:st.okB with
 |false=>rw[a]at h;cases h
 |true=>
  rw[a]at h;exact⟨Rd.St.Bi a,(j9 h).symm⟩
theorem aKj (n g b:Nat)(p:List Rd.Wd)(f:Nat)(N:Hid (∀k,k<f->kK n g b p 170 4 k))(M:Hid (∀k,k<f->kK n g b p 205 5 k)):kK n g b p 170 4 f:=by
 intro w st res D B a
 obtain⟨f0,rfl⟩:∃f0,f=f0+1:=by
  cases f with
  |zero=>cases a
  |succ f0=>exact⟨f0,rfl⟩
 rw[Rd.parse]at a
 cases v:st.okB with
 |false=>rw[v]at a;cases a
 |true=>
  rw[v]at a;simp at a;have ok:=Rd.St.Bi v;have b1:=ok.1;have U:st.aJ.around<1000:=ok.2.1;clear v ok;cases y:Rd.tk p st ⟨#[45]⟩
  .rw[y]at a;simp at a;have L:=cA a;clear a
   go_in
   go_wp2_with fail
   refine(Eu _ n g b p st _ B b1 y).mono ?_;rintro e S⟨rfl,c,j⟩
   go_wp2_with fail
   refine(M.out f0 O _ st res D c L.out).mono ?_;rintro e z⟨R,rfl,i,d,l⟩
   go_wp2_with fail
   go_ret
   exact⟨_,rfl,i,d,j.trans l⟩
  .rw[y]at a;simp at a;have⟨x,st2,hp1,h⟩:=uY a
   cases m:st2.fO with
   |false=>rw[m]at h;cases h
   |true=>
    rw[m]at h;simp at h;have⟨ok2,out2⟩:=aF3 m;have W:=ok2.2.1;have q:=cA hp1;have r:=cA h;clear a hp1 h m ok2
    go_in
    go_wp2_with fail
    refine(Bc _ n g b p st _ B b1 y).mono ?_;rintro e S⟨rfl,c,j⟩;have F:=c.c2;have f2:=c.fz 2
    go_wp2_with fail
    refine(N.out f0 O _ st.aJ.uP x st2 (c.pP (st.aJ.around+1) E4) q.out).mono ?_;rintro e z⟨R,rfl,i,d,l⟩;have s:=(j.setCell 2 _).trans l;clear F f2 j l c B q;have F:=d.c2;have f2:=d.fz 2;have u:=d.pP (st2.around-1) (aLw out2);have P:=d.lt
    cases x with
    |none=>
     rw[i];clear i;have e:=r.out;simp only[Rd.cU,j8]at e;obtain⟨rfl,rfl⟩:=e
     go_wp2_with fail
     refine(aJk _ _ _).mono ?_;rintro e T⟨rfl,rfl⟩
     go_wp2_with fail
     go_ret
     exact eW.nil u (s.setCell 2 _)
    |some x=>
     have⟨⟨b4,hb4⟩,hE6⟩:=i;rw[hb4];rw[hb4]at hE6;have⟨ok3,hy⟩:=aL9 r.out;obtain⟨rfl,rfl⟩:=hy;have A:Keep n z (z.setCell ⟨n,2,X⟩ (.int .i64 ((st2.around:Int)-1))):=(Keep.refl _ _).setCell 2 _
     go_wp2_with fail
     refine(aGN _ n g b p st2.out _ _ u ok3).mono ?_;rintro e T⟨rfl,C,t,o⟩;rw[Ej]at o
     have hne:z.heap.size≠n:=O
     go_wp2_with fail
     go_ret
     refine⟨_,rfl,Km hne o (Or.inl ⟨rfl,rfl⟩) (jE.keep (A.trans t) hE6) rfl,C,(s.setCell 2 _).trans t⟩
theorem aGZ (m g b:Nat)(n:List Rd.Wd)(f:Nat)(L:Hid (∀k,k<f->kK m g b n 89 0 k)):kK m g b n 231 6 f:=by
 intro w st res N B d
 obtain⟨f0,rfl⟩:∃f0,f=f0+1:=by
  cases f with
  |zero=>cases d
  |succ f0=>exact⟨f0,rfl⟩
 rw[Rd.parse]at d
 .cases v:st.okB with
  |false=>rw[v]at d;cases d
  |true=>
   rw[v]at d;simp at d;have ok:=Rd.St.Bi v;have b1:=ok.1;have S:st.aJ.around<1000:=ok.2.1;clear v ok;cases y:Rd.tk n st ⟨#[40]⟩
   .rw[y]at d;simp at d;obtain⟨rfl,rfl⟩:=d
    go_in
    go_wp2_with fail
    refine(Eu _ m g b n st _ B b1 y).mono ?_;rintro e P⟨rfl,c,h⟩
    go_wp2_with fail
    go_ret
    exact eW.nil c h
   .rw[y]at d;simp at d;have⟨x,st2,hp1,a⟩:=uY d;unfold Rd.iY at a
    cases l:st2.fO with
    |false=>rw[l]at a;cases a
    |true=>
     rw[l]at a;simp at a;have⟨ok2,out2⟩:=aF3 l;have T:=ok2.2.1;have C:=ok2.1;have t:=cA hp1;have o:=cA a;clear d hp1 a l ok2
     go_in
     go_wp2_with fail
     refine(Bc _ m g b n st _ B b1 y).mono ?_;rintro e P⟨rfl,c,h⟩;have D:=c.c2;have f2:=c.fz 2
     go_wp2_with fail
     refine(L.out f0 O _ st.aJ.uP x st2 (c.pP (st.aJ.around+1) E4) t.out).mono ?_;rintro e F⟨U,rfl,p,j,u⟩;have q:=(h.setCell 2 _).trans u;clear D f2 h u c B t;have D:=j.c2;have f2:=j.fz 2;have r:=j.pP (st2.around-1) (aLw out2);have M:=j.lt
     cases x with
     |none=>
      rw[p];clear p;have e:=o.out;simp at e;obtain⟨rfl,rfl⟩:=e
      go_wp2_with fail
      go_ret
      exact eW.nil r (q.setCell 2 _)
     |some x=>
      have⟨⟨b5,hb5⟩,hE6⟩:=p;rw[hb5];rw[hb5]at hE6;clear hb5;have A:Keep m F (F.setCell ⟨m,2,X⟩ (.int .i64 ((st2.around:Int)-1))):=(Keep.refl _ _).setCell 2 _;have e:=o.out;clear o;cases z:Rd.tk n st2.out ⟨#[41]⟩
      .simp only[z,j8]at e;obtain⟨rfl,rfl⟩:=e
       go_wp2_with fail
       refine(Eu _ m g b n st2.out _ r C z).mono ?_;rintro e R⟨rfl,s,i⟩
       go_wp2_with fail
       go_ret
       exact eW.nil s ((q.setCell 2 _).trans i)
      .simp only[z,cond_true,j8,q8]at e;obtain⟨rfl,rfl⟩:=e
       go_wp2_with fail
       refine(Bc _ m g b n st2.out _ r C z).mono ?_;rintro e R⟨rfl,s,i⟩
       go_wp2_with fail
       go_ret
       exact⟨_,rfl,⟨⟨b5,rfl⟩,jE.keep (A.trans i) hE6⟩,s,(q.setCell 2 _).trans i⟩
 all_goals omega
theorem Ry {t:Rd.Tr}{a:Rd.St}(h:(bif st.okB then Y (Y t,a)else X)=Y y):st.ok/\y=(Y t,a):=by
 cases b:st.okB with
 |false=>rw[b]at h;cases h
 |true=>
  rw[b]at h;exact⟨Rd.St.Bi b,(j9 h).symm⟩
theorem aPd (o g i:Nat)(p:List Rd.Wd)(f:Nat)(v:lD p)(P:Hid (kK o g i p 231 6 f))(w:World)(k:Int)(st:Rd.St)(res:Option Rd.Tr)(t:Rd.St)(q:Rdr w o g i p st)(b1:st.next<1000)
  (d:Rd.nameOf p k st (λs=>Rd.parse p f 6 X s)=Y (res,t)):Calls prog 230 #[.pointer (Y ⟨o,0,X⟩),.int .i64 k] w (eW o g i p w res t):=by
 unfold Rd.nameOf at d;have B:=cA v;clear v;cases y:(k==0)
 .have R:=q.c1;have f1:=q.fz 1;have j:=q.gK (st.next+1) (m:=(st.next:Int)+1) E4;have n:Keep o w (w.setCell ⟨o,1,X⟩ (.int .i64 ((st.next:Int)+1))):=(Keep.refl _ _).setCell 1 _;have S:=j.lt;cases z:(k==2)
  .cases D:(k==3)
   .cases M:(k==4)
    .rw[y,z,D,M]at d;simp at d;have⟨x,st2,hp1,hp2⟩:=uY d;have A:=cA hp1;have r:=cA hp2;clear d hp1 hp2
     go_in
     go_wp2_with fail
     refine(P.out _ st.aJ x st2 j A.out).mono ?_;rintro e F⟨T,rfl,l,c,a⟩;have L:=c.lt;clear q j R f1
     cases x with
     |none=>
      rw[l];clear l;have e:=r.out;simp only[Rd.cU]at e;obtain⟨rfl,rfl⟩:=e
      go_wp2_with fail
      refine(aJk _ _ _).mono ?_;rintro e U⟨rfl,rfl⟩
      go_wp2_with fail
      go_ret
      exact eW.nil c (n.trans a)
     |some x=>
      have⟨⟨b4,hb4⟩,hE6⟩:=l;rw[hb4];rw[hb4]at hE6;clear hb4;have⟨ok3,hy⟩:=aL9 r.out;simp at hy;obtain⟨rfl,rfl⟩:=hy;clear r
      go_wp2_with fail
      refine(aGN _ o g i p st2 _ _ c ok3).mono ?_;rintro e U⟨rfl,C,u,h⟩
      go_wp2_with fail
      go_ret
      exact⟨_,rfl,Km O h (Or.inl ⟨rfl,rfl⟩) (jE.keep u hE6) rfl,C,(n.trans a).trans u⟩
    .rw[y,z,D,M]at d;simp at d;have N:=cA d;clear d
     go_in
     go_wp2_with fail
     refine(aG4 _ o g i p st.aJ j B.out res t N.out).mono ?_;rintro e F⟨T,rfl,l,c,a⟩
     go_wp2_with fail
     go_ret
     exact⟨_,rfl,l,c,n.trans a⟩
   .rw[y,z,D]at d;simp at d;have⟨ok,hy⟩:=Ry d;simp at hy;obtain⟨rfl,rfl⟩:=hy;clear d
    go_in
    go_wp2_with fail
    refine(Xg _ o g i p st.aJ _ (j.alloc _) ok).mono ?_;rintro e F⟨rfl,c,a⟩;have h:=Qt a (Ej _ _ _).symm (by have:=q.lt;omega)
    go_wp2_with fail
    go_ret
    exact⟨_,rfl,Km (by have:=q.lt;omega) h (Or.inl ⟨rfl,rfl⟩) rfl rfl,c,(n.alloc _).trans a⟩
  .rw[y,z]at d;simp at d;have⟨ok,hy⟩:=Ry d;simp at hy;obtain⟨rfl,rfl⟩:=hy;clear d
   go_in
   go_wp2_with fail
   refine(Xg _ o g i p st.aJ _ (j.alloc _) ok).mono ?_;rintro e F⟨rfl,c,a⟩;have h:=Qt (b:=w.heap.size) a (Ej _ _ _).symm (by have:=q.lt;omega)
   go_wp2_with fail
   go_ret
   exact⟨_,rfl,Km (by have:=q.lt;omega) h (Or.inl ⟨rfl,rfl⟩) rfl rfl,c,(n.alloc _).trans a⟩
 .rw[y]at d;obtain⟨rfl,rfl⟩:=d
  go_in
  go_wp2_with fail
  go_ret
  exact eW.nil q (Keep.refl _ _)
theorem aNV (o g h:Nat)(l:List Rd.Wd)(f:Nat)(n:lD l)(D:Hid (∀k,k<f->kK o g h l 231 6 k)):kK o g h l 205 5 f:=by
 intro w st res s p a
 obtain⟨f0,rfl⟩:∃f0,f=f0+1:=by
  cases f with
  |zero=>cases a
  |succ f0=>exact⟨f0,rfl⟩
 rw[Rd.parse]at a
 cases t:st.okB with
 |false=>rw[t]at a;cases a
 |true=>
  rw[t]at a;simp at a;have ok:=Rd.St.Bi t;have b1:=ok.1;clear t ok;have r:=n st.next;have z:=cA n;clear n
  have A:Hid (∀W,Rdr W o g h l st->Calls prog 90 #[.pointer (Y ⟨o,0,X⟩)] W λe B=>e=.returned (.agg #[.int .i64 (Rd.aA l st.next).kind,.string (Rd.aA l st.next).text,.int .i64 (Rd.aA l st.next).pos])/\Below W.heap.size W B):=λW M=>Kj W o g h l st M
  generalize Rd.aA l st.next=x at*;have y:=cA r;clear r;cases u:(x.kind==1)
  .cases F:(x.kind==2)
   .rw[u,F]at a;simp at a;have v:=cA a;clear a
    go_in
    go_wp2_with fail
    refine(A.out _ p).mono ?_;rintro e C⟨rfl,d⟩;have c:=p.below d
    go_wp2_with fail
    refine(D.out f0 O _ st res s (c.alloc _) v.out).mono ?_;rintro e L⟨P,rfl,m,j,i⟩
    go_wp2_with fail
    go_ret
    exact⟨_,rfl,m,j,((Keep.cQ d).alloc _).trans i⟩
   .rw[u,F]at a;simp at a;have v:=cA a;clear a
    go_in
    go_wp2_with fail
    refine(A.out _ p).mono ?_;rintro e C⟨rfl,d⟩;have c:=p.below d
    go_wp2_with (go_at_call 229;refine(aPe _ _).mono ?_;rintro e B⟨rfl,rfl⟩)
    refine(aPd o g h l f0 z.out (cA (D.out f0 O)) _ _ st res s (c.alloc _) b1 v.out).mono ?_;rintro e L⟨P,rfl,m,j,i⟩
    go_wp2_with fail
    go_ret
    exact⟨_,rfl,m,j,((Keep.cQ d).alloc _).trans i⟩
  .have N:=y.out (by simpa using u);rw[u]at a;simp at a;have⟨ok,hy⟩:=Ry a;simp at hy;obtain⟨rfl,rfl⟩:=hy;clear a
   go_in
   go_wp2_with fail
   refine(A.out _ p).mono ?_;rintro e C⟨rfl,d⟩;have c:=p.below d;have R:=c.c1;have f1:=c.fz 1;have S:=c.lt
   go_wp2_with (go_at_call 227;refine(aGj _ _ _ _ N).mono ?_;rintro e B⟨rfl,rfl⟩)
   refine(Xg _ o g h l st.aJ _ ((((c.gK (st.next+1) E4).alloc _).alloc _).alloc _) ok).mono ?_;rintro e L⟨rfl,j,i⟩;have q:=Qt (b:=C.heap.size+1+1) i (by simp[Ej]) O
   go_wp2_with fail
   go_ret
   exact⟨_,rfl,Km O q (Or.inl ⟨rfl,rfl⟩) rfl rfl,j,(((((Keep.cQ d).setCell 1 _).alloc _).alloc _).alloc _).trans i⟩
theorem aKH (d g a:Nat)(c:List Rd.Wd)(h:lD c):∀n f,f<=n->
  kK d g a c 89 0 f/\kK d g a c 128 2 f/\kK d g a c 170 4 f/\kK d g a c 205 5 f/\kK d g a c 231 6 f:=by
 intro n
 induction n with
 |zero=>
  intro f i
  obtain rfl:f=0:=O
  refine⟨?_,?_,?_,?_,?_⟩<;>(intro w st res l _ j;cases j)
 |succ n e=>
  intro f i
  have lt:∀k,k<f->k<=n:=λk b=>by omega
  exact ⟨aQa d g a c f (Or.inl ⟨rfl,rfl,rfl,rfl,rfl⟩) (λk b=>(e k (lt k b)).2.1),aQa d g a c f (Or.inr ⟨rfl,rfl,rfl,rfl,rfl⟩) (λk b=>(e k (lt k b)).2.2.1),
   aKj d g a c f (λk b=>(e k (lt k b)).2.2.1) (λk b=>(e k (lt k b)).2.2.2.1),
   aNV d g a c f h (λk b=>(e k (lt k b)).2.2.2.2),aGZ d g a c f (λk b=>(e k (lt k b)).1)⟩
theorem aJ9 (s:ByteArray)(a:Nat):∀f e,e<=a+9->Rd.bF s a f e<=a+9:=by
 intro f
 induction f with
 |zero=>intro e h;exact h
 |succ f b=>
  intro e h;unfold Rd.bF;grind
theorem aNf (s:ByteArray):∀f a,∀x∈Rd.split s f a,x.kind=1->x.text.size<=9:=by
 intro f
 induction f with
 |zero=>intro a x hx;simp[Rd.split]at hx
 |succ f e=>
  intro a x hx;rw[Rd.split]at hx
  cases b:decide (a<s.size)with
  |false=>
   grind
  |true=>
   rw[b]at hx
   cases c:(Rd.aQ s a != 32)with
   |false=>
    grind
   |true=>
    rw[c]at hx;simp at hx
    rcases hx with rfl|hx
    .intro d
     have hd:Rd.aY (Rd.aQ s a)=I:=by
      cases hd:Rd.aY (Rd.aQ s a)with
      |true=>rfl
      |false=>
       rw[Rd.kindOf,hd]at d;grind
     have g:Rd.aF s a<=a+9:=by
      rw[Rd.aF,hd];exact aJ9 s a 9 (a+1) O
     rw[ByteArray.size_extract];omega
    .exact e _ x hx
theorem aHT (s:ByteArray)(f a:Nat):lD (Rd.split s f a):=by
 intro n b;unfold Rd.aA at*
 rcases Nat.lt_or_ge n (Rd.split s f a).length with h|h
 .rw[show(Rd.split s f a).getD n ⟨0,⟨#[]⟩,0⟩=(Rd.split s f a)[n] by simp[h]]at*;exact aNf s f a _ (List.getElem_mem h) b
 .grind
theorem aQe (s:ByteArray):∀f a,s.size<f+a->a<=s.size->0<(Rd.split s f a).length:=by
 intro f
 induction f with
 |zero=>intro a h c;omega
 |succ f e=>
  intro a h c;rw[Rd.split]
  cases b:decide (a<s.size)with
  |false=>simp
  |true=>
   simp at b
   cases d:(Rd.aQ s a != 32)with
   |true=>simp
   |false=>
    have e1:=Rd.Ep s a;have e2:=Rd.Eo s a b;grind
theorem aHq (s:ByteArray)(w:World)(r:s.size<=120):
  Calls prog 88 #[.string s] w λe o=>∃j g a,e=.returned (.pointer (Y ⟨j,0,X⟩))/\w.heap.size<=j/\Rdr o j g a (Rd.split s (s.size+1) 0) ⟨0,0,0,0⟩/\Below w.heap.size w o:=by
 have n:=aQe s (s.size+1) 0 O O;have q:=cA (aQc s w r);generalize Rd.split s (s.size+1) 0=k at*
 go_in
 go_wp2_with fail
 refine(q.out).mono ?_;rintro e p⟨v,rfl,d,l⟩
 obtain⟨g,a,b,hv,z,m,f⟩:∃g a b,v=.slice (Y ⟨g,0,X⟩) k.length a/\w.heap.size<=g/\p.heap[g]?=Y (.cells b 169 (0,0))/\b.toList.take (k.length*3)=Rd.dS k:=by
  rcases d.2 with⟨_,h⟩|⟨g,a,b,t,u,x,_,_,_,y⟩
  .omega
  .grind
 have i:=l.size;have c:=cZ m
 go_wp2_with fail
 go_ret
 refine⟨p.heap.size,g,a,rfl,i,⟨lE _ _,⟨b,?_,(cA f).out⟩,O⟩,l.alloc i _⟩;rw[Below.heap_alloc _ _ _ c];exact(cA m).out
theorem Qf (h:Below w v s)(a:Keep b s L)(d:w<=b)(e:w<=s.heap.size):Below w v L:=
 h.trans ⟨a.os,a.tape,a.output,a.size,λk c=>a.block k O O⟩
def Az (w:World)(x:Option Rd.Tr×Int×Int)(e:Ending)(b:World):Prop:=
 ∃a v,e=.returned (.tuple #[v,.int .i64 x.2.1,.int .i64 x.2.2])/\w.heap.size<=a/\Ap a b x.1 v/\Below w.heap.size w b
theorem aJi (f:Nat)(s:ByteArray)(w:World)(x:Option Rd.Tr×Int×Int)(hm:s.size<=maxLen)(a:Rd.read f s=Y x):Calls prog 43 #[.string s] w (Az w x):=by
 unfold maxLen at hm;unfold Rd.read at a
 by_cases S:120<s.size
 .rw[decide_eq_true S]at a;simp at a;subst a
  go_in
  go_wp2_with fail
  go_ret3
  exact⟨_,_,rfl,o9 _,rfl,Below.refl _ _⟩
 .rw[decide_eq_false S]at a;simp at a;have C:=aHT s (s.size+1) 0;generalize P:Rd.parse (Rd.split s (s.size+1) 0) f 0 X ⟨0,0,0,0⟩=R at a;have M:=cA (aHq s w O);generalize Rd.split s (s.size+1) 0=p at*;have z:=cA C;have v:=cA P;clear C P
  cases R with
  |none=>cases a
  |some y=>
   obtain⟨t,st⟩:=y
   have N:Hid (∀W j g c,Rdr W j g c p st->Calls prog 90 #[.pointer (Y ⟨j,0,X⟩)] W λe w'=>e=.returned (.agg #[.int .i64 (Rd.aA p st.next).kind,.string (Rd.aA p st.next).text,.int .i64 (Rd.aA p st.next).pos])/\Below W.heap.size W w'):=λW j g c hW=>Kj W j g c p st hW
   cases t with
   |none=>
    simp only[j8]at a;generalize Rd.aA p st.next=x at*;subst a
    go_in
    go_wp2_with fail
    refine(M.out).mono ?_;rintro e w1⟨j,g,c,rfl,b,m,h⟩
    go_wp2_with fail
    refine((aKH j g c p z.out f f (o9 _)).1 _ _ _ st m v.out).mono ?_;rintro e w2⟨T,rfl,q,n,l⟩;have i:=Qf h l b h.size;have k:=i.size;rw[show T=r7 X from q]
    go_wp2_with fail
    refine(N.out _ _ _ _ n).mono ?_;rintro e U⟨rfl,d⟩;have B:=d.size
    go_wp2_with fail
    go_quiet (fail)
    go_wp2_with fail
    go_ret3
    exact⟨j,_,rfl,b,rfl,below_drewN ((i.trans (d.mono k)).alloc O _) _⟩
   |some t=>
    simp only at a;generalize Rd.aA p st.next=x at*;have L:=cA a;clear a
    go_in
    go_wp2_with fail
    refine(M.out).mono ?_;rintro e w1⟨j,g,c,rfl,b,m,h⟩
    go_wp2_with fail
    refine((aKH j g c p z.out f f (o9 _)).1 _ _ _ st m v.out).mono ?_;rintro e w2⟨T,rfl,q,n,l⟩;have i:=Qf h l b h.size;have k:=i.size;obtain⟨⟨b5,u⟩,A⟩:=q;rw[u];rw[u]at A;clear u
    go_wp2_with fail
    refine(N.out _ _ _ _ n).mono ?_;rintro e U⟨rfl,d⟩;have B:=d.size;have o:Below w.heap.size w U:=i.trans (d.mono k);have r:=n.below d;have d3:=r.c3;have d4:=r.c4;have l3:=r.lt;clear h m l i;have a:=L.out;clear L;cases D:(x.kind==0)
    .have F:(x.kind != 0)=I:=by simp[bne,D]
     rw[D]at a;simp only[cond_false,j8]at a;subst a
     go_wp2_with fail
     go_quiet (fail)
     go_wp2_with fail
     go_ret3
     exact⟨j,_,rfl,b,rfl,below_drewN (o.alloc O _) _⟩
    .have F:(x.kind != 0)=J:=by simp[bne,D]
     rw[D]at a;simp only[cond_true]at a
     by_cases u2:(12:Int)<st.deepest
     .rw[decide_eq_true (show 12<st.deepest by omega)]at a;simp only[Bool.true_or,cond_true,j8]at a;subst a
      go_wp2_with fail
      go_ret3
      exact⟨j,_,rfl,b,rfl,o.alloc O _⟩
     .rw[decide_eq_false (show¬12<st.deepest by omega)]at a
      by_cases u3:(40:Int)<st.nodes
      .rw[decide_eq_true (show 40<st.nodes by omega)]at a;simp only[Bool.or_true,cond_true,j8]at a;subst a
       go_wp2_with fail
       go_ret3
       exact⟨j,_,rfl,b,rfl,o.alloc O _⟩
      .rw[decide_eq_false (show¬40<st.nodes by omega)]at a;simp only[Bool.or_false,cond_false,j8]at a;subst a
       go_wp2_with fail
       go_ret3
       exact⟨j,_,rfl,b,⟨⟨b5,rfl⟩,jE.keep ((Keep.cQ d).alloc _) A⟩,o.alloc O _⟩
def iC (B:Nat)(w:World)(x:Option Rd.Tr)(v:Value):Prop:=
 match x with
 |none=>v=.pointer X
 |some t=>∃b a c,v=.pointer (Y ⟨a,0,X⟩)/\B<=b/\B<=a/\w.heap[a]?=Y (.cells #[c] 76 (0,0))/\Ap b w (Y t) c
def Aq (w:World)(x:Option Rd.Tr×Int×Int)(e:Ending)(a:World):Prop:=
 ∃v,e=.returned (.tuple #[v,.int .i64 x.2.1,.int .i64 x.2.2])/\iC w.heap.size a x.1 v/\Below w.heap.size w a
theorem aKg {s:ByteArray}{x:Option Rd.Tr×Int×Int}(h:Rd.read w s=Y x):(x.1=X/\(x.2.1 != 0)=I)\/(∃t,x=(Y t,0,0)):=by
 unfold Rd.read at h;grind
theorem aEY (f:Nat)(s:ByteArray)(w:World)(x:Option Rd.Tr×Int×Int)(i:s.size<=maxLen)(h:Rd.read f s=Y x):Calls prog 28 #[.string s] w (Aq w x):=by
 have j:=cA (aJi f s w x i h)
 rcases aKg h with⟨k,o⟩|⟨t,rfl⟩
 .obtain⟨t,p,pl⟩:=x;simp only at k o;subst k;clear h i
  go_in
  go_wp2_with fail
  refine(j.out).mono ?_;rintro e n⟨m,v,rfl,c,l,g⟩
  go_wp2_with fail
  go_ret3
  exact⟨_,rfl,rfl,g⟩
 .clear h i
  go_in
  go_wp2_with fail
  refine(j.out).mono ?_;rintro e n⟨m,v,rfl,c,l,g⟩;obtain⟨⟨b,hv⟩,a⟩:=l;rw[hv]at a;have d:=g.size
  go_wp2_with fail
  go_ret3
  exact⟨_,rfl,⟨m,n.heap.size,_,rfl,c,d,lE _ _,⟨b,rfl⟩,jE.keep ((Keep.refl _ _).alloc _) a⟩,g.alloc d _⟩
abbrev Step:=Int×Int×Int×ByteArray
structure iV (x:Step):Prop where
 k0:-9223372036854775808<=x.1
 k1:x.1<=9223372036854775807
 a0:-9223372036854775808<=x.2.1
 a1:x.2.1<=9223372036854775807
 b0:-9223372036854775808<=x.2.2.1
 b1:x.2.2.1<=9223372036854775807
 s:x.2.2.2.size<=maxLen
structure ScrAt (w:World) (v:Value) (l:List Step):Prop where
 sl:∃ ao cap,v=.slice ao l.length cap/\l.length<=cap/\cap<=maxLen/\(l=[]\/∃ b off,ao=Y ⟨b,off,X⟩/\∀ (i:Nat) (h:i<l.length),
  w.cell? ⟨b,off+i*4,X⟩=Y (.int .i64 l[i].1)/\w.cell? ⟨b,off+i*4+1,X⟩=Y (.int .i64 l[i].2.1)/\w.cell? ⟨b,off+i*4+2,X⟩=Y (.int .i64 l[i].2.2.1)/\w.cell? ⟨b,off+i*4+3,X⟩=Y (.string l[i].2.2.2))
 ok:∀x∈l,iV x
def yK (l:List Step)(w:World)(e:Ending)(a:World):Prop:=∃b:Bool,e=.returned (.bool b)/\(b=I->l.length<=1048576)/\w=a
theorem aI5 (w:World)(v:Value)(l:List Step)(h:ScrAt w v l):
  Calls prog 4 #[v] w (yK l w):=by
 obtain⟨j,d,rfl,o,p,c⟩:=h.sl
 go_in
 by_cases f:(l.length:Int)>1048576
 .have q:=eq_true f
  go_wp2_with fail
  go_ret
  exact⟨_,rfl,(λh=>by cases h),rfl⟩
 .have e:l.length<=1048576:=O
  go_wp2_with fail
  go_loop [3,12] (λn i=>∃(k:Nat) (m:Int),k<=l.length/\i=.int .i64 k/\n=.int .i64 m) (λ_ i=>l.length-(intOf i).toNat)
  case atStart=>exact⟨0,l.length,p5 _,rfl,rfl⟩
  case round=>
   obtain⟨k,m,r,rfl,rfl⟩:=hrel
   by_cases a:k<l.length
   .rcases c with c|⟨b,g,rfl,c⟩
    .rw[c]at a;simp at a
    go_wp2_with fail
    .go_ret
     exact⟨_,rfl,(λh=>by cases h),rfl⟩
    .exact⟨⟨k+1,_,O,E4,rfl⟩,by simp[intOf];omega⟩
   .obtain rfl:k=l.length:=O
    go_wp2_with fail
    go_ret
    exact⟨_,rfl,λ_=>e,rfl⟩
end Go.Proofs.YtnlddnbfoehboaaGreatDoor
