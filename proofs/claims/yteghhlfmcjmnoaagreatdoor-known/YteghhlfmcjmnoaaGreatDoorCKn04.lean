import Derived.Test.YteghhlfmcjmnoaaGreatDoorRows
import Derived.Test.YteghhlfmcjmnoaaGreatDoorProg
import Derived.Test.YteghhlfmcjmnoaaGreatDoorCKn03
import Derived.WalkKit
import Derived.WalkSpells
import Derived.WalkLawsBesides
import Derived.WalkSmall
import Derived.BigQuiet
import Derived.Lib.OthersKept
import Derived.Deep.LoopGhost
import Derived.Deep.OwnRows
import Derived.Deep.RegionWith
import Derived.Deep.RegionHeld3
set_option linter.unusedSimpArgs false
set_option linter.unusedVariables false
set_option maxRecDepth 100000
set_option maxHeartbeats 2000000
namespace Go.Proofs.YteghhlfmcjmnoaaGreatDoor
namespace Rd
def isDig (n:Int):Bool:=decide (48<=n/\n<=57)
def isLet (n:Int):Bool:=decide (97<=n/\n<=122)
def kindOf (n:Int):Int:=bif isDig n then 1 else bif isLet n then 2 else 3
def byteAt (s:ByteArray)(k:Nat):Int:=((s.data.toList.getD k 0).toNat:Int)
theorem aCf (s:ByteArray)(k:Nat)(h:k<s.size):byteAt s k=(s[k].toNat:Int):=by
 unfold byteAt;have a:k<s.data.size:=h
 have e:s.data[k]?=some (s[k]):=by rw [Array.getElem?_eq_getElem a];rfl
 simp [List.getD,e]
def numEnd (s:ByteArray)(a:Nat):Nat->Nat->Nat
 | 0,e=>e
 | f+1,e=>bif decide (e<s.size/\e-a<9)&&isDig (byteAt s e) then numEnd s a f (e+1) else e
def nameEnd (s:ByteArray):Nat->Nat->Nat
 | 0,e=>e
 | f+1,e=>bif decide (e<s.size)&&(isLet (byteAt s e)||isDig (byteAt s e)) then nameEnd s f (e+1) else e
theorem aMC (s:ByteArray)(a:Nat):∀ f e,e<=numEnd s a f e:=by
 intro f
 induction f with
 | zero=>intro e;exact Nat.le_refl _
 | succ f ih=>
  intro e;unfold numEnd
  cases decide (e<s.size/\e-a<9)&&isDig (byteAt s e) with
  | false=>exact Nat.le_refl _
  | true=>exact Nat.le_trans (by omega) (ih (e+1))
theorem aMB (s:ByteArray)(a:Nat):∀ f e,e<=s.size->numEnd s a f e<=s.size:=by
 intro f
 induction f with
 | zero=>intro e h;exact h
 | succ f ih=>
  intro e h;unfold numEnd
  cases b:decide (e<s.size/\e-a<9)&&isDig (byteAt s e) with
  | false=>exact h
  | true=>
   simp only [Bool.and_eq_true,decide_eq_true_eq] at b;exact ih (e+1) (by omega)
theorem aKE (s:ByteArray):∀ f e,e<=nameEnd s f e:=by
 intro f
 induction f with
 | zero=>intro e;exact Nat.le_refl _
 | succ f ih=>
  intro e;unfold nameEnd
  cases decide (e<s.size)&&(isLet (byteAt s e)||isDig (byteAt s e)) with
  | false=>exact Nat.le_refl _
  | true=>exact Nat.le_trans (by omega) (ih (e+1))
theorem aKD (s:ByteArray):∀ f e,e<=s.size->nameEnd s f e<=s.size:=by
 intro f
 induction f with
 | zero=>intro e h;exact h
 | succ f ih=>
  intro e h;unfold nameEnd
  cases a:decide (e<s.size)&&(isLet (byteAt s e)||isDig (byteAt s e)) with
  | false=>exact h
  | true=>
   simp only [Bool.and_eq_true,decide_eq_true_eq] at a;exact ih (e+1) (by omega)
structure Wd where
 kind:Int
 text:ByteArray
 pos:Nat
def wordEnd (s:ByteArray)(a:Nat):Nat:=
 bif Rd.isDig (byteAt s a) then numEnd s a 9 (a+1) else bif Rd.isLet (byteAt s a) then nameEnd s s.size (a+1) else a+1
def split (s:ByteArray):Nat->Nat->List Wd
 | 0,_=>[]
 | f+1,a=>
  bif decide (a<s.size) then
   bif byteAt s a != 32 then ⟨kindOf (byteAt s a),s.extract a (wordEnd s a),a⟩::split s f (wordEnd s a)
   else split s f (wordEnd s a)
  else [⟨0,⟨#[]⟩,s.size⟩]
theorem aCc (s:ByteArray)(a:Nat):a+1<=wordEnd s a:=by
 unfold wordEnd
 cases isDig (byteAt s a) with
 | true=>exact aMC s a 9 (a+1)
 | false=>
  cases isLet (byteAt s a) with
  | true=>exact aKE s s.size (a+1)
  | false=>exact Nat.le_refl _
theorem aCb (s:ByteArray)(a:Nat)(h:a<s.size):wordEnd s a<=s.size:=by
 unfold wordEnd
 cases isDig (byteAt s a) with
 | true=>exact aMB s a 9 (a+1) (by omega)
 | false=>
  cases isLet (byteAt s a) with
  | true=>exact aKD s s.size (a+1) (by omega)
  | false=>exact h
def wcells:List Wd->List Value
 | []=>[]
 | w::r=>.int .i64 w.kind::.string w.text::.int .i64 w.pos::wcells r
theorem aDX (a b:List Wd):wcells (a++b)=wcells a++wcells b:=by
 induction a with
 | nil=>rfl
 | cons x r ih=>simp [wcells,ih]
def valTo (t:ByteArray):Nat->Int
 | 0=>0
 | k+1=>bif isDig (byteAt t k) then valTo t k*10+(byteAt t k-48) else valTo t k
theorem aGS (t:ByteArray):∀ k,0<=valTo t k:=by
 intro k
 induction k with
 | zero=>exact Int.le_refl _
 | succ k ih=>
  unfold valTo
  cases h:isDig (byteAt t k) with
  | false=>exact ih
  | true=>
   simp [isDig] at h;simp;omega
theorem aO6 (t:ByteArray):∀ k,valTo t k<(10:Int)^k:=by
 intro k
 induction k with
 | zero=>simp [valTo]
 | succ k ih=>
  unfold valTo;rw [Int.pow_succ];have a:=aGS t k
  cases h:isDig (byteAt t k) with
  | false=>simp;omega
  | true=>
   simp [isDig] at h;simp;omega
theorem aJ5 (t:ByteArray)(k:Nat)(h:k<=9):valTo t k<1000000000:=by
 have a:=aO6 t k
 have b:(10:Int)^k<=10^9:=by
  have:=Nat.pow_le_pow_right (n:=10) (by omega) h;exact_mod_cast this
 omega
def isT (t:ByteArray)(c:List UInt8):Bool:=t.data.toList==c
theorem aPu (t:ByteArray)(c:List UInt8):(t.toList==c)=isT t c:=by unfold isT;rw [ByteArray.toList_eq]
def named (t:ByteArray):Int:=
 bif isT t [112,105] then 2 else bif isT t [101] then 3 else bif isT t [99,102] then 4 else bif isT t [115,113,114,116] then 10
 else bif isT t [101,120,112] then 11 else bif isT t [108,110,49,112] then 12 else bif isT t [97,116,97,110] then 13 else 0
structure St where
 next:Nat
 around:Nat
 deepest:Nat
 nodes:Nat
def wordAt (ws:List Wd)(n:Nat):Wd:=ws.getD n ⟨0,⟨#[]⟩,0⟩
theorem aNF:∀ (ws:List Wd) (n:Nat),n<ws.length->(wcells ws)[n*3]?=some (.int .i64 (wordAt ws n).kind)/\(wcells ws)[n*3+1]?=some (.string (wordAt ws n).text)/\(wcells ws)[n*3+2]?=some (.int .i64 (wordAt ws n).pos):=by
 intro ws
 induction ws with
 | nil=>intro n h;simp at h
 | cons x r ih=>
  intro n h
  cases n with
  | zero=>simp [wcells,wordAt]
  | succ n=>
   have:=ih n (by simpa using h)
   simpa [wcells,wordAt,Nat.add_mul] using this
end Rd
open Go.RowKit
theorem aCt {k:IntKind}{a b:Int}(h:a=b):Ending.returned (.int k a)=.returned (.int k b):=by rw [h]
theorem aBf (n:Int)(w:World):
  Calls Tryz.prog 168 #[.int .u8 n] w fun e w'=>e=.returned (.bool (Rd.isDig n))/\w=w':=by
 by_cases a:48<=n
 all_goals by_cases b:n<=57
 all_goals
  go_enter Tryz.func168,Tryz.ntmps168
  go_wp2
  go_ret
  exact ⟨by simp [Rd.isDig];omega,rfl⟩
theorem aCp (n:Int)(w:World):
  Calls Tryz.prog 169 #[.int .u8 n] w fun e w'=>e=.returned (.bool (Rd.isLet n))/\w=w':=by
 by_cases a:97<=n
 all_goals by_cases b:n<=122
 all_goals
  go_enter Tryz.func169,Tryz.ntmps169
  go_wp2
  go_ret
  exact ⟨by simp [Rd.isLet];omega,rfl⟩
theorem aDi (n:Int)(w:World):
  Calls Tryz.prog 139 #[.int .u8 n] w fun e w'=>e=.returned (.int .i64 (Rd.kindOf n))/\w=w':=by
 cases a:Rd.isDig n
 all_goals cases b:Rd.isLet n
 all_goals
  go_enter Tryz.func139,Tryz.ntmps139
  go_wp2_with (first | (go_at_call 168;refine (aBf _ _).mono ?_;rintro e w' ⟨rfl,rfl⟩) | (go_at_call 169;refine (aCp _ _).mono ?_;rintro e w' ⟨rfl,rfl⟩))
  go_ret
  exact ⟨by simp [Rd.kindOf,a,b],rfl⟩
theorem aGw (s:ByteArray)(a:Nat)(w:World)(hs:s.size<=120)(o:a<s.size):
  Calls Tryz.prog 140 #[.string s,.int .i64 a] w fun e w'=>e=.returned (.int .i64 (Rd.numEnd s a 9 (a+1)))/\w=w':=by
 go_enter Tryz.func140,Tryz.ntmps140
 go_wp2_with fail
 go_loop [5] (fun e=>∃ k:Nat,a+1<=k/\k<=a+9/\k<=s.size/\e=.int .i64 k/\Hid (Rd.numEnd s a (a+10-k) k=Rd.numEnd s a 9 (a+1))) (fun e=>s.size-(intOf e).toNat)
 case atStart=>exact ⟨a+1,by omega,by omega,by omega,by go_num,by rw [show a+10-(a+1)=9 by omega];rfl⟩
 case round=>
  obtain ⟨k,j,l,m,rfl,c⟩:=hrel
  obtain ⟨f,g⟩:∃ f,a+10-k=f+1:=⟨a+9-k,by omega⟩
  have b:Hid (a+10-k=f+1):=g;clear g
  by_cases d:k<s.size
  ·by_cases n:(k:Int)-a<9
   ·cases h:Rd.isDig (s[k].toNat:Int)
    ·go_wp2_with (go_at_call 168;refine (aBf _ _).mono ?_;rintro e w' ⟨rfl,rfl⟩)
     go_ret
     refine ⟨aCt ?_,rfl⟩;rw [<-c.out,b.out,Rd.numEnd,Rd.aCf s k d,h];simp
    ·go_wp2_with (go_at_call 168;refine (aBf _ _).mono ?_;rintro e w' ⟨rfl,rfl⟩)
     go_round
     case rel=>
      refine ⟨k+1,by omega,by omega,by omega,by go_num,?_⟩;show Rd.numEnd s a (a+10-(k+1)) (k+1)=_
      have i:a+10-(k+1)=f:=by have:=b.out;omega
      rw [i,<-c.out,b.out]
      conv=>rhs;rw [Rd.numEnd,Rd.aCf s k d,h]
      simp [d,show k-a<9 by omega]
     case measure=>simp [intOf];omega
   ·go_wp2_with fail
    go_ret
    refine ⟨aCt ?_,rfl⟩;rw [<-c.out,b.out,Rd.numEnd,decide_eq_false (by omega)];simp
  ·go_wp2_with fail
   go_ret
   refine ⟨aCt ?_,rfl⟩;rw [<-c.out,b.out,Rd.numEnd,decide_eq_false (by omega)];simp
theorem aIt (s:ByteArray)(a:Nat)(w:World)(hs:s.size<=120)(n:a<s.size):
  Calls Tryz.prog 141 #[.string s,.int .i64 a] w fun e w'=>e=.returned (.int .i64 (Rd.nameEnd s s.size (a+1)))/\w=w':=by
 go_enter Tryz.func141,Tryz.ntmps141
 go_wp2_with fail
 go_loop [5] (fun e=>∃ k:Nat,a+1<=k/\k<=s.size/\e=.int .i64 k/\Hid (Rd.nameEnd s (s.size+a+1-k) k=Rd.nameEnd s s.size (a+1))) (fun e=>s.size-(intOf e).toNat)
 case atStart=>exact ⟨a+1,by omega,by omega,by go_num,by rw [show s.size+a+1-(a+1)=s.size by omega];rfl⟩
 case round=>
  obtain ⟨k,l,m,rfl,d⟩:=hrel
  obtain ⟨f,i⟩:∃ f,s.size+a+1-k=f+1:=⟨s.size+a-k,by omega⟩
  have b:Hid (s.size+a+1-k=f+1):=i;clear i
  by_cases c:k<s.size
  ·cases h:Rd.isLet (s[k].toNat:Int)
   ·cases j:Rd.isDig (s[k].toNat:Int)
    ·go_wp2_with (first | (go_at_call 168;refine (aBf _ _).mono ?_;rintro e w' ⟨rfl,rfl⟩) | (go_at_call 169;refine (aCp _ _).mono ?_;rintro e w' ⟨rfl,rfl⟩))
     go_ret
     refine ⟨aCt ?_,rfl⟩;rw [<-d.out,b.out,Rd.nameEnd,Rd.aCf s k c,h,j];simp
    ·go_wp2_with (first | (go_at_call 168;refine (aBf _ _).mono ?_;rintro e w' ⟨rfl,rfl⟩) | (go_at_call 169;refine (aCp _ _).mono ?_;rintro e w' ⟨rfl,rfl⟩))
     go_round
     case rel=>
      refine ⟨k+1,by omega,by omega,by go_num,?_⟩;show Rd.nameEnd s (s.size+a+1-(k+1)) (k+1)=_
      have g:s.size+a+1-(k+1)=f:=by have:=b.out;omega
      rw [g,<-d.out,b.out]
      conv=>rhs;rw [Rd.nameEnd,Rd.aCf s k c,h,j]
      simp [c]
     case measure=>simp [intOf];omega
   ·go_wp2_with (first | (go_at_call 168;refine (aBf _ _).mono ?_;rintro e w' ⟨rfl,rfl⟩) | (go_at_call 169;refine (aCp _ _).mono ?_;rintro e w' ⟨rfl,rfl⟩))
    go_round
    case rel=>
     refine ⟨k+1,by omega,by omega,by go_num,?_⟩;show Rd.nameEnd s (s.size+a+1-(k+1)) (k+1)=_
     have g:s.size+a+1-(k+1)=f:=by have:=b.out;omega
     rw [g,<-d.out,b.out]
     conv=>rhs;rw [Rd.nameEnd,Rd.aCf s k c,h]
     simp [c]
    case measure=>simp [intOf];omega
  ·go_wp2_with fail
   go_ret
   refine ⟨aCt ?_,rfl⟩;rw [<-d.out,b.out,Rd.nameEnd,decide_eq_false (by omega)];simp
open Go.RowKit
theorem infoWord:(Tryz.prog.info? 127).map (fun i=>(i.zero,i.size,i.bytes))=some (some (.agg #[.int .i64 0,.string ⟨#[]⟩,.int .i64 0]),3,32):=by kernel_rfl
theorem aBP (w:World)(x y z:Value)(t:TypeId):∀ j u,[x,y,z][j]?=some u->(w.alloc (.cells #[x,y,z] t)).cell? ((⟨w.heap.size,0,none⟩:Addr).add j)=some u:=by
 intro j u a
 match j,a with
 | 0,a=>simp at a;subst a;simp [Addr.add]
 | 1,a=>simp at a;subst a;simp [Addr.add]
 | 2,a=>simp at a;subst a;simp [Addr.add]
theorem Below.heap_alloc_at (w:World)(o:Obj):(w.alloc o).heap[w.heap.size]?=some o:=by
 show (w.heap.push o)[w.heap.size]?=some o;simp
def splitRel (s:ByteArray)(w:World)(l i:Value)(wr:World):Prop:=
 ∃ (k f:Nat) (done:List Rd.Wd),k<=s.size/\i=.int .i64 k/\done.length<=k/\s.size<f+k/\wr.ownsRow w.heap.size 127 3 l done.length (Rd.wcells done)/\Below w.heap.size w wr/\done++Rd.split s f k=Rd.split s (s.size+1) 0
theorem aDV {x y z:Value}(b:x.oneCell'=true)(c:y.oneCell'=true)(d:z.oneCell'=true):∀ u∈[x,y,z],u.oneCell'=true:=by
 intro u a;simp at a
 rcases a with rfl | rfl | rfl<;>assumption
theorem aBV {w wr w3:World}{B e size n:Nat}{l:Value}{xs:List Value}(a:wr.ownsRow B e size l n xs)(b:Below B w wr)(j:B<=wr.heap.size)(o:Obj)(m:(wr.alloc o).grownBy w3 l.ownBlock):Below B w w3:=by
 refine Below.grown (b.alloc j o) m (by simp;omega) ?_;intro k c
 rcases a.2 with ⟨h,_⟩ | ⟨g,f,i,h,d,_⟩
 ·rw [h] at c;cases c
 ·rw [h] at c;cases c;exact d
theorem aKX (s:ByteArray)(f k:Nat)(h:k<s.size)(b:(Rd.byteAt s k != 32)=true)(a:List Rd.Wd):
  a++[⟨Rd.kindOf (Rd.byteAt s k),s.extract k (Rd.wordEnd s k),k⟩]++Rd.split s f (Rd.wordEnd s k)=a++Rd.split s (f+1) k:=by
 conv=>rhs;rw [Rd.split,decide_eq_true h,b]
 simp
theorem aIF (s:ByteArray)(f k:Nat)(h:k<s.size)(a:(Rd.byteAt s k != 32)=false):Rd.split s f (Rd.wordEnd s k)=Rd.split s (f+1) k:=by
 conv=>rhs;rw [Rd.split,decide_eq_true h,a]
 simp
theorem aM9 (s:ByteArray)(f k:Nat)(h:¬k<s.size):Rd.split s (f+1) k=[⟨0,⟨#[]⟩,s.size⟩]:=by
 rw [Rd.split,decide_eq_false h];rfl
theorem aGJ (s:ByteArray)(w w1:World)(k f:Nat)(a:List Rd.Wd)(i:Value)(x:Rd.Wd)(e:Nat)(l:x=⟨Rd.kindOf (Rd.byteAt s k),s.extract k (Rd.wordEnd s k),k⟩)(m:e=Rd.wordEnd s k)
  (h:k<s.size) (n:(Rd.byteAt s k != 32)=true) (p:a.length<=k) (q:s.size<f+k) (b:w1.ownsRow w.heap.size 127 3 i (a.length+1) (Rd.wcells a++[.int .i64 x.kind,.string x.text,.int .i64 x.pos]))
  (c:Below w.heap.size w w1) (g:a++Rd.split s f k=Rd.split s (s.size+1) 0):splitRel s w i (.int .i64 e) w1:=by
 obtain ⟨d,rfl⟩:∃ d,f=d+1:=⟨f-1,by omega⟩
 have o:=Rd.aCc s k;have j:=Rd.aCb s k h;subst m;refine ⟨_,d,a++[x],j,rfl,by simp;omega,by omega,?_,c,?_⟩
 ·rw [Rd.aDX]
  simpa [Rd.wcells] using b
 ·rw [<-g,l];exact aKX s d k h n a
theorem aMV (s:ByteArray)(w w1:World)(k f:Nat)(a:List Rd.Wd)(l:Value)(e:Nat)(j:e=Rd.wordEnd s k)
  (h:k<s.size) (m:(Rd.byteAt s k != 32)=false) (o:a.length<=k) (p:s.size<f+k) (b:w1.ownsRow w.heap.size 127 3 l a.length (Rd.wcells a))
  (c:Below w.heap.size w w1) (g:a++Rd.split s f k=Rd.split s (s.size+1) 0):splitRel s w l (.int .i64 e) w1:=by
 obtain ⟨d,rfl⟩:∃ d,f=d+1:=⟨f-1,by omega⟩
 have n:=Rd.aCc s k;have i:=Rd.aCb s k h;subst j;exact ⟨_,d,a,i,rfl,by omega,by omega,b,c,by rw [<-g,aIF s d k h m]⟩
theorem aM8 (s:ByteArray)(w:World)(hs:s.size<=120):
  Calls Tryz.prog 97 #[.string s] w fun e w'=>∃ v,e=.returned v/\w'.ownsRow w.heap.size 127 3 v (Rd.split s (s.size+1) 0).length (Rd.wcells (Rd.split s (s.size+1) 0))/\Below w.heap.size w w':=by
 obtain ⟨i,C,D,h,r⟩:=info_parts infoWord
 go_enter Tryz.func97,Tryz.ntmps97
 go_wp2_with fail
 go_loopw [3,4] (fun l i wr=>splitRel s w l i wr) (fun _ i _=>s.size-(intOf i).toNat)
 case atStart=>
  refine ⟨0,s.size+1,[],Nat.zero_le _,rfl,Nat.le_refl _,by omega,?_,(Below.refl _ _).alloc (Nat.le_refl _) _,rfl⟩;refine ⟨rfl,Or.inr ⟨w.heap.size,0,#[],rfl,Nat.le_refl _,Below.heap_alloc_at _ _,Nat.le_refl _,Nat.zero_le _,rfl,rfl⟩⟩
 case round=>
  obtain ⟨k,f,d,J,rfl,E,F,b,g,A⟩:=hrel;have m:Hid (d++Rd.split s f k=Rd.split s (s.size+1) 0):=A;clear A;have q:=g.size
  by_cases o:k<s.size
  ·have c:=Rd.aCf s k o;cases t:Rd.isDig (s[k].toNat:Int)
   ·cases u:Rd.isLet (s[k].toNat:Int)
    ·cases x:((s[k].toNat:Int) != 32)
     ·have j:Rd.kindOf (s[k].toNat:Int)=3:=by simp [Rd.kindOf,t,u]
      have a:Hid (Rd.wordEnd s k=k+1):=by show Rd.wordEnd s k=k+1;simp [Rd.wordEnd,c,t,u]
      have p:Hid (Rd.byteAt s k=(s[k].toNat:Int)):=c;clear c
      go_wp2_with (go_at_call 139;refine (aDi _ _).mono ?_;rintro e w' ⟨rfl,rfl⟩)
      go_roundw
      case rel=>exact aMV s w _ k f d _ (k+1) a.out.symm o (by rw [p.out];exact x) E F b g m.out
      case measure=>simp [intOf];omega
     ·have j:Rd.kindOf (s[k].toNat:Int)=3:=by simp [Rd.kindOf,t,u]
      have a:Hid (Rd.wordEnd s k=(k+1)):=by show Rd.wordEnd s k=(k+1);simp [Rd.wordEnd,c,t,u]
      have y:k<(k+1):=by have n:=Rd.aCc s k;rw [a.out] at n;omega
      have z:(k+1)<=s.size:=by have n:=Rd.aCb s k o;rw [a.out] at n;omega
      have p:Hid (Rd.byteAt s k=(s[k].toNat:Int)):=c;clear c
      go_wp2_with (first | (go_at_call 139;refine (aDi _ _).mono ?_;rintro e w' ⟨rfl,rfl⟩) | (at_builtin;(refine wpList_append_own _ rfl _ _ 129 rfl w.heap.size 127 i (.agg #[.int .i64 0,.string ⟨#[]⟩,.int .i64 0]) 3 32 Tryz.underlying129 C D h r rfl (by decide) _ _ _ rfl (b.alloc _) ⟨wr.heap.size,0,none⟩ 1 1 [.int .i64 3,.string (s.extract k (k+1)),.int .i64 k] rfl rfl (aBP _ _ _ _ _) (aDV rfl rfl rfl) (by unfold maxLen;omega) (by omega) (by simp;omega) ?_);intro v' w3 hown' hgrow3 hnil3))
      go_roundw
      case rel=>exact aGJ s w _ k f d _ ⟨3,s.extract k (k+1),k⟩ (k+1) (by rw [p.out,j,a.out]) a.out.symm o (by rw [p.out];exact x) E F hown' (aBV b g q _ hgrow3) m.out
      case measure=>simp [intOf];omega
    ·have x:((s[k].toNat:Int) != 32)=true:=by simp [Rd.isLet] at u;rw [bne_iff_ne];omega
     have j:Rd.kindOf (s[k].toNat:Int)=2:=by simp [Rd.kindOf,t,u]
     have a:Hid (Rd.wordEnd s k=(Rd.nameEnd s s.size (k+1))):=by show Rd.wordEnd s k=(Rd.nameEnd s s.size (k+1));simp [Rd.wordEnd,c,t,u]
     have y:k<(Rd.nameEnd s s.size (k+1)):=by have n:=Rd.aCc s k;rw [a.out] at n;omega
     have z:(Rd.nameEnd s s.size (k+1))<=s.size:=by have n:=Rd.aCb s k o;rw [a.out] at n;omega
     have p:Hid (Rd.byteAt s k=(s[k].toNat:Int)):=c;clear c
     go_wp2_with (first | (go_at_call 139;refine (aDi _ _).mono ?_;rintro e w' ⟨rfl,rfl⟩) | (go_at_call 141;refine (aIt _ _ _ hs o).mono ?_;rintro e w' ⟨rfl,rfl⟩) | (at_builtin;(refine wpList_append_own _ rfl _ _ 129 rfl w.heap.size 127 i (.agg #[.int .i64 0,.string ⟨#[]⟩,.int .i64 0]) 3 32 Tryz.underlying129 C D h r rfl (by decide) _ _ _ rfl (b.alloc _) ⟨wr.heap.size,0,none⟩ 1 1 [.int .i64 2,.string (s.extract k (Rd.nameEnd s s.size (k+1))),.int .i64 k] rfl rfl (aBP _ _ _ _ _) (aDV rfl rfl rfl) (by unfold maxLen;omega) (by omega) (by simp;omega) ?_);intro v' w3 hown' hgrow3 hnil3))
     go_roundw
     case rel=>exact aGJ s w _ k f d _ ⟨2,s.extract k (Rd.nameEnd s s.size (k+1)),k⟩ (Rd.nameEnd s s.size (k+1)) (by rw [p.out,j,a.out]) a.out.symm o (by rw [p.out];exact x) E F hown' (aBV b g q _ hgrow3) m.out
     case measure=>simp [intOf];omega
   ·have x:((s[k].toNat:Int) != 32)=true:=by simp [Rd.isDig] at t;rw [bne_iff_ne];omega
    have j:Rd.kindOf (s[k].toNat:Int)=1:=by simp [Rd.kindOf,t]
    have a:Hid (Rd.wordEnd s k=(Rd.numEnd s k 9 (k+1))):=by show Rd.wordEnd s k=(Rd.numEnd s k 9 (k+1));simp [Rd.wordEnd,c,t]
    have y:k<(Rd.numEnd s k 9 (k+1)):=by have n:=Rd.aCc s k;rw [a.out] at n;omega
    have z:(Rd.numEnd s k 9 (k+1))<=s.size:=by have n:=Rd.aCb s k o;rw [a.out] at n;omega
    have p:Hid (Rd.byteAt s k=(s[k].toNat:Int)):=c;clear c
    go_wp2_with (first | (go_at_call 139;refine (aDi _ _).mono ?_;rintro e w' ⟨rfl,rfl⟩) | (go_at_call 140;refine (aGw _ _ _ hs o).mono ?_;rintro e w' ⟨rfl,rfl⟩) | (at_builtin;(refine wpList_append_own _ rfl _ _ 129 rfl w.heap.size 127 i (.agg #[.int .i64 0,.string ⟨#[]⟩,.int .i64 0]) 3 32 Tryz.underlying129 C D h r rfl (by decide) _ _ _ rfl (b.alloc _) ⟨wr.heap.size,0,none⟩ 1 1 [.int .i64 1,.string (s.extract k (Rd.numEnd s k 9 (k+1))),.int .i64 k] rfl rfl (aBP _ _ _ _ _) (aDV rfl rfl rfl) (by unfold maxLen;omega) (by omega) (by simp;omega) ?_);intro v' w3 hown' hgrow3 hnil3))
    go_roundw
    case rel=>exact aGJ s w _ k f d _ ⟨1,s.extract k (Rd.numEnd s k 9 (k+1)),k⟩ (Rd.numEnd s k 9 (k+1)) (by rw [p.out,j,a.out]) a.out.symm o (by rw [p.out];exact x) E F hown' (aBV b g q _ hgrow3) m.out
    case measure=>simp [intOf];omega
  ·obtain ⟨H,B⟩:∃ H,f=H+1:=⟨f-1,by omega⟩
   have I:Hid (Rd.split s (s.size+1) 0=d++[⟨0,⟨#[]⟩,s.size⟩]):=by
    show _=_;rw [<-m.out,B,aM9 s H k o]
   clear B
   go_wp2_with (at_builtin;refine wpList_append_own _ rfl _ _ 129 rfl w.heap.size 127 i (.agg #[.int .i64 0,.string ⟨#[]⟩,.int .i64 0]) 3 32 Tryz.underlying129 C D h r rfl (by decide) _ _ _ rfl (b.alloc _) ⟨wr.heap.size,0,none⟩ 1 1 [.int .i64 0,.string ⟨#[]⟩,.int .i64 s.size] rfl rfl (aBP _ _ _ _ _) (aDV rfl rfl rfl) (by unfold maxLen;omega) (by omega) (by simp;omega) ?_;intro v' w3 hown' hgrow3 hnil3)
   go_ret
   refine ⟨_,rfl,?_,aBV b g q _ hgrow3⟩;rw [I.out,Rd.aDX]
   simpa [Rd.wcells] using hown'
open Go.RowKit
theorem aFw (kd p:Int)(t:ByteArray)(w:World)(l:t.size<=9):
  Calls Tryz.prog 183 #[.agg #[.int .i64 kd,.string t,.int .i64 p]] w fun e w'=>e=.returned (.int .i64 (Rd.valTo t t.size))/\w.alloc (.cells #[.int .i64 kd,.string t,.int .i64 p] 127)=w':=by
 go_enter Tryz.func183,Tryz.ntmps183
 go_wp2_with fail
 go_loop [3,4] (fun v i=>∃ k:Nat,k<=t.size/\i=.int .i64 k/\v=.int .i64 (Rd.valTo t k)) (fun _ i=>t.size-(intOf i).toNat)
 case atStart=>exact ⟨0,Nat.zero_le _,rfl,rfl⟩
 case round=>
  obtain ⟨k,j,rfl,rfl⟩:=hrel;have d:=Rd.aGS t k;have f:=Rd.aJ5 t k (by omega)
  by_cases c:k<t.size
  ·have b:Hid (Rd.byteAt t k=(t[k].toNat:Int)):=Rd.aCf t k c;cases a:Rd.isDig (t[k].toNat:Int)
   ·go_wp2_with (go_at_call 168;refine (aBf _ _).mono ?_;rintro e w' ⟨rfl,rfl⟩)
    go_round
    case rel=>exact ⟨k+1,by omega,by go_num,by rw [Rd.valTo,b.out,a];rfl⟩
    case measure=>simp [intOf];omega
   ·have g:48<=(t[k].toNat:Int):=by simp [Rd.isDig] at a;omega
    have h:(t[k].toNat:Int)<=57:=by simp [Rd.isDig] at a;omega
    go_wp2_with (go_at_call 168;refine (aBf _ _).mono ?_;rintro e w' ⟨rfl,rfl⟩)
    go_round
    case rel=>exact ⟨k+1,by omega,by go_num,by rw [Rd.valTo,b.out,a];simp⟩
    case measure=>simp [intOf];omega
  ·go_wp2_with fail
   go_ret
   exact ⟨aCt (by rw [show k=t.size by omega]),rfl⟩
theorem aMq (t:ByteArray)(w:World):
  Calls Tryz.prog 185 #[.string t] w fun e w'=>e=.returned (.int .i64 (Rd.named t))/\w=w':=by
 go_enter Tryz.func185,Tryz.ntmps185
 go_wp2
 all_goals
  go_ret
  exact ⟨aCt (by simp [Rd.named,<-Rd.aPu, *]),rfl⟩
open Go.RowKit
structure Keep (rb:Nat) (w w':World):Prop where
 os:w'.os=w.os
 tape:w'.tape=w.tape
 output:w'.output=w.output
 size:w.heap.size<=w'.heap.size
 block:∀ k,k<w.heap.size->k≠rb->w'.heap[k]?=w.heap[k]?
theorem Keep.refl (rb:Nat)(w:World):Keep rb w w:=⟨rfl,rfl,rfl,Nat.le_refl _,fun _ _ _=>rfl⟩
theorem Keep.trans {rb:Nat}{a b c:World}(h:Keep rb a b)(k:Keep rb b c):Keep rb a c:=
 ⟨k.os.trans h.os,k.tape.trans h.tape,k.output.trans h.output,Nat.le_trans h.size k.size,fun i hi hn=>(k.block i (Nat.lt_of_lt_of_le hi h.size) hn).trans (h.block i hi hn)⟩
theorem Keep.aAi {rb:Nat}{w w':World}(h:Below w.heap.size w w'):Keep rb w w':=⟨h.os,h.tape,h.output,h.size,fun k hk _=>h.block k hk⟩
theorem Keep.drewN {rb:Nat}{a w:World}(h:Keep rb a w)(n:Nat):Keep rb a (w.drewN n):=⟨h.os,h.tape,h.output,h.size,h.block⟩
theorem Keep.alloc {rb:Nat}{a w:World}(h:Keep rb a w)(o:Obj):Keep rb a (w.alloc o):=
 h.trans (Keep.aAi ((Below.refl _ _).alloc (Nat.le_refl _) o))
theorem Keep.setCell {rb:Nat}{a w:World}(h:Keep rb a w)(o:Nat)(u:Value):Keep rb a (w.setCell ⟨rb,o,none⟩ u):=
 h.trans ⟨rfl,rfl,rfl,by simp [World.setCell],fun k _ hn=>Below.heap_setCell _ _ _ _ hn⟩
structure Rdr (w:World) (rb g cap:Nat) (ws:List Rd.Wd) (st:Rd.St):Prop where
 rd:w.heap[rb]?=some (.cells #[.slice (some ⟨g,0,none⟩) ws.length cap,.int .i64 st.next,.int .i64 st.around,.int .i64 st.deepest,.int .i64 st.nodes] 131 (0,0))
 row:∃ cur,w.heap[g]?=some (.cells cur 127 (0,0))/\cur.toList.take (ws.length*3)=Rd.wcells ws
 ne:g≠rb
theorem aAL {w:World}{k:Nat}{o:Obj}(h:w.heap[k]?=some o):k<w.heap.size:=by
 rcases Nat.lt_or_ge k w.heap.size with h1 | h1
 ·exact h1
 ·rw [Array.getElem?_eq_none h1] at h;cases h
theorem Rdr.lt {w:World}{rb g cap:Nat}{ws:List Rd.Wd}{st:Rd.St}(h:Rdr w rb g cap ws st):rb<w.heap.size:=aAL h.rd
theorem Rdr.keep {w w':World}{rb g cap:Nat}{ws:List Rd.Wd}{st a:Rd.St}(h:Rdr w rb g cap ws st)(e:Keep rb w w')
  (f:w'.heap[rb]?=some (.cells #[.slice (some ⟨g,0,none⟩) ws.length cap,.int .i64 a.next,.int .i64 a.around,.int .i64 a.deepest,.int .i64 a.nodes] 131 (0,0))):Rdr w' rb g cap ws a:=by
 obtain ⟨b,c,d⟩:=h.row;exact ⟨f,⟨b,by rw [e.block g (aAL c) h.ne];exact c,d⟩,h.ne⟩
theorem Rdr.below {w w':World}{rb g cap:Nat}{ws:List Rd.Wd}{st:Rd.St}(h:Rdr w rb g cap ws st)(hb:Below w.heap.size w w'):Rdr w' rb g cap ws st:=
 h.keep (Keep.aAi hb) (by rw [hb.block rb h.lt];exact h.rd)
theorem aAa {w:World}{b o:Nat}{xs:Array Value}{t:TypeId}{v:Value}(h:w.heap[b]?=some (.cells xs t (0,0)))(a:xs[o]?=some v):w.cell? ⟨b,o,none⟩=some v:=by
 simp [World.cell?,h,a]
theorem aAb {w:World}{b o:Nat}{xs:Array Value}{t:TypeId}(h:w.heap[b]?=some (.cells xs t (0,0))):w.frozen? ⟨b,o,none⟩=false:=by
 simp [World.frozen?,h]
theorem aAS {w:World}{b o:Nat}{xs:Array Value}{t:TypeId}{m:Nat×Nat}(h:w.heap[b]?=some (.cells xs t m))(u:Value):(w.setCell ⟨b,o,none⟩ u).heap[b]?=some (.cells (xs.setIfInBounds o u) t m):=by
 simp [World.setCell,Array.getElem?_modify,h]
section
variable {w:World} {rb g cap:Nat} {ws:List Rd.Wd} {st:Rd.St}
theorem Rdr.c0 (h:Rdr w rb g cap ws st):w.cell? ⟨rb,0,none⟩=some (.slice (some ⟨g,0,none⟩) ws.length cap):=aAa h.rd rfl
theorem Rdr.c1 (h:Rdr w rb g cap ws st):w.cell? ⟨rb,1,none⟩=some (.int .i64 st.next):=aAa h.rd rfl
theorem Rdr.c2 (h:Rdr w rb g cap ws st):w.cell? ⟨rb,2,none⟩=some (.int .i64 st.around):=aAa h.rd rfl
theorem Rdr.c3 (h:Rdr w rb g cap ws st):w.cell? ⟨rb,3,none⟩=some (.int .i64 st.deepest):=aAa h.rd rfl
theorem Rdr.c4 (h:Rdr w rb g cap ws st):w.cell? ⟨rb,4,none⟩=some (.int .i64 st.nodes):=aAa h.rd rfl
theorem Rdr.fz (h:Rdr w rb g cap ws st)(o:Nat):w.frozen? ⟨rb,o,none⟩=false:=aAb h.rd
theorem Rdr.alloc (h:Rdr w rb g cap ws st)(o:Obj):Rdr (w.alloc o) rb g cap ws st:=h.below ((Below.refl _ _).alloc (Nat.le_refl _) o)
theorem Rdr.drewN (h:Rdr w rb g cap ws st)(n:Nat):Rdr (w.drewN n) rb g cap ws st:=⟨h.rd,h.row,h.ne⟩
theorem Rdr.set1 (h:Rdr w rb g cap ws st)(n:Nat){m:Int}(hm:m=(n:Int)):Rdr (w.setCell ⟨rb,1,none⟩ (.int .i64 m)) rb g cap ws {st with next:=n}:=
 h.keep ((Keep.refl _ _).setCell 1 _) (by subst hm;rw [aAS h.rd];rfl)
theorem Rdr.set2 (h:Rdr w rb g cap ws st)(n:Nat){m:Int}(hm:m=(n:Int)):Rdr (w.setCell ⟨rb,2,none⟩ (.int .i64 m)) rb g cap ws {st with around:=n}:=
 h.keep ((Keep.refl _ _).setCell 2 _) (by subst hm;rw [aAS h.rd];rfl)
theorem Rdr.set3 (h:Rdr w rb g cap ws st)(n:Nat){m:Int}(hm:m=(n:Int)):Rdr (w.setCell ⟨rb,3,none⟩ (.int .i64 m)) rb g cap ws {st with deepest:=n}:=
 h.keep ((Keep.refl _ _).setCell 3 _) (by subst hm;rw [aAS h.rd];rfl)
theorem Rdr.set4 (h:Rdr w rb g cap ws st)(n:Nat){m:Int}(hm:m=(n:Int)):Rdr (w.setCell ⟨rb,4,none⟩ (.int .i64 m)) rb g cap ws {st with nodes:=n}:=
 h.keep ((Keep.refl _ _).setCell 4 _) (by subst hm;rw [aAS h.rd];rfl)
end
namespace Nm
def val (B:Int):List Int->Int
 | []=>0
 | d::r=>d+B*val B r
def Dig (B:Int)(l:List Int):Prop:=∀ d∈l,0<=d/\d<B
def Top (l:List Int):Prop:=∀ (h:l≠[]),l.getLast h≠0
def at' (l:List Int)(i:Nat):Int:=l.getD i 0
theorem aDl (B:Int):∀ l r,val B (l++r)=val B l+B^l.length*val B r:=by
 intro l r
 induction l with
 | nil=>simp [val]
 | cons d l ih=>simp only [List.cons_append,val,List.length_cons,ih,Int.pow_succ];grind
theorem aB7 (B:Int)(l:List Int)(d:Int):val B (l++[d])=val B l+d*B^l.length:=by
 rw [aDl];simp only [val];grind
theorem aBx (B:Int)(l:List Int)(i:Nat):val B (l.take (i+1))=val B (l.take i)+at' l i*B^i:=by
 rcases Nat.lt_or_ge i l.length with h | h
 ·rw [List.take_succ_eq_append_getElem h,aB7,List.length_take,Nat.min_eq_left (by omega)];unfold at';rw [List.getD_eq_getElem?_getD,List.getElem?_eq_getElem h];rfl
 ·rw [List.take_of_length_le (by omega),List.take_of_length_le h];unfold at';rw [List.getD_eq_getElem?_getD,List.getElem?_eq_none h];simp
theorem aA4 (B:Int)(l:List Int){i:Nat}(h:l.length<=i):val B (l.take i)=val B l:=by
 rw [List.take_of_length_le h]
theorem aNC (B:Int):∀ (l:List Int) (k:Nat) (x:Int),k<l.length->val B (l.set k x)=val B l+(x-at' l k)*B^k:=by
 intro l
 induction l with
 | nil=>intro k x h;simp at h
 | cons d l ih=>
  intro k x h
  cases k with
  | zero=>simp [val,at'];grind
  | succ k=>
   have:=ih k x (by simpa using h);simp only [List.set_cons_succ,val,this,Int.pow_succ,at',List.getD_cons_succ];grind
theorem Dig.nil (B:Int):Dig B []:=fun d h=>by cases h
theorem Dig.cons {B d:Int}{l:List Int}(a:0<=d)(b:d<B)(h:Dig B l):Dig B (d::l):=by
 intro x hx
 rcases List.mem_cons.1 hx with rfl | hx
 ·exact ⟨a,b⟩
 ·exact h x hx
theorem Dig.snoc {B d:Int}{l:List Int}(h:Dig B l)(a:0<=d)(b:d<B):Dig B (l++[d]):=by
 intro x hx
 rcases List.mem_append.1 hx with hx | hx
 ·exact h x hx
 ·rw [List.mem_singleton.1 hx];exact ⟨a,b⟩
theorem Dig.take {B:Int}{l:List Int}(h:Dig B l)(n:Nat):Dig B (l.take n):=fun d hd=>h d (List.mem_of_mem_take hd)
theorem Dig.set {B:Int}{l:List Int}(h:Dig B l)(k:Nat){x:Int}(b:0<=x)(c:x<B):Dig B (l.set k x):=by
 intro d a
 rcases List.mem_or_eq_of_mem_set a with h' | rfl
 ·exact h d h'
 ·exact ⟨b,c⟩
theorem Dig.at' {B:Int}{l:List Int}(b:0<B)(h:Dig B l)(i:Nat):0<=at' l i/\at' l i<B:=by
 unfold Nm.at';rw [List.getD_eq_getElem?_getD]
 cases a:l[i]? with
 | none=>exact ⟨Int.le_refl _,b⟩
 | some x=>exact h x (List.mem_of_getElem? a)
theorem Dig.zeros {B:Int}(b:0<B)(n:Nat):Dig B (List.replicate n 0):=by
 intro d a;rw [(List.mem_replicate.1 a).2];exact ⟨Int.le_refl _,b⟩
theorem aFv (B:Int)(n:Nat):val B (List.replicate n 0)=0:=by
 induction n with
 | zero=>rfl
 | succ n ih=>rw [List.replicate_succ,val,ih];simp
theorem aAq {B:Int}(hB:0<B)(n:Nat):0<B^n:=Int.pow_pos hB
theorem aBJ {B:Int}(b:0<B):∀ {l},Dig B l->0<=val B l:=by
 intro l
 induction l with
 | nil=>intro _;exact Int.le_refl _
 | cons d l ih=>
  intro h;have a:=ih (fun x hx=>h x (List.mem_cons_of_mem _ hx));have c:=h d List.mem_cons_self;have:=Int.mul_nonneg (Int.le_of_lt b) a;simp only [val];omega
theorem aCG {B:Int}(a:0<B):∀ {l},Dig B l->val B l<B^l.length:=by
 intro l
 induction l with
 | nil=>intro _;simp [val]
 | cons d l ih=>
  intro h;have b:=ih (fun x hx=>h x (List.mem_cons_of_mem _ hx));have c:=h d List.mem_cons_self;have:B*(val B l+1)<=B*B^l.length:=Int.mul_le_mul_of_nonneg_left (by omega) (Int.le_of_lt a);rw [Int.mul_add,Int.mul_one,Int.mul_comm B (B^l.length)] at this;simp only [val,List.length_cons,Int.pow_succ];omega
def strip (l:List Int):List Int:=(l.reverse.dropWhile (·==0)).reverse
theorem aBi (l:List Int):strip (l++[0])=strip l:=by simp [strip]
theorem aCE (l:List Int){d:Int}(h:d≠0):strip (l++[d])=l++[d]:=by simp [strip,h]
theorem aEN {p:List Int->Prop}(a:p [])(b:∀ l d,p l->p (l++[d])):∀ l,p l:=by
 intro l;rw [<-List.reverse_reverse l]
 induction l.reverse with
 | nil=>exact a
 | cons d r ih=>rw [List.reverse_cons];exact b _ _ ih
theorem aBv (B:Int):∀ l,val B (strip l)=val B l:=by
 refine aEN rfl ?_;intro l d a
 by_cases h:d=0
 ·subst h;rw [aBi,a,aB7];simp
 ·rw [aCE l h]
theorem aA2:∀ l,(strip l).length<=l.length:=by
 refine aEN (Nat.le_refl _) ?_;intro l d a
 by_cases h:d=0
 ·subst h;rw [aBi];simp;omega
 ·rw [aCE l h];exact Nat.le_refl _
theorem aEj:∀ l,strip l=l.take (strip l).length:=by
 refine aEN rfl ?_;intro l d a
 by_cases h:d=0
 ·subst h;rw [aBi,List.take_append_of_le_length (aA2 l)];exact a
 ·rw [aCE l h,List.take_length]
theorem Dig.strip {B:Int}{l:List Int}(h:Dig B l):Dig B (strip l):=by
 rw [aEj];exact h.take _
theorem aNs:∀ l,Top (strip l):=by
 refine aEN ?_ ?_
 ·intro h;exact absurd rfl h
 ·intro l d a
  by_cases h:d=0
  ·subst h;rw [aBi];exact a
  ·rw [aCE l h];intro _;simpa using h
theorem Top.nil:Top []:=fun h=>absurd rfl h
theorem aOX {l:List Int}{d:Int}(h:d≠0):Top (l++[d]):=by intro _;simpa using h
structure Good (B:Int) (l:List Int):Prop where
 dig:Dig B l
 top:Top l
theorem Good.nil (B:Int):Good B []:=⟨Dig.nil B,Top.nil⟩
theorem aA8 {B:Int}{l:List Int}(h:Dig B l):Good B (strip l):=⟨h.strip,aNs l⟩
theorem aEa {B:Int}{l:List Int}(h:Good B l):l=[]\/∃ r d,l=r++[d]/\Dig B r/\1<=d/\d<B:=by
 rcases List.eq_nil_or_concat l with h0 | ⟨r,d,h0⟩
 ·exact Or.inl h0
 ·refine Or.inr ⟨r,d,by rw [h0];simp,fun x hx=>h.dig x (by rw [h0];simp [hx]),?_⟩;have c:=h.dig d (by rw [h0];simp);have a:=h.top (by rw [h0];simp)
  have b:l.getLast (by rw [h0];simp)=d:=by simp [h0]
  rw [b] at a;omega
theorem aEm {B:Int}(a:0<B){l:List Int}(h:Good B l)(b:l≠[]):B^(l.length-1)<=val B l:=by
 rcases aEa h with rfl | ⟨r,d,rfl,hr,hd,_⟩
 ·exact absurd rfl b
 ·rw [aB7];have c:=aBJ a hr;have e:=Int.mul_le_mul_of_nonneg_right hd (Int.le_of_lt (aAq a r.length));simp only [List.length_append,List.length_cons,List.length_nil,Nat.add_sub_cancel];omega
theorem aCs {B:Int}(c:0<B){l:List Int}(h:Good B l):val B l=0↔l=[]:=by
 constructor
 ·intro a
  by_cases b:l=[]
  ·exact b
  ·have d:=aEm c h b;have:=aAq c (l.length-1);omega
 ·intro a;rw [a];rfl
theorem aAY {B:Int}(b:1<=B){m n:Nat}(h:m<=n):B^m<=B^n:=by
 obtain ⟨k,rfl⟩:=Nat.exists_eq_add_of_le h;rw [Int.pow_add]
 have a:1<=B^k:=by have:=aAq (B:=B) (by omega) k;omega
 have:=Int.mul_le_mul_of_nonneg_left a (Int.le_of_lt (aAq (B:=B) (by omega) m));omega
theorem aDn {B:Int}(d:1<=B){a b:List Int}(e:Dig B a)(f:Good B b)(h:a.length<b.length):val B a<val B b:=by
 have g:=aCG (by omega) e;have i:=aEm (by omega) f (by intro c;rw [c] at h;simp at h);have j:=aAY d (show a.length<=b.length-1 by omega);omega
theorem aNA {B:Int}(o:1<=B){a b:List Int}(g:Dig B a)(j:Dig B b)(i:Nat)(k:a.drop (i+1)=b.drop (i+1))(h:at' a i<at' b i)(l:i<a.length)(m:i<b.length):val B a<val B b:=by
 have c:val B a=val B (a.take (i+1))+B^(i+1)*val B (a.drop (i+1)):=by
  conv=>lhs;rw [<-List.take_append_drop (i+1) a,aDl,List.length_take,Nat.min_eq_left (by omega)]
 have d:val B b=val B (b.take (i+1))+B^(i+1)*val B (b.drop (i+1)):=by
  conv=>lhs;rw [<-List.take_append_drop (i+1) b,aDl,List.length_take,Nat.min_eq_left (by omega)]
 rw [c,d,k,aBx,aBx];have e:=aCG (by omega) (g.take i);have n:=aBJ (by omega) (j.take i);rw [List.length_take,Nat.min_eq_left (by omega)] at e;have f:(at' a i+1)*B^i<=at' b i*B^i:=Int.mul_le_mul_of_nonneg_right (by omega) (Int.le_of_lt (aAq (by omega) i));rw [Int.add_mul,Int.one_mul] at f;omega
theorem aOa {B:Int}(b:2<=B){l:List Int}(h:Good B l){n:Nat}(f:val B l<2^n):l.length<=n:=by
 by_cases a:l=[]
 ·subst a;simp
 ·have c:=aEm (by omega) h a
  have d:(2:Int)^(l.length-1)<=B^(l.length-1):=by
   generalize l.length-1=k
   induction k with
   | zero=>simp
   | succ k ih=>
    rw [Int.pow_succ,Int.pow_succ];exact Int.mul_le_mul ih b (by omega) (Int.le_of_lt (aAq (by omega) k))
  rcases Nat.lt_or_ge n l.length with h3 | h3
  ·have e:=aAY (B:=2) (by omega) (show n<=l.length-1 by omega);omega
  ·exact h3
end Nm
namespace Nm
theorem aMN {B c:Int}{i:Nat}{f a b:List Int}(g:f.length=i)(h:val B f+c*B^i=val B (a.take i)+val B (b.take i)){x:Int}(j:x=c+at' a i+at' b i):
  val B (f++[x%B])+x/B*B^(i+1)=val B (a.take (i+1))+val B (b.take (i+1)):=by
 rw [aB7,aBx,aBx,g,Int.pow_succ];have:=Int.emod_add_mul_ediv x B;generalize x%B=d at*;generalize x/B=e at*;grind
theorem aMh {B c c' d:Int}{i:Nat}{e a b:List Int}(f:e.length=i)(h:val B e+val B (b.take i)=val B (a.take i)+c*B^i)(g:d=at' a i-at' b i-c+c'*B):
  val B (e++[d])+val B (b.take (i+1))=val B (a.take (i+1))+c'*B^(i+1):=by
 rw [aB7,aBx,aBx,f,Int.pow_succ];grind
theorem aOh {B c:Int}(f:0<B){i:Nat}{d a b:List Int}(q:a.length=i)(m:d.length=i)(n:Dig B d)(r:0<=c)(o:val B b<=val B a)(e:b.length<=i)
  (h:val B d+val B (b.take i)=val B (a.take i)+c*B^i):c=0/\val B d=val B a-val B b:=by
 rw [aA4 B a (by omega),aA4 B b e] at h;have g:=aCG f n;rw [m] at g;have j:=aAq f i
 have k:c*B^i<1*B^i:=by omega
 have p:=Int.lt_of_mul_lt_mul_right k (Int.le_of_lt j)
 have l:c=0:=by omega
 subst l;exact ⟨rfl,by omega⟩
theorem aJr {B c S f:Int}{i j:Nat}{a b:List Int}(k:i+j<a.length)(h:val B a+c*B^(i+j)=S+f*val B (b.take j)*B^i){x:Int}(l:x=c+at' a (i+j)+f*at' b j):
  val B (a.set (i+j) (x%B))+x/B*B^(i+(j+1))=S+f*val B (b.take (j+1))*B^i:=by
 rw [aNC B a (i+j) (x%B) k,aBx,<-Nat.add_assoc,Int.pow_succ];have:=Int.emod_add_mul_ediv x B;have g:B^(i+j)=B^i*B^j:=Int.pow_add B i j;generalize x%B=d at*;generalize x/B=e at*;generalize at' a (i+j)=o at*;rw [g] at h ⊢;generalize B^i=P at*;generalize B^j=Q at*;grind
theorem aHv {B c o a b x:Int}(i:1<=B)(c0:0<=c)(c1:c<B)(j:0<=o)(k:o<B)(e:0<=a)(a1:a<B)(b0:0<=b)(b1:b<B)(l:x=c+o+a*b):0<=x/\0<=x/B/\x/B<B/\x<B*B:=by
 have f:a*b<=(B-1)*(B-1):=Int.mul_le_mul (by omega) (by omega) b0 (by omega)
 have g:(B-1)*(B-1)=B*B-2*B+1:=by grind
 have h:0<=a*b:=Int.mul_nonneg e b0
 have d:x<B*B:=by omega
 exact ⟨by omega,Int.ediv_nonneg (by omega) (by omega),Int.ediv_lt_of_lt_mul (by omega) d,d⟩
def cmp (x y:Int):Int:=bif decide (x<y) then -1 else bif decide (x=y) then 0 else 1
theorem aAC {x y:Int}(h:x<y):cmp x y=-1:=by rw [cmp,decide_eq_true h];rfl
theorem aAt {x y:Int}(h:y<x):cmp x y=1:=by rw [cmp,decide_eq_false (by omega),decide_eq_false (by omega)];rfl
theorem aAz {x y:Int}(h:x=y):cmp x y=0:=by rw [cmp,decide_eq_false (by omega),decide_eq_true h];rfl
theorem aOi {a b:List Int}{i:Nat}(f:a.length=b.length)(d:i<a.length)(e:a.drop (i+1)=b.drop (i+1))(h:at' a i=at' b i):a.drop i=b.drop i:=by
 have c:i<b.length:=by omega
 rw [List.drop_eq_getElem_cons d,List.drop_eq_getElem_cons c,e];congr 1;unfold at' at h;rw [List.getD_eq_getElem?_getD,List.getD_eq_getElem?_getD,List.getElem?_eq_getElem d,List.getElem?_eq_getElem c] at h;exact h
theorem aDm (B:Int)(l:List Int)(i:Nat)(h:i<l.length):val B (l.drop i)=at' l i+B*val B (l.drop (i+1)):=by
 rw [List.drop_eq_getElem_cons h,val];unfold at';rw [List.getD_eq_getElem?_getD,List.getElem?_eq_getElem h];rfl
theorem aCo {a b q r:Int}(e:0<b)(h:a=q*b+r)(c:0<=r)(d:r<b):a/b=q/\a%b=r:=by
 subst h;refine ⟨?_,?_⟩
 ·rw [Int.add_comm,Int.add_mul_ediv_right _ _ (by omega),Int.ediv_eq_zero_of_lt c d];omega
 ·rw [Int.add_comm,Int.add_mul_emod_self_right,Int.emod_eq_of_lt c d]
theorem aLU {a b q r:Int}(d:0<b)(h:a=q*b+r)(e:0<=r)(f:r<b):(-a)/b=if r=0 then -q else -q-1:=by
 by_cases c:r=0
 ·rw [if_pos c];exact (aCo d (q:=-q) (r:=0) (by subst h c;grind) (by omega) d).1
 ·rw [if_neg c];exact (aCo d (q:=-q-1) (r:=b-r) (by subst h;grind) (by omega) (by omega)).1
end Nm
open Go.RowKit
theorem hid {p:Prop}(h:p):Hid p:=h
def IntsB (B:Nat)(w:World)(xs:List Int)(v:Value):Prop:=w.ownsRow B 3 1 v xs.length (xs.map (Value.int .i64))
abbrev Ints (w:World)(xs:List Int)(v:Value):Prop:=IntsB 0 w xs v
theorem aHC {w w':World}{B e s n:Nat}{v:Value}{xs:List Value}(h:w.ownsRow B e s v n xs)(c:Below w.heap.size w w'):w'.ownsRow B e s v n xs:=by
 obtain ⟨b,a⟩:=h;refine ⟨b,?_⟩
 rcases a with a | ⟨g,cap,cur,hv,hg,hh,r⟩
 ·exact Or.inl a
 ·exact Or.inr ⟨g,cap,cur,hv,hg,by rw [c.block g (aAL hh)];exact hh,r⟩
theorem aOs {w:World}{B b e s n:Nat}{v:Value}{xs:List Value}(h:w.ownsRow B e s v n xs)(d:b<=B):w.ownsRow b e s v n xs:=by
 obtain ⟨c,a⟩:=h;refine ⟨c,?_⟩
 rcases a with a | ⟨g,cap,cur,hv,hg,hh,r⟩
 ·exact Or.inl a
 ·exact Or.inr ⟨g,cap,cur,hv,by omega,hh,r⟩
theorem IntsB.below {B:Nat}{w w':World}{xs:List Int}{v:Value}(h:IntsB B w xs v)(hb:Below w.heap.size w w'):IntsB B w' xs v:=aHC h hb
theorem IntsB.alloc {B:Nat}{w:World}{xs:List Int}{v:Value}(h:IntsB B w xs v)(o:Obj):IntsB B (w.alloc o) xs v:=h.below ((Below.refl _ _).alloc (Nat.le_refl _) o)
theorem IntsB.nil (B:Nat)(w:World):IntsB B w [] (.slice none 0 0):=⟨rfl,Or.inl ⟨rfl,rfl⟩⟩
theorem IntsB.shape {B:Nat}{w:World}{xs:List Int}{v:Value}(h:IntsB B w xs v):∃ ao cap,v=.slice ao xs.length cap/\xs.length<=cap:=by
 rcases h.2 with ⟨h,a⟩ | ⟨g,cap,b,h,_,_,c,_⟩
 ·exact ⟨none,0,by rw [h,a],by omega⟩
 ·exact ⟨_,_,h,c⟩
theorem IntsB.place {B:Nat}{w:World}{xs:List Int}{ao:Option Addr}{n cap:Nat}(h:IntsB B w xs (.slice ao n cap))(i:0<xs.length):∃ g,ao=some ⟨g,0,none⟩/\∀ j,j<xs.length->w.cell? ⟨g,j,none⟩=some (.int .i64 (Nm.at' xs j)):=by
 rcases h.2 with ⟨_,e⟩ | ⟨g,a,b,h,_,c,f,_,_,d⟩
 ·omega
 ·cases h;refine ⟨g,rfl,fun j hj=>aAa c ?_⟩
  have:(xs.map (Value.int .i64))[j]?=some (.int .i64 (Nm.at' xs j)):=by
   simp [Nm.at',List.getD,List.getElem?_eq_getElem hj]
  rw [<-d,List.getElem?_take_of_lt (by omega)] at this
  simpa using this
def NumAt (w:World)(z:Int)(v:Value):Prop:=∃ ds dv,v=.agg #[.bool (decide (z<0)),dv]/\Ints w ds dv/\Nm.Good 10000 ds/\Nm.val 10000 ds=z.natAbs
theorem NumAt.below {w w':World}{z:Int}{v:Value}(h:NumAt w z v)(f:Below w.heap.size w w'):NumAt w' z v:=by
 obtain ⟨a,b,c,d,e⟩:=h;exact ⟨a,b,c,d.below f,e⟩
theorem NumAt.alloc {w:World}{z:Int}{v:Value}(h:NumAt w z v)(o:Obj):NumAt (w.alloc o) z v:=h.below ((Below.refl _ _).alloc (Nat.le_refl _) o)
open Go.RowKit
theorem infoU:(Tryz.prog.info? 142).map (fun i=>(i.zero,i.size,i.bytes))=some (some (.int .u32 0),1,4):=by kernel_rfl
def LimsB (B:Nat)(w:World)(xs:List Int)(v:Value):Prop:=w.ownsRow B 142 1 v xs.length (xs.map (Value.int .u32))
abbrev Lims (w:World)(xs:List Int)(v:Value):Prop:=LimsB 0 w xs v
theorem LimsB.below {B:Nat}{w w':World}{xs:List Int}{v:Value}(h:LimsB B w xs v)(hb:Below w.heap.size w w'):LimsB B w' xs v:=aHC h hb
theorem LimsB.alloc {B:Nat}{w:World}{xs:List Int}{v:Value}(h:LimsB B w xs v)(o:Obj):LimsB B (w.alloc o) xs v:=h.below ((Below.refl _ _).alloc (Nat.le_refl _) o)
theorem LimsB.nil (B:Nat)(w:World):LimsB B w [] (.slice none 0 0):=⟨rfl,Or.inl ⟨rfl,rfl⟩⟩
theorem LimsB.weak {B B':Nat}{w:World}{xs:List Int}{v:Value}(h:LimsB B w xs v)(hb:B'<=B):LimsB B' w xs v:=aOs h hb
theorem LimsB.shape {B:Nat}{w:World}{xs:List Int}{v:Value}(h:LimsB B w xs v):∃ ao cap,v=.slice ao xs.length cap/\xs.length<=cap:=by
 rcases h.2 with ⟨h,a⟩ | ⟨g,cap,b,h,_,_,c,_⟩
 ·exact ⟨none,0,by rw [h,a],by omega⟩
 ·exact ⟨_,_,h,c⟩
theorem LimsB.place {B:Nat}{w:World}{xs:List Int}{ao:Option Addr}{n cap:Nat}(h:LimsB B w xs (.slice ao n cap))(i:0<xs.length):∃ g,ao=some ⟨g,0,none⟩/\∀ j,j<xs.length->w.cell? ⟨g,j,none⟩=some (.int .u32 (Nm.at' xs j)):=by
 rcases h.2 with ⟨_,e⟩ | ⟨g,a,b,h,_,c,f,_,_,d⟩
 ·omega
 ·cases h;refine ⟨g,rfl,fun j hj=>aAa c ?_⟩
  have:(xs.map (Value.int .u32))[j]?=some (.int .u32 (Nm.at' xs j)):=by
   simp [Nm.at',List.getD,List.getElem?_eq_getElem hj]
  rw [<-d,List.getElem?_take_of_lt (by omega)] at this
  simpa using this
theorem LimsB.other {b:Nat}{w:World}{xs:List Int}{v:Value}(h:LimsB b w xs v){B o:Nat}{ys:Array Value}{T:TypeId}{m:Nat×Nat}(c:w.heap[B]?=some (.cells ys T m))(f:T≠142)(u:Value):LimsB b (w.setCell ⟨B,o,none⟩ u) xs v:=by
 obtain ⟨d,a⟩:=h;refine ⟨d,?_⟩
 rcases a with a | ⟨g,cap,cur,hv,hg,hh,r⟩
 ·exact Or.inl a
 ·refine Or.inr ⟨g,cap,cur,hv,hg,?_,r⟩;rw [Below.heap_setCell _ _ _ _ ?_]
  ·exact hh
  ·intro e;simp only at e;rw [e] at hh;rw [hh] at c;simp at c;exact f c.2.1.symm
def LBlk (w:World)(G:Nat)(xs:List Int):Prop:=∃ cur,w.heap[G]?=some (.cells cur 142 (0,0))/\cur.toList=xs.map (Value.int .u32)
theorem LBlk.cell {w:World}{G:Nat}{xs:List Int}(h:LBlk w G xs)(j:Nat)(d:j<xs.length):w.cell? ⟨G,j,none⟩=some (.int .u32 (Nm.at' xs j)):=by
 obtain ⟨a,b,c⟩:=h;refine aAa b ?_
 have:(xs.map (Value.int .u32))[j]?=some (.int .u32 (Nm.at' xs j)):=by
  simp [Nm.at',List.getD,List.getElem?_eq_getElem d]
 rw [<-c] at this
 simpa using this
theorem LBlk.frozen {w:World}{G:Nat}{xs:List Int}(h:LBlk w G xs)(j:Nat):w.frozen? ⟨G,j,none⟩=false:=by
 obtain ⟨a,b,c⟩:=h;exact aAb b
theorem LBlk.set {w:World}{G:Nat}{xs:List Int}(h:LBlk w G xs)(j:Nat)(x:Int):LBlk (w.setCell ⟨G,j,none⟩ (.int .u32 x)) G (xs.set j x):=by
 obtain ⟨a,b,c⟩:=h;refine ⟨_,aAS b _,?_⟩;rw [Array.toList_setIfInBounds,c,List.map_set]
theorem LBlk.lt {w:World}{G:Nat}{xs:List Int}(h:LBlk w G xs):G<w.heap.size:=by
 obtain ⟨a,b,c⟩:=h;exact aAL b
theorem LBlk.drew {w:World}{G:Nat}{xs:List Int}(h:LBlk w G xs):LBlk w.drew G xs:=h
theorem LBlk.lims {w:World}{G:Nat}{xs:List Int}(h:LBlk w G xs)(d:xs.length<=100000000000):Lims w xs (.slice (some ⟨G,0,none⟩) xs.length xs.length):=by
 obtain ⟨a,c,b⟩:=h;refine ⟨by simp,Or.inr ⟨G,xs.length,a,rfl,Nat.zero_le _,c,Nat.le_refl _,by unfold maxLen;omega,?_,?_⟩⟩
 ·rw [<-Array.length_toList,b];simp
 ·rw [b];exact List.take_of_length_le (by simp)
theorem LimsB.cellG {B:Nat}{w:World}{xs:List Int}{g n cap:Nat}(h:LimsB B w xs (.slice (some ⟨g,0,none⟩) n cap))(j:Nat)(c:j<xs.length):w.cell? ⟨g,j,none⟩=some (.int .u32 (Nm.at' xs j)):=by
 obtain ⟨d,a,b⟩:=h.place (by omega);cases a;exact b j c
theorem LBlk.made (w:World)(n:Nat):LBlk (w.alloc (.cells (madeCells #[.int .u32 0] n) 142)) w.heap.size (List.replicate n 0):=⟨madeCells #[.int .u32 0] n,by show (w.heap.push _)[w.heap.size]?=_;simp,by rw [toList_madeCells_one];simp⟩
theorem LimsB.lowSet {B:Nat}{w:World}{xs:List Int}{v:Value}(h:LimsB B w xs v){G o:Nat}(c:G<B)(u:Value):LimsB B (w.setCell ⟨G,o,none⟩ u) xs v:=by
 obtain ⟨b,a⟩:=h;refine ⟨b,?_⟩
 rcases a with a | ⟨g,cap,cur,hv,hg,hh,r⟩
 ·exact Or.inl a
 ·exact Or.inr ⟨g,cap,cur,hv,hg,by rw [Below.heap_setCell _ _ _ _ (by simp only;omega)];exact hh,r⟩
theorem LBlk.below {w w':World}{G:Nat}{xs:List Int}(h:LBlk w G xs)(d:Below w.heap.size w w'):LBlk w' G xs:=by
 obtain ⟨a,b,c⟩:=h;exact ⟨a,by rw [d.block _ (aAL b)];exact b,c⟩
def LimPost (w:World)(p:List Int->Prop):Ending->World->Prop:=fun e w'=>∃ v xs,e=.returned v/\p xs/\LimsB w.heap.size w' xs v/\Below w.heap.size w w'
def WhoAt (w:World)(z:Int)(v:Value):Prop:=∃ ds dv,v=.agg #[.bool (decide (z<0)),dv]/\Lims w ds dv/\Nm.Good 4294967296 ds/\Nm.val 4294967296 ds=z.natAbs
theorem WhoAt.below {w w':World}{z:Int}{v:Value}(h:WhoAt w z v)(f:Below w.heap.size w w'):WhoAt w' z v:=by
 obtain ⟨a,b,c,d,e⟩:=h;exact ⟨a,b,c,d.below f,e⟩
theorem WhoAt.alloc {w:World}{z:Int}{v:Value}(h:WhoAt w z v)(o:Obj):WhoAt (w.alloc o) z v:=h.below ((Below.refl _ _).alloc (Nat.le_refl _) o)
theorem WhoAt.open {w:World}{z:Int}{v:Value}(h:WhoAt w z v):∃ ds ao cap,v=.agg #[.bool (decide (z<0)),.slice ao ds.length cap]/\Lims w ds (.slice ao ds.length cap)/\Nm.Good 4294967296 ds/\Nm.val 4294967296 ds=z.natAbs:=by
 obtain ⟨ds,e,b,a,c,d⟩:=h;obtain ⟨ao,cap,rfl,_⟩:=a.shape;exact ⟨ds,ao,cap,b,a,c,d⟩
theorem WhoAt.other {w:World}{z:Int}{v:Value}(h:WhoAt w z v){B o:Nat}{ys:Array Value}{T:TypeId}{m:Nat×Nat}(f:w.heap[B]?=some (.cells ys T m))(g:T≠142)(u:Value):WhoAt (w.setCell ⟨B,o,none⟩ u) z v:=by
 obtain ⟨a,b,c,d,e⟩:=h;exact ⟨a,b,c,d.other f g u,e⟩
def WhoPost (w:World)(z:Int):Ending->World->Prop:=fun e w'=>∃ v,e=.returned v/\WhoAt w' z v/\Below w.heap.size w w'
theorem aBk {a:List Int}{z:Int}{n:Nat}(b:Nm.Good 4294967296 a)(c:Nm.val 4294967296 a=z.natAbs)(d:z.natAbs<2^n):a.length<=n:=by
 refine Nm.aOa (by decide) b ?_;rw [c];have:((z.natAbs:Nat):Int)<((2^n:Nat):Int):=Int.ofNat_lt.2 d
 simpa using this
theorem aBE (w:World)(o:Obj):(w.alloc o).heap[w.heap.size]?=some o:=by show (w.heap.push o)[w.heap.size]?=some o;simp
theorem belowW {B:Nat}{a w:World}(h:Below B a w)(hB:B<=w.heap.size)(o:Obj):Below B a (w.alloc o):=h.alloc hB o
theorem newW {w w':World}{k:Nat}{o:Obj}(hk:k<w.heap.size)(h:w.heap[k]?=some o)(hb:Below w.heap.size w w'):w'.heap[k]?=some o:=by rw [hb.block k hk];exact h
theorem drewW (w:World):Below w.heap.size w w.drew:=⟨rfl,rfl,rfl,Nat.le_refl _,fun _ _=>rfl⟩
theorem undrewW {w w':World}(h:Below w.drew.heap.size w.drew w'):Below w.heap.size w w':=⟨h.os,h.tape,h.output,h.size,h.block⟩
def Bits (n:Nat)(z:Int):Prop:=z.natAbs<2^n
theorem aAH {n:Nat}{x y:Int}(a:Bits n x)(b:Bits n y):Bits (n+1) (x+y):=by
 unfold Bits at*;rw [Nat.pow_succ];omega
theorem aBw {n:Nat}{x:Int}(a:Bits n x):Bits n (-x):=by
 unfold Bits at*
 rwa [Int.natAbs_neg]
theorem aAg {n m:Nat}{x:Int}(hx:Bits n x)(h:n<=m):Bits m x:=Nat.lt_of_lt_of_le hx (Nat.pow_le_pow_right (by decide) h)
theorem aAk {n m:Nat}{x y:Int}(a:Bits n x)(b:Bits m y):Bits (n+m) (x*y):=by
 unfold Bits at*;rw [Int.natAbs_mul,Nat.pow_add];exact Nat.mul_lt_mul'' a b
theorem aDv {n m:Nat}{x y:Int}(hy:Bits n y)(h:x.natAbs<=y.natAbs)(hm:n<=m):Bits m x:=Nat.lt_of_lt_of_le (Nat.lt_of_le_of_lt h hy) (Nat.pow_le_pow_right (by decide) hm)
theorem aDE {n m:Nat}{x y:Int}(hx:Bits n x)(hy:Bits m y):Bits (max n m) x/\Bits (max n m) y:=⟨aAg hx (Nat.le_max_left _ _),aAg hy (Nat.le_max_right _ _)⟩
theorem aG3 {n:Nat}{x y:Int}(a:Bits n x)(b:Bits n y):Bits (n+1) (x-y):=by
 rw [Int.sub_eq_add_neg];exact aAH a (aBw b)
theorem aEy {z:Int}{n:Nat}(h:Bits n z):Bits n (z.natAbs:Int):=by
 unfold Bits at*
 simpa using h
theorem aF4 (n:Int):Bits (Nat.log2 n.natAbs+1) n:=by
 unfold Bits;exact Nat.lt_log2_self
open Go.RowKit
namespace Ab
def Bits (u:Nat)(z:Int):Prop:=z.natAbs<2^(10000000*u)
theorem aAg {n m:Nat}{x:Int}(hx:Bits n x)(h:n<=m):Bits m x:=Nat.lt_of_lt_of_le hx (Nat.pow_le_pow_right (by decide) (Nat.mul_le_mul_left _ h))
theorem aBw {n:Nat}{x:Int}(a:Bits n x):Bits n (-x):=by
 unfold Bits at*
 rwa [Int.natAbs_neg]
theorem aEy {z:Int}{n:Nat}(h:Bits n z):Bits n (z.natAbs:Int):=by
 unfold Bits at*
 simpa using h
theorem aAH {n:Nat}{x y:Int}(a:Bits n x)(b:Bits n y):Bits (n+1) (x+y):=by
 have h:Go.Proofs.YteghhlfmcjmnoaaGreatDoor.Bits (10000000*n+1) (x+y):=Go.Proofs.YteghhlfmcjmnoaaGreatDoor.aAH a b;exact Go.Proofs.YteghhlfmcjmnoaaGreatDoor.aAg h (by omega)
theorem aG3 {n:Nat}{x y:Int}(a:Bits n x)(b:Bits n y):Bits (n+1) (x-y):=by
 rw [Int.sub_eq_add_neg];exact aAH a (aBw b)
theorem aAk {n m:Nat}{x y:Int}(a:Bits n x)(b:Bits m y):Bits (n+m) (x*y):=by
 have h:Go.Proofs.YteghhlfmcjmnoaaGreatDoor.Bits (10000000*n+10000000*m) (x*y):=Go.Proofs.YteghhlfmcjmnoaaGreatDoor.aAk a b;rw [<-Nat.mul_add] at h;exact h
theorem aDv {n m:Nat}{x y:Int}(hy:Bits n y)(h:x.natAbs<=y.natAbs)(hm:n<=m):Bits m x:=aAg (Nat.lt_of_le_of_lt h hy) hm
theorem aDE {n m:Nat}{x y:Int}(hx:Bits n x)(hy:Bits m y):Bits (max n m) x/\Bits (max n m) y:=⟨aAg hx (Nat.le_max_left _ _),aAg hy (Nat.le_max_right _ _)⟩
theorem aF4 (n:Int):Bits (Nat.log2 n.natAbs+1) n:=by
 have h:Go.Proofs.YteghhlfmcjmnoaaGreatDoor.Bits (Nat.log2 n.natAbs+1) n:=Go.Proofs.YteghhlfmcjmnoaaGreatDoor.aF4 n;exact Go.Proofs.YteghhlfmcjmnoaaGreatDoor.aAg h (by omega)
theorem aCI {n u:Nat}{z:Int}(h:Go.Proofs.YteghhlfmcjmnoaaGreatDoor.Bits n z)(hu:n<=10000000*u):Bits u z:=Go.Proofs.YteghhlfmcjmnoaaGreatDoor.aAg h hu
def mag:Bool->World->Int->Value->Prop
 | false,w,z,x=>∃ ds,Ints w ds x/\Nm.Good 10000 ds/\Nm.val 10000 ds=z.natAbs
 | true,w,z,x=>∃ ds,Lims w ds x/\Nm.Good 4294967296 ds/\Nm.val 4294967296 ds=z.natAbs
theorem aPE {bt:List TypeId}{w W:World}(h:On bt w W){B e s n:Nat}{v:Value}{xs:List Value}(c:bt.contains e=false)(d:w.ownsRow B e s v n xs):W.ownsRow B e s v n xs:=by
 obtain ⟨b,a⟩:=d;refine ⟨b,?_⟩
 rcases a with a | ⟨g,cap,cur,hv,hg,hh,r⟩
 ·exact Or.inl a
 ·refine Or.inr ⟨g,cap,cur,hv,hg,?_,r⟩
  rcases h.blk g _ hh with h3 | ⟨h3,_⟩
  ·exact h3
  ·simp only [boxy] at h3;rw [c] at h3;cases h3
theorem aMH {w:World}{B e s n:Nat}{v:Value}{xs:List Value}(a:w.ownsRow B e s v n xs):One v:=by
 rcases a.2 with ⟨rfl,_⟩ | ⟨g,cap,cur,rfl,_⟩<;>rfl
noncomputable def mkC (bt:List TypeId)(h1:bt.contains 3=false)(h2:bt.contains 142=false):Cfg where
 P:=Tryz.prog
 bt:=bt
 dig:=mag
 bits:=Bits
 digOn:=by
  intro k w W z x h hm
  cases k with
  | false=>obtain ⟨ds,g1,g2⟩:=hm;exact ⟨ds,aPE h h1 g1,g2⟩
  | true=>obtain ⟨ds,g1,g2⟩:=hm;exact ⟨ds,aPE h h2 g1,g2⟩
 digOne:=by
  intro k w z x hm
  cases k with
  | false=>obtain ⟨ds,g1,_⟩:=hm;exact aMH g1
  | true=>obtain ⟨ds,g1,_⟩:=hm;exact aMH g1
def bt0:List TypeId:=[140,80,90,115,199,201,205,273,192,197,195,138,172,100]
noncomputable def Z:Cfg:=mkC bt0 (by decide) (by decide)
theorem mixed:Z.P.follows .mixedOrders=true:=by kernel_rfl
theorem aGr (k:Bool)(w:World):mag k w 0 (.slice none 0 0):=by
 cases k
 ·exact ⟨[],IntsB.nil 0 w,(Nm.Good.nil _),by simp [Nm.val]⟩
 ·exact ⟨[],LimsB.nil 0 w,(Nm.Good.nil _),by simp [Nm.val]⟩
end Ab
open Go.RowKit
namespace Ab
def numsT (k:Bool):List Tok->Option (List Int×Nat)
 | []=>some ([],0)
 | .num k' z n::r=>bif k==k' then (numsT k r).map fun (zs,m)=>(z::zs,max n m) else none
 | .c (.bool false)::.c (.lit (.slice none 0 0))::r=>(numsT k r).map fun (zs,m)=>(0::zs,m)
 | _=>none
def leAll:List Nat->List Nat->Bool
 | [],[]=>true
 | a::r,b::t=>Nat.ble a b&&leAll r t
 | _,_=>false
def Hold (k:Bool)(w:World):List Int->List Value->Prop
 | [],[]=>True
 | z::zs,x::y::xs=>x=.bool (decide (z<0))/\mag k w z y/\Hold k w zs xs
 | _,_=>False
theorem aCr {k:Bool}{w:World}:∀ (ts:List Tok) (zs:List Int) (n:Nat) (xs:List Value),numsT k ts=some (zs,n)->RT Z w ts xs->Hold k w zs xs/\∀ z∈zs,Bits n z
 | [],zs,n,xs,h,r=>by
  simp [numsT] at h;obtain ⟨rfl,rfl⟩:=h
  cases xs with
  | nil=>exact ⟨trivial,fun z hz=>by cases hz⟩
  | cons=>exact r.elim
 | .num k' z m::ts,zs,n,xs,h,r=>by
  simp only [numsT] at h
  cases e:k==k' with
  | false=>rw [e] at h;cases h
  | true=>
   rw [e] at h;simp only [cond_true] at h
   have:k=k':=by simpa using e
   subst this;obtain ⟨⟨zs',m'⟩,h1,h2⟩:=mpd h;simp only [Prod.mk.injEq] at h2;obtain ⟨rfl,rfl⟩:=h2
   match xs,r with
   | x::y::xs,⟨r1,r2,r3,r4⟩=>
    obtain ⟨g1,g2⟩:=aCr ts zs' m' xs h1 r4;refine ⟨⟨r1,r2,g1⟩,fun z' hz=>?_⟩;simp at hz
    rcases hz with rfl | hz
    ·exact aAg r3 (Nat.le_max_left _ _)
    ·exact aAg (g2 z' hz) (Nat.le_max_right _ _)
 | [.c c],zs,n,xs,h,r=>by
  cases c<;>(try (simp [numsT] at h;done))<;>(rename_i b;cases b<;>simp [numsT] at h)
 | .c c::.num _ _ _::ts,zs,n,xs,h,r=>by
  cases c<;>(try (simp [numsT] at h;done))<;>(rename_i b;cases b<;>simp [numsT] at h)
 | .c c::.c d::ts,zs,n,xs,h,r=>by
  cases c<;>try (simp [numsT] at h;done)
  case bool b=>
   cases b with
   | true=>simp [numsT] at h
   | false=>
    cases d<;>try (simp [numsT] at h;done)
    case lit v=>
     cases v<;>try (simp [numsT] at h;done)
     case slice o l c=>
      cases o with
      | some a=>simp [numsT] at h
      | none=>
       cases l with
       | succ l=>simp [numsT] at h
       | zero=>
        cases c with
        | succ c=>simp [numsT] at h
        | zero=>
         simp only [numsT] at h;obtain ⟨⟨zs',m'⟩,h1,h2⟩:=mpd h;simp only [Prod.mk.injEq] at h2;obtain ⟨rfl,rfl⟩:=h2
         match xs,r with
         | x::y::xs,⟨_,r1,_,r2,r4⟩=>
          obtain ⟨g1,g2⟩:=aCr ts zs' m' xs h1 r4;have r1:x=.bool false:=r1;have r2:y=.slice none 0 0:=r2.1;subst r1 r2;refine ⟨⟨rfl,aGr k w,g1⟩,fun z' hz=>?_⟩;simp at hz
          rcases hz with rfl | hz
          ·unfold Bits;simp;exact Nat.pow_pos (by decide)
          ·exact g2 z' hz
theorem aEF {k:Bool}{w:World}{n:Nat}:∀ (zs:List Int) (xs:List Value),Hold k w zs xs->(∀ z∈zs,Bits n z)->RT Z w (zs.map fun z=>.num k z n) xs
 | [],[],_,_=>trivial
 | z::zs,x::y::xs,⟨h1,h2,h3⟩,hb=>⟨h1,h2,hb z (by simp),aEF zs xs h3 fun z' hz=>hb z' (by simp [hz])⟩
 | [],_::_,h,_=>h.elim
 | _::_,[],h,_=>h.elim
 | _::_,[_],h,_=>h.elim
end Ab
end Go.Proofs.YteghhlfmcjmnoaaGreatDoor
