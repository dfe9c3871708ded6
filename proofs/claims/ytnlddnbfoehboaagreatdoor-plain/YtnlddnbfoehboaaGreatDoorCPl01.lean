import Derived.Test.YtnlddnbfoehboaaGreatDoorCPl00
import Derived.Test.YtnlddnbfoehboaaGreatDoorProg
import Derived.BigQuiet
import Derived.Lib.OthersKept
import Derived.Deep.LoopGhost
import Derived.Lib.ItoaNum
import Derived.WalkSmall
import Derived.Deep.OwnRows
import Derived.Deep.RegionWith
set_option linter.all false
set_option maxRecDepth 100000
set_option maxHeartbeats 2000000
namespace Go.Proofs.YtnlddnbfoehboaaGreatDoor
open Option renaming some->Y,none->X
open Bool renaming true->I,false->J
open List renaming take_succ_eq_append_getElem->j8,length_take->j9,take_of_length_le->o9,getD_eq_getElem?_getD->p5,replicate->p6,mem_cons_self->p8,mem_cons_of_mem->q8,take_length->q9,take_append_drop->r5,drop_eq_getElem_cons->r7,getElem?_eq_getElem->r8,drop_length->r9
open Int renaming le_refl->s7,mul_nonneg->s8,le_of_lt->u5,mul_le_mul_of_nonneg_left->u6,pow_succ->u7,mul_le_mul_of_nonneg_right->u9,pow_add->x8,mul_le_mul->y8,emod_add_mul_ediv->z8,lt_of_mul_lt_mul_right->A0,add_comm->A4
open Go.ByteArray renaming toList_eq->A5
open Nat renaming le_refl->A6,lt_or_ge->A7,min_eq_left->A8,pow_succ->A9,lt_of_lt_of_le->B7,pow_le_pow_right->B8
open Option.some renaming injEq->B9,inj->C0
open Go.Lib renaming decDigits->C3
open Or renaming inr->C4
open Bool renaming or_eq_true->C5,or_eq_false_iff->C6
open Rd (aY aF aQ Ep Eo wP bE bF)
open Go.Proofs.Tryz
open Go.RowKit
theorem uJ (n:Int)(w:World):
  Calls prog 12 #[.int .u8 n] w λe a=>e=.returned (.bool (aY n))/\w=a:=by
 by_cases b:48<=n
 all_goals by_cases c:n<=57
 all_goals
  go_in
  go_wp2
  go_ret
  exact⟨by simp[aY];omega,rfl⟩
theorem Ih (n:Int)(w:World):
  Calls prog 13 #[.int .u8 n] w λe a=>e=.returned (.bool (Rd.isLet n))/\w=a:=by
 by_cases b:97<=n
 all_goals by_cases c:n<=122
 all_goals
  go_in
  go_wp2
  go_ret
  exact⟨by simp[Rd.isLet];omega,rfl⟩
namespace Rd
def dM:List Wd->List Value
 | []=>[]
 |w::r=>.string w.text::.int .i64 w.pos::dM r
theorem aEm (a b:List Wd):dM (a++b)=dM a++dM b:=by
 induction a with
 |nil=>rfl
 |cons x r c=>simp[dM,c]
theorem aPR:∀(a:List Wd) (n:Nat),n<a.length->(dM a)[n*2]?=Y (.string (aA a n).text)/\(dM a)[n*2+1]?=Y (.int .i64 (aA a n).pos):=by
 intro a
 induction a with
 |nil=>intro n h;simp at h
 |cons x r b=>
  intro n h
  cases n with
  |zero=>simp[dM,aA]
  |succ n=>
   have:=b n (by simpa using h)
   simpa[dM,aA,Nat.add_mul]using this
end Rd
theorem zH:(prog.info? 40).map (λi=>(i.zero,i.size,i.bytes))=Y (Y (.agg #[.string ⟨#[]⟩,.int .i64 0]),2,24):=E0
theorem Vt (w:World)(x y:Value)(t:TypeId):∀j u,[x,y][j]?=Y u->(w.alloc (.cells #[x,y] t)).cell? ((⟨w.heap.size,0,X⟩:Addr).add j)=Y u:=by
 intro j u a
 match j,a with
 |0,a=>simp at a;subst a;simp[Addr.add]
 |1,a=>simp at a;subst a;simp[Addr.add]
theorem Xq {x c:Value}(b:x.oneCell'=I)(d:c.oneCell'=I):∀u∈[x,c],u.oneCell'=I:=by
 intro u a;simp at a
 rcases a with rfl|rfl<;>assumption
def Ds (s:ByteArray)(w:World)(l i:Value)(wr:World):Prop:=
 ∃(k f:Nat) (done:List Rd.Wd),k<=s.size/\i=.int .i64 k/\done.length<=k/\s.size<f+k/\wr.ownsRow w.heap.size 40 2 l done.length (Rd.dM done)/\Below w.heap.size w wr/\done++Rd.split s f k=Rd.split s (s.size+1) 0
theorem aKi (s:ByteArray)(w g:World)(k f:Nat)(done:List Rd.Wd)(i:Value)(e:Nat)(m:aF s k=e)
  (h:k<s.size) (l:(aQ s k != 32)=I) (hd:done.length<=k) (o:s.size<f+k) (b:g.ownsRow w.heap.size 40 2 i (done.length+1) (Rd.dM done++[.string (s.extract k e),.int .i64 k]))
  (a:Below w.heap.size w g) (d:done++Rd.split s f k=Rd.split s (s.size+1) 0):Ds s w i (.int .i64 e) g:=by
 obtain⟨c,rfl⟩:∃c,f=c+1:=⟨f-1,O⟩
 have n:=Ep s k;have j:=Eo s k h;subst m;refine⟨_,c,done++[⟨Rd.kindOf (aQ s k),s.extract k (aF s k),k⟩],j,rfl,by simp;omega,O,?_,a,?_⟩
 .rw[Rd.aEm]
  simpa[Rd.dM]using b
 .rw[<-d];exact aGG s c k h l done
theorem aR8 (s:ByteArray)(w g:World)(k f:Nat)(done:List Rd.Wd)(l:Value)(e:Nat)(m:aF s k=e)
  (h:k<s.size) (j:(aQ s k != 32)=J) (hd:done.length<=k) (o:s.size<f+k) (b:g.ownsRow w.heap.size 40 2 l done.length (Rd.dM done))
  (a:Below w.heap.size w g) (d:done++Rd.split s f k=Rd.split s (s.size+1) 0):Ds s w l (.int .i64 e) g:=by
 obtain⟨c,rfl⟩:∃c,f=c+1:=⟨f-1,O⟩
 have n:=Ep s k;have i:=Eo s k h;subst m;exact⟨_,c,done,i,rfl,O,O,b,a,by rw[<-d,aGb s c k h j]⟩
theorem aGF (s:ByteArray)(w:World)(hs:s.size<=120):
  Calls prog 8 #[.string s] w λe h=>∃v,e=.returned v/\h.ownsRow w.heap.size 40 2 v (Rd.split s (s.size+1) 0).length (Rd.dM (Rd.split s (s.size+1) 0))/\Below w.heap.size w h:=by
 obtain⟨i,hi,L,g,p⟩:=info_parts zH
 go_in
 go_wp2_with fail
 go_loopw [3,4] (λl i wr=>Ds s w l i wr) (λ_ i _=>s.size-(intOf i).toNat)
 case atStart=>
  exact⟨0,s.size+1,[],Nat.zero_le _,rfl,A6 _,O,⟨rfl,Or.inl ⟨rfl,rfl⟩⟩,Below.refl _ _,rfl⟩
 case round=>
  obtain⟨k,f,done,W,rfl,hd,F,c,d,C⟩:=hrel;have n:Hid (done++Rd.split s f k=Rd.split s (s.size+1) 0):=C;clear C;have q:=d.size
  by_cases c1:k<s.size
  .have r:Hid (aQ s k=(s[k].toNat:Int)):=wP s k c1;cases c2:aY (s[k].toNat:Int)
   .cases c3:Rd.isLet (s[k].toNat:Int)
    .have z:Hid (aF s k=k+1):=by show aF s k=k+1;simp[aF,r.out,c2,c3]
     cases c4:((s[k].toNat:Int) != 32)
     .go_wp2_with (first|(go_at_call 12;refine(uJ _ _).mono ?_;rintro e h⟨rfl,rfl⟩)|(go_at_call 13;refine(Ih _ _).mono ?_;rintro e h⟨rfl,rfl⟩))
      go_roundw
      case rel=>exact aR8 s w _ k f done _ (k+1) z.out c1 (by rw[r.out];exact c4) hd F c d n.out
      case measure=>simp[intOf];omega
     .go_wp2_with (first|(go_at_call 12;refine(uJ _ _).mono ?_;rintro e h⟨rfl,rfl⟩)|(go_at_call 13;refine(Ih _ _).mono ?_;rintro e h⟨rfl,rfl⟩)|(at_builtin;refine wpList_append_own _ rfl _ _ 34 rfl w.heap.size 40 i (.agg #[.string ⟨#[]⟩,.int .i64 0]) 2 24 underlying34 hi L g p rfl E3 _ _ _ rfl (c.alloc _) ⟨wr.heap.size,0,X⟩ 1 1 [.string (s.extract k (k+1)),.int .i64 k] rfl rfl (Vt _ _ _ _) (Xq rfl rfl) (by unfold maxLen;omega) O (by simp;omega) ?_;intro P R b a m))
      go_roundw
      case rel=>exact aKi s w _ k f done _ (k+1) z.out c1 (by rw[r.out];exact c4) hd F b (qT c d q _ a) n.out
      case measure=>simp[intOf];omega
    .have c4:((s[k].toNat:Int) != 32)=I:=by simp[Rd.isLet]at c3;rw[bne_iff_ne];omega
     have u:Hid (aF s k=bE s s.size (k+1)):=by show aF s k=_;simp[aF,r.out,c2,c3]
     go_wp2_with (first|(go_at_call 12;refine(uJ _ _).mono ?_;rintro e h⟨rfl,rfl⟩)|(go_at_call 13;refine(Ih _ _).mono ?_;rintro e h⟨rfl,rfl⟩))
     obtain⟨y,rfl⟩:∃y:World,y=wr:=⟨_,rfl⟩
     go_loop [5] (λe=>∃j:Nat,k+1<=j/\j<=s.size/\e=.int .i64 j/\Hid (bE s (s.size+k+1-j) j=bE s s.size (k+1))) (λe=>s.size-(intOf e).toNat)
     case atStart=>exact⟨k+1,O,O,by go_num,by rw[show s.size+k+1-(k+1)=s.size by omega];rfl⟩
     case round=>
      obtain⟨j,T,U,rfl,A⟩:=hrel
      obtain⟨f2,o⟩:∃f2,s.size+k+1-j=f2+1:=⟨s.size+k-j,O⟩
      have t:Hid (s.size+k+1-j=f2+1):=o;clear o
      by_cases x:j<s.size
      cases M:Rd.isLet (s[j].toNat:Int);cases B:aY (s[j].toNat:Int)
      rotate_left
      iterate 2
       .go_wp2_with (first|(go_at_call 12;refine(uJ _ _).mono ?_;rintro e h⟨rfl,rfl⟩)|(go_at_call 13;refine(Ih _ _).mono ?_;rintro e h⟨rfl,rfl⟩))
        go_round
        case rel=>
         refine⟨j+1,O,O,by go_num,?_⟩;show bE s (s.size+k+1-(j+1)) (j+1)=_
         have e1:s.size+k+1-(j+1)=f2:=by have:=t.out;omega
         rw[e1,<-A.out,t.out]
         conv=>rhs;rw[bE,wP s j x,M];try rw[B]
         simp[x]
        case measure=>simp[intOf];omega
      all_goals
       have z:Hid (aF s k=j):=by
        show aF s k=j;rw[u.out,<-A.out,t.out,bE]
        first|(rw[wP s j x,M,B];simp;done)|(rw[decide_eq_false O];simp)
       go_wp2_with (first|(go_at_call 12;refine(uJ _ _).mono ?_;rintro e h⟨rfl,rfl⟩)|(go_at_call 13;refine(Ih _ _).mono ?_;rintro e h⟨rfl,rfl⟩)|(at_builtin;refine wpList_append_own _ rfl _ _ 34 rfl w.heap.size 40 i (.agg #[.string ⟨#[]⟩,.int .i64 0]) 2 24 underlying34 hi L g p rfl E3 _ _ _ rfl (c.alloc _) ⟨y.heap.size,0,X⟩ 1 1 [.string (s.extract k j),.int .i64 k] rfl rfl (Vt _ _ _ _) (Xq rfl rfl) (by unfold maxLen;omega) O (by simp;omega) ?_;intro P R b a m))
       go_roundw
       case rel=>exact aKi s w _ k f done _ j z.out c1 (by rw[r.out];exact c4) hd F b (qT c d q _ a) n.out
       case measure=>simp[intOf];omega
   .have c4:((s[k].toNat:Int) != 32)=I:=by simp[aY]at c2;rw[bne_iff_ne];omega
    have u:Hid (aF s k=bF s k 9 (k+1)):=by show aF s k=_;simp[aF,r.out,c2]
    go_wp2_with (first|(go_at_call 12;refine(uJ _ _).mono ?_;rintro e h⟨rfl,rfl⟩)|(go_at_call 13;refine(Ih _ _).mono ?_;rintro e h⟨rfl,rfl⟩))
    obtain⟨y,rfl⟩:∃y:World,y=wr:=⟨_,rfl⟩
    go_loop [5] (λe=>∃j:Nat,k+1<=j/\j<=k+9/\j<=s.size/\e=.int .i64 j/\Hid (bF s k (k+10-j) j=bF s k 9 (k+1))) (λe=>s.size-(intOf e).toNat)
    case atStart=>exact⟨k+1,O,O,O,by go_num,by rw[show k+10-(k+1)=9 by omega];rfl⟩
    case round=>
     obtain⟨j,T,j2,U,rfl,A⟩:=hrel
     obtain⟨f2,o⟩:∃f2,k+10-j=f2+1:=⟨k+9-j,O⟩
     have t:Hid (k+10-j=f2+1):=o;clear o
     by_cases x:j<s.size
     cases B:aY (s[j].toNat:Int)
     rotate_left
     by_cases M:(j:Int)-k<9
     .go_wp2_with (first|(go_at_call 12;refine(uJ _ _).mono ?_;rintro e h⟨rfl,rfl⟩)|(go_at_call 13;refine(Ih _ _).mono ?_;rintro e h⟨rfl,rfl⟩))
      go_round
      case rel=>
       refine⟨j+1,O,O,O,by go_num,?_⟩;show bF s k (k+10-(j+1)) (j+1)=_
       have e1:k+10-(j+1)=f2:=by have:=t.out;omega
       rw[e1,<-A.out,t.out]
       conv=>rhs;rw[bF,wP s j x,B]
       simp[x,show j-k<9 by omega]
      case measure=>simp[intOf];omega
     all_goals
      have z:Hid (aF s k=j):=by
       show aF s k=j;rw[u.out,<-A.out,t.out,bF]
       first|(rw[wP s j x,B];simp;done)|(rw[decide_eq_false O];simp)
      go_wp2_with (first|(go_at_call 12;refine(uJ _ _).mono ?_;rintro e h⟨rfl,rfl⟩)|(go_at_call 13;refine(Ih _ _).mono ?_;rintro e h⟨rfl,rfl⟩)|(at_builtin;refine wpList_append_own _ rfl _ _ 34 rfl w.heap.size 40 i (.agg #[.string ⟨#[]⟩,.int .i64 0]) 2 24 underlying34 hi L g p rfl E3 _ _ _ rfl (c.alloc _) ⟨y.heap.size,0,X⟩ 1 1 [.string (s.extract k j),.int .i64 k] rfl rfl (Vt _ _ _ _) (Xq rfl rfl) (by unfold maxLen;omega) O (by simp;omega) ?_;intro P R b a m))
      go_roundw
      case rel=>exact aKi s w _ k f done _ j z.out c1 (by rw[r.out];exact c4) hd F b (qT c d q _ a) n.out
      case measure=>simp[intOf];omega
  .obtain⟨N,D⟩:∃N,f=N+1:=⟨f-1,O⟩
   have S:Hid (Rd.split s (s.size+1) 0=done++[⟨0,⟨#[]⟩,s.size⟩]):=by
    show _=_;rw[<-n.out,D,aI6 s N k c1]
   clear D
   go_wp2_with ((at_builtin;refine wpList_append_own _ rfl _ _ 34 rfl w.heap.size 40 i (.agg #[.string ⟨#[]⟩,.int .i64 0]) 2 24 underlying34 hi L g p rfl E3 _ _ _ rfl (c.alloc _) ⟨wr.heap.size,0,X⟩ 1 1 [.string ⟨#[]⟩,.int .i64 s.size] rfl rfl (Vt _ _ _ _) (Xq rfl rfl) (by unfold maxLen;omega) O (by simp;omega) ?_;intro P R b a m))
   go_ret
   refine⟨_,rfl,?_,qT c d q _ a⟩;rw[S.out,Rd.aEm]
   simpa[Rd.dM]using b
namespace Rd
def kd:List UInt8->Int
 | []=>0
 |b::_=>kindOf (b.toNat:Int)
def txt (a:List Wd)(n:Nat):FF:=(aA a n).text.data.toList
def fF (a:List Wd):Prop:=∀n,(aA a n).kind=kd (txt a n)
def bV (t:FF):Bool:=t==[43]||t==[45]||t==[42]||t==[47]
def eO (t:FF):Bool:=t==[115,113,114,116]||t==[101,120,112]||t==[108,110,49,112]||t==[97,116,97,110]
def eT (a:List Wd)(n:Nat):Int:=valTo (aA a n).text (aA a n).text.size
def fM (b:List Wd):Nat->Nat->Bool×Nat
 |0,a=>(J,a)
 |f+1,a=>
  bif kd (txt b (a+1))==1&&!(eT b (a+1)==0)then
   bif txt b (a+2)==[93]then(I,a+2)
   else bif f==0 then(J,a+2)
   else bif txt b (a+2)==[44]then fM b f (a+2)
   else(J,a+2)
  else(J,a+1)
def eC (b:List Wd)(a:Nat):Bool×Nat:=
 bif txt b (a+1)==[91]then
  bif kd (txt b (a+2))==1 then
   bif txt b (a+3)==[59]then fM b 8 (a+3)else(J,a+3)
  else(J,a+2)
 else(J,a+1)
def follows (b:List Wd):Nat->Nat->Nat->Bool->Option (Bool×Nat)
 |0,_,_,_=>X
 |k+1,a,o,I=>
  bif txt b a==[45]then follows b k (a+1) o I
  else bif txt b a==[40]then follows b k (a+1) (o+1) I
  else bif kd (txt b a)==1||txt b a==[112,105]||txt b a==[101]then follows b k (a+1) o J
  else bif txt b a==[99,102]then
   (bif (eC b a).1 then follows b k ((eC b a).2+1) o J else Y (J,(eC b a).2))
  else bif eO (txt b a)then(bif txt b (a+1)==[40]then follows b k (a+2) (o+1) I else Y (J,a+1))
  else Y (J,a)
 |k+1,a,o,J=>
  bif bV (txt b a)then follows b k (a+1) o I
  else bif txt b a==[41]&&decide (0<o)then follows b k (a+1) (o-1) J
  else bif txt b a==[]then Y (decide (o=0),a)
  else Y (J,a)
def Stops (c:List Wd)(a o:Nat)(b:Bool)(R:Bool×Nat):Prop:=∃k,follows c k a o b=Y R
theorem nS {a:List Wd}(c:fF a)(st:St)(b:UInt8)(r:FF):tk a st ⟨(b::r).toArray⟩=(txt a st.next==b::r):=by
 unfold tk isT;rw[c];show(!(kd (txt a st.next)==0)&&txt a st.next==b::r)=_
 cases h:(txt a st.next==b::r)with
 |false=>simp
 |true=>
  have e:txt a st.next=b::r:=by simpa using h
  rw[e];simp only[kd,kindOf];grind
theorem aL5 {a:List Wd}(b:fF a)(st:St):term a st=bif kd (txt a st.next)==1&&!(eT a st.next==0)then(eT a st.next,st.aJ)else(0,st):=by
 unfold term;rw[b];show(bif kd (txt a st.next)==1 then bif eT a st.next==0 then(0,st)else(eT a st.next,st.aJ)else(0,st))=_;grind
theorem aNl {b:List Wd}(d:fF b):∀f c g st res a,c+f=9->terms b f c g st=Y (res,a)->
  (match res with
   |none=>fM b f (st.next-1)=(J,a.next)
   |some _=>fM b f (st.next-1)=(I,a.next-1)/\0<a.next)\/st.next=0:=by
 intro f
 induction f with
 |zero=>intro c g st res a _ h;cases h
 |succ f n=>
  intro c g st res a hc h
  by_cases o:st.next=0
  .omega
  left
  have e1:st.next-1+1=st.next:=O
  have e2:st.next-1+2=st.next+1:=O
  rw[terms]at h;rw[fM,e1,e2]
  cases k:(st.okB&&(term b st).2.okB)with
  |false=>rw[k]at h;cases h
  |true=>
   rw[k,aL5 d]at h
   cases hv:(kd (txt b st.next)==1&&!(eT b st.next==0))with
   |false=>
    grind
   |true=>
    have e:(eT b st.next==0)=J:=by
     grind
    rw[hv]at h;simp at h ⊢;rw[e,nS d,nS d]at h;have en:st.aJ.next=st.next+1:=rfl;rw[en]at h
    cases i:(txt b (st.next+1)==[93])with
    |true=>
     simp only[i,B9]at h;obtain⟨rfl,rfl⟩:=h;exact⟨by simp[St.aJ],by simp[St.aJ]⟩
    |false=>
     simp only[i]at h ⊢
     cases j:(c==8)with
     |true=>
      grind
     |false=>
      have m:(f==0)=J:=by simp at j ⊢;omega
      simp only[j]at h;simp only[m]
      cases l:(txt b (st.next+1)==[44])with
      |false=>
       simp at h;grind
      |true=>
       simp only[l]at h ⊢;have:=n (c+1) _ _ res a O h
       rcases this with h4|h4
       .exact h4
       .simp[St.aJ]at h4
theorem aGn {b:List Wd}(f:fF b)(a:Nat)(st:St)(res:Option Tr)(c:St)(e:st.next=a+1)(h:continued b st=Y (res,c)):
  match res with
  |none=>eC b a=(J,c.next)
  |some _=>eC b a=(I,c.next-1)/\0<c.next:=by
 unfold continued at h;unfold eC;rw[<-e]
 cases g:(decide (st.next<900)&&st.okB)with
 |false=>rw[g]at h;cases h
 |true=>
  rw[g,nS f,nS f,f]at h
  have e1:st.aJ.next=a+2:=by simp[St.aJ,e]
  have e2:st.aJ.aJ.next=a+3:=by simp[St.aJ,e]
  rw[e1,e2]at h
  cases j:(txt b st.next==[91])with
  |false=>
   grind
  |true=>
   simp only[j,cond_true]at h ⊢
   cases k:(kd (txt b (a+2))==1)with
   |false=>
    grind
   |true=>
    simp only[k,cond_true]at h ⊢
    cases l:(txt b (a+3)==[59])with
    |false=>
     grind
    |true=>
     simp only[l]at h ⊢;generalize m:terms b 8 1 [valTo (aA b (a+2)).text (aA b (a+2)).text.size] st.aJ.aJ.aJ=R at h
     have i:st.aJ.aJ.aJ.next-1=a+3:=by simp[St.aJ,e]
     cases R with
     |none=>cases h
     |some y=>
      have⟨r,s2⟩:=y;have:=aNl f 8 1 _ _ r s2 O m;rw[i]at this
      rcases this with h4|h4
      .cases r with
       |none=>
        obtain⟨rfl,rfl⟩:=h;exact h4
       |some n=>
        simp only[lG]at h
        cases d:s2.okB with
        |false=>rw[d]at h;cases h
        |true=>
         simp only[d,B9]at h;obtain⟨rfl,rfl⟩:=h;exact h4
      .simp[St.aJ]at h4
end Rd
theorem aUD (t:ByteArray):Rd.eO t.data.toList=(t.toList==[115,113,114,116]||t.toList==[101,120,112]||t.toList==[108,110,49,112]||t.toList==[97,116,97,110]):=by
 rw[A5];rfl
theorem aDh (t:ByteArray)(w:World):
  Calls prog 16 #[.string t] w λe w'=>e=.returned (.bool (Rd.eO t.data.toList))/\w=w':=by
 rw[aUD];cases a:(t.toList==[115,113,114,116])
 all_goals cases b:(t.toList==[101,120,112])
 all_goals cases c:(t.toList==[108,110,49,112])
 all_goals
  go_wp2
  go_ret
  exact⟨rfl,rfl⟩
def nT (t:ByteArray):Prop:=∀k,k<t.size->aY (aQ t k)=I
theorem Wc (t:ByteArray)(w:World)(j:t.size<=9)(hd:nT t):
  Calls prog 19 #[.string t] w λe w'=>e=.returned (.int .i64 (Rd.valTo t t.size))/\Below w.heap.size w w':=by
 have f:Hid (nT t):=hd
 go_in
 go_wp2_with fail
 go_loopg [3] t.size (λn v wr=>∃k:Nat,k+n=t.size/\v=.int .i64 (Rd.valTo t k)/\wr=w.iter t k)
 case atStart=>exact⟨0,O,rfl,rfl⟩
 case round=>
  obtain⟨k,h,rfl,i⟩:=hrel;have c:Hid (k+gk=t.size):=h;have l:=Rd.Rm t k;have m:=Rd.Yb t k O
  by_cases c1:k<t.size
  .have b:=f.out k c1;rw[wP t k c1]at b
   have b0:48<=(t[k].toNat:Int):=by simp[aY]at b;omega
   have b1:(t[k].toNat:Int)<=57:=by simp[aY]at b;omega
   have d:Hid (aY (t[k].toNat:Int)=I):=b
   have a:=λty=>run_next_ascii (P:=prog) w t k ty c1 O
   go_wp2_with fail
   go_roundg (gk-1)
   case measure=>have:=c.out;omega
   case rel=>exact⟨k+1,by have:=c.out;omega,by rw[Rd.valTo,wP t k c1,d.out];simp;omega,rfl⟩
  .have a:=λty=>run_next_end (P:=prog) w t k ty c1
   go_wp2_with fail
   go_ret
   exact⟨Iu (by rw[show k=t.size by have:=c.out;omega]),(Below.refl _ _).alloc O _⟩
structure RRd (w:World) (rb g cap:Nat) (ws:List Rd.Wd) (n:Nat):Prop where
 rd:w.heap[rb]?=Y (.cells #[.slice (Y ⟨g,0,X⟩) ws.length cap,.int .i64 n] 37 (0,0))
 row:∃cur,w.heap[g]?=Y (.cells cur 40 (0,0))/\cur.toList.take (ws.length*2)=Rd.dM ws
 ne:g≠rb
section
variable {w w':World} {rb g cap:Nat} {ws:List Rd.Wd} {n:Nat}
theorem RRd.lt (h:RRd w rb g cap ws n):rb<w.heap.size:=cZ h.rd
theorem RRd.glt (h:RRd w rb g cap ws n):g<w.heap.size:=by have⟨cur,h1,_⟩:=h.row;exact cZ h1
theorem RRd.keep {a:Nat}(h:RRd w rb g cap ws n)(b:Keep rb w w')(c:w'.heap[rb]?=Y (.cells #[.slice (Y ⟨g,0,X⟩) ws.length cap,.int .i64 a] 37 (0,0))):RRd w' rb g cap ws a:=by
 have⟨cur,h1,h2⟩:=h.row;exact⟨c,⟨cur,by rw[b.block g (cZ h1) h.ne];exact h1,h2⟩,h.ne⟩
theorem RRd.below (h:RRd w rb g cap ws n)(a:Below w.heap.size w w'):RRd w' rb g cap ws n:=
 h.keep (Keep.cQ a) (by rw[a.block rb h.lt];exact h.rd)
theorem RRd.c0 (h:RRd w rb g cap ws n):w.cell? ⟨rb,0,X⟩=Y (.slice (Y ⟨g,0,X⟩) ws.length cap):=aB h.rd rfl
theorem RRd.c1 (h:RRd w rb g cap ws n):w.cell? ⟨rb,1,X⟩=Y (.int .i64 n):=aB h.rd rfl
theorem RRd.fz (h:RRd w rb g cap ws n)(o:Nat):w.frozen? ⟨rb,o,X⟩=J:=dP h.rd
theorem RRd.alloc (h:RRd w rb g cap ws n)(o:Obj):RRd (w.alloc o) rb g cap ws n:=h.below ((Below.refl _ _).alloc O o)
theorem RRd.gK (h:RRd w rb g cap ws n)(k:Nat){m:Int}(a:m=(k:Int)):RRd (w.setCell ⟨rb,1,X⟩ (.int .i64 m)) rb g cap ws k:=
 h.keep ((Keep.refl _ _).setCell 1 _) (by subst a;rw[nQ h.rd];rfl)
end
theorem sQ {w:World}{g:Nat}{ws:List Rd.Wd}(h:∃c,w.heap[g]?=Y (.cells c 40 (0,0))/\c.toList.take (ws.length*2)=Rd.dM ws)(n:Nat)(d:n<ws.length):
  w.cell? ⟨g,n*2,X⟩=Y (.string (Rd.aA ws n).text)/\w.cell? ⟨g,n*2+1,X⟩=Y (.int .i64 (Rd.aA ws n).pos):=by
 have⟨c,h1,h2⟩:=h
 have e:∀i v,i<ws.length*2->(Rd.dM ws)[i]?=Y v->w.cell? ⟨g,i,X⟩=Y v:=by
  intro i v hi hv;refine aB h1 ?_;grind
 have⟨a,b⟩:=Rd.aPR ws n d;grind
theorem Sf (w:World)(rb g cap:Nat)(ws:List Rd.Wd)(n:Nat)(h:RRd w rb g cap ws n)(a:n<ws.length):
  Calls prog 14 #[.pointer (Y ⟨rb,0,X⟩)] w λe w'=>e=.returned (.string (Rd.aA ws n).text)/\Below w.heap.size w w':=by
 have c0:=h.c0;have c1:=h.c1;have⟨e0,_⟩:=sQ h.row n a
 go_in
 go_wp2_with fail
 go_quiet (fail)
 go_wp2_with fail
 go_ret
 exact⟨rfl,below_drewN (Below.refl _ _) _⟩
namespace Rd
open Go.Deep (BT)
def aT (k:Int):Int:=bif k==6||k==7 then 1 else bif k==8||k==9 then 2 else bif k==5 then 3 else 4
def sym (k:Int):FF:=
 bif k==2 then [112,105]else bif k==3 then [101]else bif k==4 then [99,102]else bif k==10 then [115,113,114,116]
 else bif k==11 then [101,120,112]else bif k==12 then [108,110,49,112]else bif k==13 then [97,116,97,110]
 else bif k==6 then [43]else bif k==5||k==7 then [45]else bif k==8 then [42]else bif k==9 then [47]else []
def kW (b:Bool)(x:FF):FF:=bif b then 40::(x++[41])else x
def cL:Tr->Int
 |.nil=>0
 |.node _ _ a _ _=>a.1
def dec (v:Int):FF:=C3 v.toNat
def sep (k:Nat):FF:=bif k==0 then []else bif k==1 then [59,32]else [44,32]
def dY (a:LB):Nat->List UInt8
 |0=>[99,102,91]
 |k+1=>dY a k++(sep k++dec (a.getD k 0))
def jN (a:LB):FF:=dY a a.length++[93]
def oQ (a:Int×Int×List Int)(b c:Int)(x y:FF):FF:=
 bif a.1==1 then dec a.2.1
 else bif a.1==4 then jN a.2.2
 else bif a.1==5 then 45::kW (decide (aT b<3)) x
 else bif decide (10<=a.1/\a.1<=13)then sym a.1++40::(x++[41])
 else bif decide (6<=a.1/\a.1<=9)then kW (decide (aT b<aT a.1)) x++32::(sym a.1++32::kW (decide (aT c<aT a.1+1)) y)
 else sym a.1
def text:Tr->List UInt8
 |.nil=>[]
 |.node _ _ a l r=>oQ a (cL l) (cL r) (text l) (text r)
def cW (v:Int):Prop:=0<=v/\v<1000000000
def Wf:Tr->Prop
 |.nil=>False
 |.node _ _ a l r=>
  (a.1=1/\cW a.2.1/\a.2.2=[]/\l=.nil/\r=.nil)\/
  ((a.1=2\/a.1=3)/\a.2.1=0/\a.2.2=[]/\l=.nil/\r=.nil)\/
  (a.1=4/\(∀x∈a.2.2,cW x)/\2<=a.2.2.length/\a.2.2.length<=9/\a.2.1=0/\l=.nil/\r=.nil)\/
  ((a.1=5\/a.1=10\/a.1=11\/a.1=12\/a.1=13)/\Wf l/\a.2.2=[]/\r=.nil)\/
  ((a.1=6\/a.1=7\/a.1=8\/a.1=9)/\Wf l/\Wf r/\a.2.2=[])
def iS:Tr->Nat
 |.nil=>0
 |.node _ _ _ l r=>iS l+iS r+1
theorem Ft {v:Int}(h:cW v):(dec v).length<=9:=by
 unfold dec;rw[Lib.decDigits_length]
 have a:v.toNat<1000000000:=by have:=h.2;omega
 generalize v.toNat=u at a
 have c:∀k u,u<10^(k+1)->Lib.nDigits u<=k+1:=by
  intro k
  induction k with
  |zero=>intro u h;rw[Lib.nDigits_small (by simpa using h)];omega
  |succ k d=>
   intro u h
   by_cases b:u<10
   .grind
   .rw[Lib.nDigits_big b];grind
 simp_all
theorem aVq (k:Nat):(sep k).length<=2:=by grind [sep]
theorem Yt (k:Int):(sym k).length<=4:=by
 unfold sym
 cases k==2<;>cases k==3<;>cases k==4<;>cases k==10<;>cases k==11<;>cases k==12<;>cases k==13<;>((simp))<;>cases k==6<;>((simp))<;>cases k==5<;>cases k==7<;>cases k==8<;>cases k==9<;>simp
variable {a:LB}
theorem Rv (h:∀x∈a,cW x)(k:Nat):cW (a.getD k 0):=by grind [cW]
theorem Vn (h:∀x∈a,cW x):∀k,(dY a k).length<=3+11*k:=by
 intro k
 induction k with
 |zero=>simp[dY]
 |succ k b=>
  have:=Ft (Rv h k);have:=aVq k;simp only[dY,List.length_append];omega
theorem Ru (b:Bool)(x:FF):(kW b x).length<=x.length+2:=by
 cases b<;>simp[kW]
theorem Kh:∀t,Wf t->(text t).length<=200*iS t:=by
 intro t
 induction t with
 |nil=>intro h;exact h.elim
 |node p q a l r d f=>
  intro h;obtain⟨k,v,j⟩:=a;simp only[text,iS]
  rcases h with⟨b,c,_⟩|⟨b,_⟩|⟨b,c,_,e,_⟩|⟨b,c,_,e⟩|⟨b,c,e,_⟩
  .simp only at b c;subst b;have:=Ft c;simp only[oQ,beq_self_eq_true,cond_true];omega
  .simp only at b
   rcases b with rfl|rfl
   .simp only[oQ,sym];simp;omega
   .simp only[oQ,sym];simp;omega
  .simp only at b c e;subst b;have:=Vn c j.length;simp only[oQ,jN];simp;omega
  .simp only at b;have i:=d c;have s:=Yt k;have b1:=Ru (decide (aT (cL l)<3)) (text l)
   rcases b with rfl|rfl|rfl|rfl|rfl<;>(simp only[oQ];simp;omega)
  .simp only at b;have i:=d c;have m:=f e;have s:=Yt k;have b1:=Ru (decide (aT (cL l)<aT k)) (text l);have g:=Ru (decide (aT (cL r)<aT k+1)) (text r)
   rcases b with rfl|rfl|rfl|rfl<;>(simp only[oQ];simp at b1 g ⊢;omega)
end Rd
namespace Nm
def val (B:Int):List Int->Int
 | []=>0
 |d::r=>d+B*val B r
def bZ (B:Int)(l:LB):Prop:=∀d∈l,0<=d/\d<B
def Top (l:LB):Prop:=∀(h:l≠[]),l.getLast h≠0
def at' (l:LB)(i:Nat):Int:=l.getD i 0
theorem aVM (B:Int):val B []=0:=rfl
theorem Wh (B:Int):∀l r,val B (l++r)=val B l+B^l.length*val B r:=by
 intro l r
 induction l with
 |nil=>simp[val]
 |cons d l a=>simp only[List.cons_append,val];grind
theorem Ev (B:Int)(l:LB)(d:Int):val B (l++[d])=val B l+d*B^l.length:=by
 rw[Wh];simp only[val];grind
theorem wU (B:Int)(l:LB)(i:Nat):val B (l.take (i+1))=val B (l.take i)+at' l i*B^i:=by
 rcases A7 i l.length with h|h
 .rw[j8 h,Ev,j9,A8 O];unfold at';grind
 .rw[o9 O,o9 h];unfold at';grind
theorem zY (B:Int)(l:LB){i:Nat}(h:l.length<=i):val B (l.take i)=val B l:=by
 rw[o9 h]
theorem aQL (B:Int):∀(l:LB) (k:Nat) (x:Int),k<l.length->val B (l.set k x)=val B l+(x-at' l k)*B^k:=by
 intro l
 induction l with
 |nil=>intro k x h;simp at h
 |cons d l a=>
  intro k x h
  cases k with
  |zero=>simp[val,at'];grind
  |succ k=>
   have:=a k x (by simpa using h);simp only[List.set_cons_succ,val,this,at'];grind
theorem bZ.nil (B:Int):bZ B []:=λd h=>by cases h
variable {n d:Int}{l:LB}
theorem bZ.cons (a:0<=d)(b:d<n)(h:bZ n l):bZ n (d::l):=by grind [bZ]
theorem bZ.snoc (h:bZ n l)(a:0<=d)(b:d<n):bZ n (l++[d]):=by grind [bZ]
theorem bZ.take {n:Int}{l:LB}(h:bZ n l)(a:Nat):bZ n (l.take a):=λd hd=>h d (List.mem_of_mem_take hd)
theorem bZ.set {n:Int}{l:LB}(h:bZ n l)(k:Nat){x:Int}(a:0<=x)(b:x<n):bZ n (l.set k x):=by grind [bZ]
theorem bZ.at' {B:Int}{l:LB}(a:0<B)(h:bZ B l)(i:Nat):0<=at' l i/\at' l i<B:=by
 unfold Nm.at';rw[p5]
 cases b:l[i]? with
 |none=>exact⟨s7 _,a⟩
 |some x=>exact h x (List.mem_of_getElem? b)
theorem bZ.jO (b:0<n)(a:Nat):bZ n (p6 a 0):=by grind [bZ]
theorem Xc (B:Int)(n:Nat):val B (p6 n 0)=0:=by
 induction n with
 |zero=>rfl
 |succ n a=>rw[List.replicate_succ,val,a];simp
variable {B:Int}
theorem nF (a:0<B)(n:Nat):0<B^n:=Int.pow_pos a
theorem oY (a:0<B):∀{l},bZ B l->0<=val B l:=by
 intro l
 induction l with
 |nil=>intro _;exact s7 _
 |cons d l c=>
  intro h;have e:=h d p8;have:=s8 (u5 a) (c (λx b=>h x (q8 _ b)));simp only[val];omega
theorem vC (f:0<B):∀{l},bZ B l->val B l<B^l.length:=by
 intro l
 induction l with
 |nil=>intro _;simp[val]
 |cons d l b=>
  intro h;have c:=b (λx a=>h x (q8 _ a));have e:=h d p8;have:B*(val B l+1)<=B*B^l.length:=u6 O O;rw[Int.mul_add,Int.mul_one,Int.mul_comm B (B^l.length)]at this;simp only[val,List.length_cons,u7];omega
def strip (l:LB):LB:=(l.reverse.dropWhile (·==0)).reverse
theorem Nu (l:LB):strip (l++[0])=strip l:=by simp[strip]
theorem Od (l:LB)(h:d≠0):strip (l++[d])=l++[d]:=by simp[strip,h]
theorem Xv {p:List Int->Prop}(a:p [])(b:∀l d,p l->p (l++[d])):∀l,p l:=by
 intro l;rw[<-List.reverse_reverse l]
 induction l.reverse with
 |nil=>exact a
 |cons d r c=>rw[List.reverse_cons];exact b _ _ c
theorem uZ (B:Int):∀l,val B (strip l)=val B l:=by
 refine Xv rfl ?_;intro l d a
 by_cases h:d=0
 .subst h;rw[Nu,a,Ev];simp
 .rw[Od l h]
theorem wQ:∀l,(strip l).length<=l.length:=by
 refine Xv (A6 _) ?_;intro l d a
 by_cases h:d=0
 .subst h;rw[Nu];simp;omega
 .rw[Od l h];exact A6 _
theorem aEQ:∀l,strip l=l.take (strip l).length:=by
 refine Xv rfl ?_;intro l d a
 by_cases h:d=0
 .subst h;rw[Nu,List.take_append_of_le_length (wQ l)];exact a
 .rw[Od l h,q9]
theorem bZ.strip {n:Int}{l:LB}(h:bZ n l):bZ n (strip l):=by
 rw[aEQ];exact h.take _
theorem aQA:∀l,Top (strip l):=by
 refine Xv ?_ ?_
 .intro h;exact absurd rfl h
 .intro l d a
  by_cases h:d=0
  .subst h;rw[Nu];exact a
  .rw[Od l h];intro _;simpa using h
theorem Top.nil:Top []:=λh=>absurd rfl h
theorem aL6 (h:d≠0):Top (l++[d]):=by intro _;simpa using h
structure Good (B:Int) (l:LB):Prop where
 cP:bZ B l
 top:Top l
theorem Good.nil (B:Int):Good B []:=⟨bZ.nil B,Top.nil⟩
theorem wR (h:bZ n l):Good n (strip l):=⟨h.strip,aQA l⟩
theorem aEI (h:Good n l):l=[]\/∃r d,l=r++[d]/\bZ n r/\1<=d/\d<n:=by
 rcases List.eq_nil_or_concat l with a|⟨r,d,a⟩
 .simp_all
 .refine C4 ⟨r,d,by rw[a];simp,λx b=>h.cP x (by rw[a];simp[b]),?_⟩;have c:=h.cP d (by rw[a];simp);have e:=h.top (by rw[a];simp);grind
theorem Ov (a:0<n)(h:Good n l)(f:l≠[]):n^(l.length-1)<=val n l:=by
 rcases aEI h with rfl|⟨r,d,rfl,b,hd,_⟩
 .simp_all
 .rw[Ev];have c:=oY a b;have e:=u9 hd (u5 (nF a r.length));grind
theorem yQ (b:0<n)(h:Good n l):val n l=0↔l=[]:=by
 constructor
 .intro a
  by_cases c:l=[]
  .exact c
  .have d:=Ov b h c;have:=nF b (l.length-1);omega
 .intro a;rw[a];rfl
theorem sP (b:1<=B){w n:Nat}(h:w<=n):B^w<=B^n:=by
 obtain⟨k,rfl⟩:=Nat.exists_eq_add_of_le h;rw[x8]
 have a:1<=B^k:=by have:=nF (B:=B) O k;omega
 have:=u6 a (u5 (nF (B:=B) O w));omega
variable {a b:LB}
theorem Kb (d:1<=n)(e:bZ n a)(f:Good n b)(h:a.length<b.length):val n a<val n b:=by
 have g:=vC O e;have i:=Ov O f (by intro c;rw[c]at h;simp at h);have j:=sP d (show a.length<=b.length-1 by omega);omega
theorem Yi (m:1<=n)(c:bZ n a)(e:bZ n b)(i:Nat)(g:a.drop (i+1)=b.drop (i+1))(h:at' a i<at' b i)(d:i<a.length)(f:i<b.length):val n a<val n b:=by
 have e1:val n a=val n (a.take (i+1))+n^(i+1)*val n (a.drop (i+1)):=by
  conv=>lhs;rw[<-r5 (i+1) a,Wh,j9,A8 O]
 have e2:val n b=val n (b.take (i+1))+n^(i+1)*val n (b.drop (i+1)):=by
  conv=>lhs;rw[<-r5 (i+1) b,Wh,j9,A8 O]
 rw[e1,e2,g,wU,wU];have j:=vC O (c.take i);have k:=oY O (e.take i);have l:(at' a i+1)*n^i<=at' b i*n^i:=u9 O (u5 (nF O i));grind
theorem aK6 (a:2<=n)(h:Good n l){w:Nat}(hv:val n l<2^w):l.length<=w:=by
 by_cases b:l=[]
 .simp_all
 .have d:=Ov O h b
  have e:(2:Int)^(l.length-1)<=n^(l.length-1):=by
   generalize l.length-1=k
   induction k with
   |zero=>simp
   |succ k c=>
    rw[u7,u7];exact y8 c a O (u5 (nF O k))
  rcases A7 w l.length with h3|h3
  .have f:=sP (B:=2) O (show w<=l.length-1 by omega);omega
  .exact h3
end Nm
namespace Rd
def rA (x:Nat):UInt8:=UInt8.ofNat (48+x%10)
def inner (last:Bool):Nat->Nat->List UInt8->List UInt8
 |0,_,t=>t
 |c+1,x,t=>inner last c (x/10) (bif decide (0<x) || !last then rA x::t else t)
def tL:List Int->List UInt8->List UInt8
 | [],t=>t
 |x::r,t=>tL r (inner r.isEmpty 4 x.toNat t)
def fix:Nat->Nat->List UInt8
 |0,_=>[]
 |c+1,x=>fix c (x/10)++[rA x]
theorem aOT:∀c x t,inner J c x t=fix c x++t:=by
 intro c
 induction c with
 |zero=>intro x t;rfl
 |succ c a=>
  intro x t;rw[inner,a,fix];simp
theorem aMI:∀c t,inner I c 0 t=t:=by
 intro c
 induction c with
 |zero=>intro t;rfl
 |succ c a=>intro t;exact a t
theorem aOS:∀c x t,0<x->x<10^c->inner I c x t=C3 x++t:=by
 intro c
 induction c with
 |zero=>intro x t a b;omega
 |succ c d=>
  intro x t a b;rw[inner,decide_eq_true a,C3]
  by_cases h:x<10
  .rw[dif_pos h,Nat.div_eq_of_lt h,aMI,rA,Nat.mod_eq_of_lt h];rfl
  .rw[dif_neg h,d (x/10) _ O (by rw[A9]at b;omega)];simp[rA]
theorem aOf:∀c h lo,0<h->lo<10^c->C3 (h*10^c+lo)=C3 h++fix c lo:=by
 intro c
 induction c with
 |zero=>intro h lo a b;simp at b;subst b;simp[fix]
 |succ c i=>
  intro h lo a b;have g:1<=10^c:=Nat.one_le_pow _ _ E3
  have e:h*10^(c+1)+lo=(h*10^c+lo/10)*10+lo%10:=by
   rw[A9,<-Nat.mul_assoc];omega
  rw[e];have d:=Nat.mul_pos a g
  have hd:((h*10^c+lo/10)*10+lo%10)/10=h*10^c+lo/10:=O
  have f:((h*10^c+lo/10)*10+lo%10)%10=lo%10:=O
  rw[C3,dif_neg O,hd,f,i h (lo/10) a O,fix,rA,List.append_assoc]
end Rd
def Nm.text (z:Int):FF:=(bif decide (z<0)then [45]else [])++C3 z.natAbs
variable {t:ByteArray}
theorem Qj (h:0<t.size):(t.toList==[])=J/\t.toList.isEmpty=J:=by
 rw[A5];have⟨d⟩:=t;have⟨l⟩:=d
 cases l with
 |nil=>exact absurd h (by simp[ByteArray.size])
 |cons b r=>exact⟨rfl,rfl⟩
def sI (a:List Rd.Wd):Prop:=0<a.length/\∀n,Rd.txt a n≠[]->n+1<a.length
def mG (a:List Rd.Wd):Prop:=∀n,Rd.kd (Rd.txt a n)=1->(Rd.aA a n).text.size<=9/\nT (Rd.aA a n).text
variable {w:Nat}{v:World}
theorem aMk {b:Nat}{s:World}{o:Obj}(a:Keep w v s)(h:v.heap[b]?=Y o)(c:b≠w):s.heap[b]?=Y o:=by
 rw[a.block b (cZ h) c];exact h
theorem bA {p:Prop}(h:p):Hid p:=h
theorem Kl (h:¬0<t.size):t=⟨#[]⟩:=by
 obtain⟨d⟩:=t
 have:d.size=0:=by have:¬0<d.size:=h;omega
 rw[Array.eq_empty_of_size_eq_zero this]
theorem Og (h:0<t.size):(Rd.kd t.data.toList==1)=aY (t[0].toNat:Int):=by
 obtain⟨d⟩:=t;obtain⟨l⟩:=d
 cases l with
 |nil=>exact absurd h (by simp[ByteArray.size])
 |cons b r=>
  show(Rd.kindOf (b.toNat:Int)==1)=aY (b.toNat:Int);unfold Rd.kindOf
  cases aY (b.toNat:Int)<;>cases Rd.isLet (b.toNat:Int)<;>rfl
variable {M:List Rd.Wd}
theorem aTD {c:FF}{b:Bool}(h:((Rd.aA M w).text.toList==c)=b):(Rd.txt M w==c)=b:=by
 rw[A5]at h;exact h
def Gx (d g c:Nat)(b:List Rd.Wd)(a:Nat)(w:World)(i:Value)(wr:World):Prop:=
 ∃k:Nat,k<=3/\i=.int .i64 k/\RRd wr d g c b (a+k)/\a+k<b.length/\Keep d w wr/\(k<3->Rd.txt b (a+k)≠[])/\(1<=k->(Rd.txt b (a+1)==[91])=I)/\(2<=k->(Rd.kd (Rd.txt b (a+2))==1)=I)/\(3<=k->(Rd.txt b (a+3)==[59])=I)
def tJ (e g b:Nat)(d:List Rd.Wd)(w:World)(R:Bool×Nat)(i:Value)(wr:World):Prop:=
 ∃(c a:Nat),i=.int .i64 c/\1<=c/\c<=8/\RRd wr e g b d a/\Rd.txt d a≠[]/\Keep e w wr/\Rd.fM d (9-c) a=R
variable {t:FF}
theorem Zg {b:UInt8}{r:FF}(h:(t==b::r)=I):t≠[]:=by
 intro e;rw[e]at h;cases h
theorem aUG (h:(Rd.kd t==1)=I):t≠[]:=by
 intro e;rw[e]at h;cases h
theorem aP2 (w:World)(C g p:Nat)(d:List Rd.Wd)(a:Nat)(h:RRd w C g p d a)(hl:d.length<=121)(he:sI d)(hd:mG d)(ha:Rd.txt d a≠[]):
  Calls prog 15 #[.pointer (Y ⟨C,0,X⟩)] w λe U=>e=.returned (.bool (Rd.eC d a).1)/\RRd U C g p d (Rd.eC d a).2/\Keep C w U:=by
 have bx:=h.lt;have a8:=he.2 a ha;have HE:Hid (sI d):=he;have HD:Hid (mG d):=hd;have HA:Hid (Rd.txt d a≠[]):=ha;have q:Keep C w (w.alloc (.cells #[.string ⟨#[91]⟩,.string ⟨#[48]⟩,.string ⟨#[59]⟩] 9)):=(Keep.refl _ _).alloc _;clear he hd ha
 go_in
 go_wp2_with fail
 go_loopw [11] (λi wr=>Gx C g p d a (w.alloc (.cells #[.string ⟨#[91]⟩,.string ⟨#[48]⟩,.string ⟨#[59]⟩] 9)) i wr) (λi _=>3-(intOf i).toNat)
 case atStart=>exact⟨0,O,rfl,h.alloc _,O,Keep.refl _ _,λ_=>HA.out,λh=>by omega,λh=>by omega,λh=>by omega⟩
 case round=>
  obtain⟨k,hk,rfl,hR,be,hK,q0,q1,q2,q3⟩:=hrel;have z:=aMk (b:=w.heap.size) hK (lE _ _) O;have x0:wr.cell? ⟨w.heap.size,0,X⟩=Y (.string ⟨#[91]⟩):=aB z rfl;have x1:wr.cell? ⟨w.heap.size,1,X⟩=Y (.string ⟨#[48]⟩):=aB z rfl;have x2:wr.cell? ⟨w.heap.size,2,X⟩=Y (.string ⟨#[59]⟩):=aB z rfl;have d1:=hR.c1;have f1:=hR.fz 1;have l1:=hR.lt;have au:=q.trans hK;have Q0:=bA q0;have T:=bA q1;have Q2:=bA q2;have Q3:=bA q3;clear z q0 q1 q2 q3 h
  by_cases bd:k=3
  rotate_left
  .have P:a+k+1<d.length:=HE.out.2 (a+k) (Q0.out O);have ax:=hR.gK (m:=(↑(a+k)+1)) (a+k+1) E4;have S:=bA (Sf _ C g p d (a+k+1) ax P)
   have UT:Hid (∀c b,((Rd.aA d (a+k+1)).text.toList==c)=b->(Rd.txt d (a+k+1)==c)=b):=λc b h=>aTD h
   have UK:Hid (Rd.kd (Rd.txt d (a+k+1))=Rd.kd (Rd.aA d (a+k+1)).text.data.toList):=rfl;generalize (Rd.aA d (a+k+1)).text=t at*
   by_cases R:0<t.size
   case' pos=>
    obtain⟨z1,z2⟩:=Qj R;have UF:=bA (Og R)
   case' neg=>
    have ah:=Kl R;subst ah;clear R
   all_goals rcases(show k=0\/k=1\/k=2 by omega)with rfl|rfl|rfl
   rotate_left 3
   cases u:(t.toList==[91])
   rotate_left 2
   cases u:aY (t[0].toNat:Int)
   rotate_left 2
   cases u:(t.toList==[59])
   all_goals
    go_wp2_with fail
    refine(S.out).mono ?_;rintro e w1⟨rfl,r⟩;have l:=bA (ax.below r);have j:=bA ((hK.setCell 1 _).trans (Keep.cQ r))
    go_wp2_with (go_at_call 12;refine(uJ _ _).mono ?_;rintro e U⟨rfl,rfl⟩)
   .go_ret
    rw[Rd.eC,T.out O,Q2.out O,show(Rd.txt d (a+3)==[59])=J from UT.out _ _ u];exact⟨rfl,l.out,q.trans j.out⟩
   .go_roundw
    case rel=>exact⟨3,O,by go_num,l.out,P,j.out,λh=>by omega,λ_=>T.out O,λ_=>Q2.out O,λ_=>UT.out _ _ u⟩
    case measure=>simp[intOf]
   .go_ret
    rw[Rd.eC,show(Rd.txt d (a+1)==[91])=J from UT.out [91] J (by rw[A5];rfl)];exact⟨rfl,l.out,q.trans j.out⟩
   .go_ret
    rw[Rd.eC,T.out O,show(Rd.kd (Rd.txt d (a+2))==1)=J by rw[show Rd.kd (Rd.txt d (a+2))=_ from UK.out];rfl];exact⟨rfl,l.out,q.trans j.out⟩
   .go_ret
    rw[Rd.eC,T.out O,Q2.out O,show(Rd.txt d (a+3)==[59])=J from UT.out [59] J (by rw[A5];rfl)];exact⟨rfl,l.out,q.trans j.out⟩
   .go_ret
    rw[Rd.eC,show(Rd.txt d (a+1)==[91])=J from UT.out _ _ u];exact⟨rfl,l.out,q.trans j.out⟩
   .have e1:=UT.out _ _ u
    go_roundw
    case rel=>exact⟨1,O,by go_num,l.out,P,j.out,λ_=>Zg e1,λ_=>e1,λh=>by omega,λh=>by omega⟩
    case measure=>simp[intOf]
   .go_ret
    rw[Rd.eC,T.out O,show(Rd.kd (Rd.txt d (a+2))==1)=J by rw[show Rd.kd (Rd.txt d (a+2))=_ from UK.out,UF.out,u]];exact⟨rfl,l.out,q.trans j.out⟩
   .have e1:(Rd.kd (Rd.txt d (a+2))==1)=I:=by rw[show Rd.kd (Rd.txt d (a+2))=_ from UK.out,UF.out,u]
    go_roundw
    case rel=>exact⟨2,O,by go_num,l.out,P,j.out,λ_=>aUG e1,λ_=>T.out O,λ_=>e1,λh=>by omega⟩
    case measure=>simp[intOf]
  .subst bd
   have an:Hid (Rd.eC d a=Rd.fM d 8 (a+3)):=by
    show _=_;rw[Rd.eC,T.out O,Q2.out O,Q3.out O];rfl
   have QN:Hid (Rd.txt d (a+3)≠[]):=Zg (Q3.out O);clear Q0 T Q2 Q3 x0 x1 x2 d1 f1 hK HA a8 be q l1
   go_wp2_with fail
   obtain⟨wo,rfl⟩:∃wo:World,wo=wr:=⟨_,rfl⟩
   go_loopw [7] (λi wr=>tJ C g p d w (Rd.eC d a) i wr) (λi _=>9-(intOf i).toNat)
   case atStart=>exact⟨1,a+3,rfl,O,O,hR,QN.out,au,an.out.symm⟩
   case round=>
    obtain⟨c,b,rfl,c1,c8,hB,hne,B,L⟩:=hrel;have a9:=HE.out.2 b hne
    obtain⟨f,hf⟩:∃f,9-c=f+1:=⟨8-c,O⟩
    rw[hf,Rd.fM]at L;have HF:Hid (9-c=f+1):=hf;have n:=bA L;have d1:=hB.c1;have f1:=hB.fz 1;have x:=hB.gK (m:=(↑b+1)) (b+1) E4;have S:=bA (Sf _ C g p d (b+1) x a9);have UK:Hid (Rd.kd (Rd.txt d (b+1))=Rd.kd (Rd.aA d (b+1)).text.data.toList):=rfl;have UV:Hid (Rd.eT d (b+1)=Rd.valTo (Rd.aA d (b+1)).text (Rd.aA d (b+1)).text.size):=rfl;have UD:Hid (Rd.kd (Rd.txt d (b+1))=1->(Rd.aA d (b+1)).text.size<=9/\nT (Rd.aA d (b+1)).text):=HD.out (b+1);generalize (Rd.aA d (b+1)).text=t at*;clear hne hf L hR au an QN
    by_cases R:0<t.size
    .obtain⟨z1,z2⟩:=Qj R;have UF:=bA (Og R);cases u:aY (t[0].toNat:Int)
     .go_wp2_with fail
      refine(S.out).mono ?_;rintro e w1⟨rfl,r⟩;have l:=bA (x.below r);have j:=bA ((B.setCell 1 _).trans (Keep.cQ r))
      go_wp2_with (go_at_call 12;refine(uJ _ _).mono ?_;rintro e U⟨rfl,rfl⟩)
      go_ret
      have e1:(Rd.kd (Rd.txt d (b+1))==1)=J:=by rw[UK.out,UF.out,u]
      rw[<-n.out,e1];exact⟨rfl,l.out,j.out⟩
     .have k1:Hid ((Rd.kd (Rd.txt d (b+1))==1)=I):=by show _=_;rw[UK.out,UF.out,u]
      obtain⟨az,a0⟩:=UD.out (by simpa using k1.out);have ba:=HE.out.2 (b+1) (aUG k1.out);have aq:=bA a0;clear a0 UD UF;cases v:(Rd.valTo t t.size==0)
      .have ao:Hid (∀W,RRd W C g p d (b+2)->Calls prog 14 #[.pointer (Y ⟨C,0,X⟩)] W λe U=>e=.returned (.string (Rd.aA d (b+2)).text)/\Below W.heap.size W U):=λW hW=>Sf W C g p d (b+2) hW ba
       have s:Hid (∀c b',((Rd.aA d (b+2)).text.toList==c)=b'->(Rd.txt d (b+2)==c)=b'):=λc b' h=>aTD h
       generalize (Rd.aA d (b+2)).text=t2 at*
       have o:Hid ((Rd.kd (Rd.txt d (b+1))==1&&!(Rd.eT d (b+1)==0))=I):=by show _=_;rw[k1.out,UV.out,v];rfl
       go_wp2_with fail
       refine(S.out).mono ?_;rintro e w1⟨rfl,r⟩;have D:=x.below r;have F:=(B.setCell 1 _).trans (Keep.cQ r);clear r S x B hB d1 f1
       go_wp2_with (first|(go_at_call 12;refine(uJ _ _).mono ?_;rintro e U⟨rfl,rfl⟩)|(go_at_call 19;refine(Wc _ _ az aq.out).mono ?_;rintro e w2⟨rfl,y⟩;have A:=D.below y;have M:=F.trans (Keep.cQ y);have d1:=A.c1;have f1:=A.fz 1;clear y D F))
       have ab:=A.gK (m:=(↑b+1+1)) (b+2) (by simp;omega);refine(ao.out _ ab).mono ?_;rintro e w3⟨rfl,ag⟩;have ad:=ab.below ag;have av:=(M.setCell 1 _).trans (Keep.cQ ag);clear ag ab M A d1 f1;cases y1:(t2.toList==[93])
       .go_wp2_with fail
        refine(ao.out _ ad).mono ?_;rintro e w4⟨rfl,ay⟩;have ae:=ad.below ay;have af:=av.trans (Keep.cQ ay);cases y2:(t2.toList==[44])
        .go_wp2_with fail
         go_ret
         rw[<-n.out,o.out,s.out _ _ y1,s.out _ _ y2]
         cases N:(f==0)<;>exact⟨rfl,ae,af⟩
        .cases y3:((c:Int)==8)
         .have N:Hid ((f==0)=J):=by show _=_;have:=HF.out;simp at y3 ⊢;omega
          go_wp2_with fail
          have rel:tJ C g p d w (Rd.eC d a) (.int .i64 (↑c+1)) w4:=by
           refine⟨c+1,b+2,by go_num,O,by have:=HF.out;simp at y3;omega,ae,Zg (s.out _ _ y2),af,?_⟩;have e:=n.out;rw[o.out,s.out _ _ y1,s.out _ _ y2,N.out]at e;rw[show 9-(c+1)=f by have:=HF.out;omega];exact e
          go_roundw
          case rel=>first|exact rel|((repeat apply Exists.intro);exact⟨rel,rfl⟩)
          case measure=>simp[intOf];have:=HF.out;omega
         .have N:Hid ((f==0)=I):=by show _=_;have:=HF.out;simp at y3 ⊢;omega
          go_wp2_with fail
          go_ret
          rw[<-n.out,o.out,s.out _ _ y1,N.out];exact⟨rfl,ae,af⟩
       .go_wp2_with fail
        go_ret
        rw[<-n.out,o.out,s.out _ _ y1];exact⟨rfl,ad,av⟩
      .go_wp2_with fail
       refine(S.out).mono ?_;rintro e w1⟨rfl,r⟩;have D:=x.below r;have F:=(B.setCell 1 _).trans (Keep.cQ r);clear r S x B hB d1 f1
       go_wp2_with (first|(go_at_call 12;refine(uJ _ _).mono ?_;rintro e U⟨rfl,rfl⟩)|(go_at_call 19;refine(Wc _ _ az aq.out).mono ?_;rintro e w2⟨rfl,y⟩;have A:=D.below y;have M:=F.trans (Keep.cQ y);clear y D F))
       go_ret
       have e1:(Rd.kd (Rd.txt d (b+1))==1&&!(Rd.eT d (b+1)==0))=J:=by rw[k1.out,UV.out,v];rfl
       rw[<-n.out,e1];exact⟨rfl,A,M⟩
    .have ah:=Kl R;subst ah;clear R
     go_wp2_with fail
     refine(S.out).mono ?_;rintro e w1⟨rfl,r⟩;have l:=bA (x.below r);have j:=bA ((B.setCell 1 _).trans (Keep.cQ r))
     go_wp2_with fail
     go_ret
     have e1:(Rd.kd (Rd.txt d (b+1))==1)=J:=by rw[UK.out];rfl
     rw[<-n.out,e1];exact⟨rfl,l.out,j.out⟩
def Ly (f g c:Nat)(d:List Rd.Wd)(w:World)(R:Bool×Nat)(k:Nat)(o b:Value)(wr:World):Prop:=
 ∃(a on:Nat) (e:Bool),o=.int .i64 on/\b=.bool e/\on<=a/\a<d.length/\RRd wr f g c d a/\Keep f w wr/\Rd.follows d k a on e=Y R
theorem aIH:∀f a n,Rd.fM M f a=(I,n)->(Rd.txt M n==[93])=I/\a<n:=by
 intro f
 induction f with
 |zero=>intro a n h;cases h
 |succ f g=>
  intro a n h;rw[Rd.fM]at h
  cases c:(Rd.kd (Rd.txt M (a+1))==1&&!(Rd.eT M (a+1)==0))with
  |false=>rw[c]at h;cases h
  |true=>
   rw[c]at h
   cases b:(Rd.txt M (a+2)==[93])with
   |true=>
    rw[b]at h;simp only[cond_true,Prod.mk.injEq,true_and]at h;subst h;exact⟨b,O⟩
   |false=>
    rw[b]at h
    cases d:(f==0)with
    |true=>rw[d]at h;cases h
    |false=>
     rw[d]at h
     cases e:(Rd.txt M (a+2)==[44])with
     |false=>rw[e]at h;cases h
     |true=>
      rw[e]at h;have:=g (a+2) n h;exact⟨this.1,O⟩
variable {k:Nat}
theorem aMK {a:Nat}(h:Rd.eC M a=(I,k)):(Rd.txt M k==[93])=I/\a<k:=by
 unfold Rd.eC at h
 cases b:(Rd.txt M (a+1)==[91])with
 |false=>rw[b]at h;cases h
 |true=>
  cases c:(Rd.kd (Rd.txt M (a+2))==1)with
  |false=>rw[b,c]at h;cases h
  |true=>
   cases d:(Rd.txt M (a+3)==[59])with
   |false=>rw[b,c,d]at h;cases h
   |true=>
    rw[b,c,d]at h;have:=aIH 8 (a+3) k h;exact⟨this.1,O⟩
variable {t:ByteArray}{l:FF}
theorem tl {b:Bool}(h:(t.data.toList==l)=b):(t.toList==l)=b:=by rw[A5];exact h
theorem nH (h:(t.data.toList==l)=I):t=⟨l.toArray⟩:=by
 obtain⟨d⟩:=t;obtain⟨x⟩:=d
 have:x=l:=by simpa using h
 rw[this]
theorem aE0 (w:World)(v g l:Nat)(i:List Rd.Wd)(k0:Nat)(R:Bool×Nat)(h:RRd w v g l i 0)(hl:i.length<=121)(he:sI i)(hd:mG i)(hf:Rd.follows i k0 0 0 I=Y R):
  Calls prog 9 #[.pointer (Y ⟨v,0,X⟩)] w λe w'=>e=.returned (.bool R.1)/\RRd w' v g l i R.2/\Keep v w w':=by
 have z:Hid (sI i):=he;have HD:Hid (mG i):=hd;have N:=bA hf;have T:=he.1;clear he hd hf
 go_in
 go_wp2_with fail
 go_loopg [3,4] k0 (λk o b wr=>Ly v g l i w R k o b wr)
 case atStart=>exact⟨0,0,I,rfl,rfl,A6 _,T,h,Keep.refl _ _,N.out⟩
 case round=>
  obtain⟨a,on,bo,rfl,rfl,a5,S,hR,hK,s⟩:=hrel;clear h N
  obtain⟨k,C⟩:∃k,gk=k+1:=by
   cases gk with
   |zero=>cases s
   |succ k=>exact⟨k,rfl⟩
  rw[C]at s;have n:=bA C;have ag:=bA s;clear C s;have HT:=bA (Sf _ v g l i a hR S);have L:Hid (Rd.txt i a=(Rd.aA i a).text.data.toList):=rfl;generalize (Rd.aA i a).text=t at*;have i1:aY 112=J:=rfl;have i2:aY 101=J:=rfl;have i3:aY 99=J:=rfl;have i4:aY 115=J:=rfl;have i5:aY 108=J:=rfl;have i6:aY 97=J:=rfl;cases bo;cases t5:(t.data.toList==[41])
  rotate_left
  by_cases ho:0<on
  rotate_left 3
  cases F:(t.data.toList==[]);cases M:(t.data.toList==[43]);cases x:(t.data.toList==[45]);cases t3:(t.data.toList==[42]);cases W:(t.data.toList==[47])
  have hz:0<t.size:=by
   rcases A7 0 t.size with h|h
   .exact h
   .rw[Kl (t:=t) O]at F;cases F
  rotate_left 8
  cases M:(t.data.toList==[45]);cases x:(t.data.toList==[40]);cases W:(t.data.toList==[112,105]);cases t5:(t.data.toList==[101]);cases t7:(t.data.toList==[115,113,114,116]);cases t8:(t.data.toList==[101,120,112]);cases t9:(t.data.toList==[108,110,49,112]);cases U:(t.data.toList==[97,116,97,110]);cases F:(t.data.toList==[99,102])
  by_cases hz:0<t.size
  cases u:aY (t[0].toNat:Int)
  have ak:Rd.eO t.data.toList=J:=by simp only[Rd.eO,t7,t8,t9,U];rfl
  all_goals
   try have y1:=tl M
   try have y2:=tl x
   try have y3:=tl t3
   try have y4:=tl W
   try have y5:=tl t5
   try have y6:=tl F
   try (have zz:=Qj hz;obtain⟨z1,z2⟩:=zz)
   try have UF:=bA (Og hz)
   try
    first|have q:=nH F|have q:=nH U|have q:=nH t9|have q:=nH t8|have q:=nH t7|have q:=nH t5|have q:=nH W|have q:=nH t3|have q:=nH x|have q:=nH M|have q:=Kl hz
    subst q
   go_wp2_with fail
   refine(HT.out).mono ?_;rintro e w1⟨rfl,hb⟩;have d:=hR.below hb;have f:=hK.trans (Keep.cQ hb);have d1:=d.c1;have f1:=d.fz 1
   go_wp2_with (first|(go_at_call 12;refine(uJ _ _).mono ?_;rintro e w'⟨rfl,rfl⟩)|(go_at_call 16;refine(aDh _ _).mono ?_;rintro e w'⟨rfl,rfl⟩))
   have e1:=ag.out;rw[Rd.follows,L.out]at e1
  .go_ret
   rw[M,x,W,t5,F,ak,show(Rd.kd t.data.toList==1)=J by rw[UF.out,u]]at e1;have e2:=(C0 e1).symm;subst e2;exact⟨rfl,d,f⟩
  .go_roundg k
   case measure=>have:=n.out;omega
   case rel=>
    have e2:(Rd.kd t.data.toList==1)=I:=by rw[UF.out,u]
    rw[M,x,e2]at e1;exact⟨a+1,on,J,rfl,rfl,O,z.out.2 a (by rw[L.out];exact aUG e2),d.gK (a+1) E4,f.setCell 1 _,e1⟩
  .go_ret
   have e2:=(C0 e1).symm;subst e2;exact⟨rfl,d,f⟩
  .have RL:=aP2 _ v g l i a d hl z.out HD.out (by rw[L.out];simp);generalize ah:Rd.eC i a=LM at*;obtain⟨lb,ln⟩:=LM;refine RL.mono ?_;rintro e w2⟨rfl,j,p⟩;cases lb
   .go_wp2_with fail
    go_ret
    have e2:=(C0 e1).symm;subst e2;exact⟨rfl,j,f.trans p⟩
   .obtain⟨m1,m2⟩:=aMK ah;have D:=z.out.2 ln (Zg m1);clear d1 f1 m1;have d1:=j.c1;have f1:=j.fz 1
    go_wp2_with fail
    go_roundg k
    case measure=>have:=n.out;omega
    case rel=>exact⟨ln+1,on,J,rfl,rfl,O,D,j.gK (ln+1) E4,(f.trans p).setCell 1 _,e1⟩
  iterate 4
   .have D:=z.out.2 a (by rw[L.out];simp);have A:=d.gK (m:=(↑a+1)) (a+1) E4;have P:=f.setCell 1 (.int .i64 (↑a+1));have r:Rd.txt i (a+1)=(Rd.aA i (a+1)).text.data.toList:=rfl;refine(Sf _ v g l i (a+1) A D).mono ?_;rintro e w2⟨rfl,B⟩;generalize (Rd.aA i (a+1)).text=x at*;have j:=A.below B;have p:=P.trans (Keep.cQ B);clear d1 f1 A P B hb;rw[r]at e1;have r:=bA r;have e1:=bA e1;cases y:(x.data.toList==[40])
    .have y2:=tl y
     go_wp2_with fail
     go_ret
     have e1:=e1.out;rw[y]at e1;have e2:=(C0 e1).symm;subst e2;exact⟨rfl,j,p⟩
    .have al:=nH y;subst al;have d1:=j.c1;have f1:=j.fz 1
     go_wp2_with fail
     go_roundg k
     case measure=>have:=n.out;omega
     case rel=>exact⟨a+2,on+1,I,by go_num,rfl,O,z.out.2 (a+1) (by rw[r.out];simp),j.gK (a+2) (by simp;omega),p.setCell 1 _,e1.out⟩
  rotate_left 4
  .go_ret
   rw[show Rd.bV t.data.toList=J by simp only[Rd.bV,M,x,t3,W];rfl,t5,F]at e1;have e2:=(C0 e1).symm;subst e2;exact⟨rfl,d,f⟩
  rotate_left 4
  .go_ret
   have e2:=(C0 e1).symm;subst e2;refine⟨?_,d,f⟩;show Ending.returned (.bool ((on:Int)==0))=.returned (.bool (decide (on=0)))
   by_cases ho:on=0<;>simp[ho]
  .go_roundg k
   case measure=>have:=n.out;omega
   case rel=>
    rw[decide_eq_true ho]at e1;exact⟨a+1,on-1,J,by rw[show((on-1:Nat):Int)=(on:Int)-1 by omega],rfl,O,z.out.2 a (by rw[L.out];simp),d.gK (a+1) E4,f.setCell 1 _,e1⟩
  .go_ret
   rw[decide_eq_false ho]at e1;have e2:=(C0 e1).symm;subst e2;exact⟨rfl,d,f⟩
  all_goals
   go_roundg k
   case measure=>have:=n.out;omega
   case rel=>
    first
     |have c:Rd.follows i k (a+1) on I=Y R:=e1
     |have c:Rd.follows i k (a+1) (on+1) I=Y R:=e1
     |have c:Rd.follows i k (a+1) on J=Y R:=e1
    exact⟨a+1,_,_,by first|rfl|go_num,rfl,O,z.out.2 a (by rw[L.out];simp),d.gK (a+1) E4,f.setCell 1 _,c⟩
namespace Rd
variable {ws:List Wd}
def scanStep (ws:List Wd)(a b:FF)(i k:Nat)(s:Int×Int):Int×Int:=
 bif txt ws k==[40]||txt ws k==[91]then(s.1+1,s.2)
 else bif txt ws k==[41]||txt ws k==[93]then(s.1-1,s.2)
 else bif (s.1==0)&&decide (i<k)&&(txt ws k==a||txt ws k==b)&&!bV (txt ws (k-1))then(s.1,(k:Int))else s
def scan (ws:List Wd)(a b:FF)(i:Nat):Nat->Nat->Int×Int->Int×Int
 |0,_,s=>s
 |c+1,k,s=>scan ws a b i c (k+1) (scanStep ws a b i k s)
theorem aR9 (a b:FF)(i:Nat):∀c d k s,scan ws a b i (c+d) k s=scan ws a b i d (k+c) (scan ws a b i c k s):=by
 intro c
 induction c with
 |zero=>intro d k s;simp[scan]
 |succ c e=>
  intro d k s;rw[show c+1+d=(c+d)+1 by omega,scan,scan,e,show k+1+c=k+(c+1) by omega]
theorem aAv (a b:FF)(i n m k:Nat)(c:n<=k)(d:k<=m)(s:Int×Int):scan ws a b i (m-n) n s=scan ws a b i (m-k) k (scan ws a b i (k-n) n s):=by
 rw[show m-n=(k-n)+(m-k) by omega,aR9,show n+(k-n)=k by omega]
theorem lR (a b:FF)(i k:Nat)(s:Int×Int):scan ws a b i (k+1-k) k s=scanStep ws a b i k s:=by
 rw[show k+1-k=1 by omega];rfl
def bX (ws:List Wd)(a b:FF)(i j:Nat):Int:=(scan ws a b i (j-i) i (0,-1)).2
def bJ (ws:List Wd):Nat->Nat->List Int
 |0,_=>[]
 |c+1,k=>eT ws k::bJ ws c (k+2)
def Fc (t:FF):Int:=bif t==[43]then 6 else bif t==[45]then 7 else bif t==[42]then 8 else 9
def cE (t:FF):Int:=
 bif t==[112,105]then 2 else bif t==[101]then 3 else bif t==[99,102]then 4 else bif t==[115,113,114,116]then 10
 else bif t==[101,120,112]then 11 else bif t==[108,110,49,112]then 12 else bif t==[97,116,97,110]then 13 else 0
def cB (ws:List Wd)(i j:Nat):Int:=bif decide (bX ws [43] [45] i j<0)then bX ws [42] [47] i j else bX ws [43] [45] i j
abbrev dF:=Nat×Nat
def eE (ws:List Wd):Nat->Nat->Bool
 |0,_=>I
 |c+1,k=>(kd (txt ws k)==1)&&eE ws c (k+2)
def rtree (ws:List Wd):Nat->Nat->Nat->Nat->dF->Option (Tr×dF)
 |0,_,_,_,_=>X
 |f+1,i,j,d,s=>
  bif !(decide (i<j)&&decide (j<=ws.length))then X
  else bif decide (0<=cB ws i j)then
   match rtree ws f i (cB ws i j).toNat d (s.1,s.2+1)with
   |none=>X
   |some (l,a)=>
    match rtree ws f ((cB ws i j).toNat+1) j d a with
    |none=>X
    |some (r,b)=>Y (xQ (Fc (txt ws (cB ws i j).toNat)) l r,b)
  else bif txt ws i==[45]then
   match rtree ws f (i+1) j (d+1) (s.1,s.2+1)with
   |none=>X
   |some (x,a)=>Y (An 5 x,a)
  else bif txt ws i==[40]then rtree ws f (i+1) (j-1) (d+1) (max s.1 d,s.2)
  else bif kd (txt ws i)==1 then Y (eY 1 (eT ws i) [],max s.1 d,s.2+1)
  else bif eO (txt ws i)then
   match rtree ws f (i+2) (j-1) (d+1) (max s.1 d,s.2+1)with
   |none=>X
   |some (x,a)=>Y (An (cE (txt ws i)) x,a)
  else bif txt ws i==[] || !eE ws ((j-i-1)/2) (i+2) || !(cE (txt ws i)==2||cE (txt ws i)==3||cE (txt ws i)==4)then X
  else Y (eY (cE (txt ws i)) 0 (bJ ws ((j-i-1)/2) (i+2)),max s.1 d,s.2+1)
theorem aM7:∀f i j d s x,rtree ws f i j d s=Y x->rtree ws (f+1) i j d s=Y x:=by
 intro f
 induction f with
 |zero=>intro i j d s x h;cases h
 |succ f a=>
  intro i j d s x h;rw[rtree]at h ⊢;grind
theorem Xu {g i r d:Nat}{s:dF}{x:Tr×dF}(a:w<=g)(h:rtree ws w i r d s=Y x):rtree ws g i r d s=Y x:=by
 obtain⟨k,rfl⟩:∃k,g=w+k:=⟨g-w,O⟩
 clear a
 induction k with
 |zero=>exact h
 |succ k b=>exact aM7 _ _ _ _ _ _ b
def okPair (c:Nat)(a b:FF):Prop:=(2<=c/\a=[43]/\b=[45])\/(3<=c/\a=[42]/\b=[47])
def aPair (a b:FF):Prop:=(a=[43]/\b=[45])\/(a=[42]/\b=[47])
theorem okPair.mono {l:Nat}{a b:FF}(h:okPair l a b)(c:l<=k):okPair k a b:=by
 rcases h with h|h
 .exact Or.inl ⟨O,h.2⟩
 .exact C4 ⟨O,h.2⟩
theorem okPair.aPair {w:Nat}{a b:FF}(h:okPair w a b):aPair a b:=by
 rcases h with h|h
 .exact Or.inl h.2
 .exact C4 h.2
structure Good (ws:List Wd) (lvl n m d:Nat) (t:Tr) (M N:Nat):Prop where
 lt:n<m
 hi:m<=ws.length
 deep:d<=M
 last:bV (txt ws (m-1))=J
 high:∀a b i (o:Int) at',0<o->scan ws a b i (m-n) n (o,at')=(o,at')
 plain:∀a b i at',okPair lvl a b->i<=n->(n=i\/bV (txt ws (n-1))=I)->scan ws a b i (m-n) n (0,at')=(0,at')
 back:∀a b i at',aPair a b->i<=n->(n=i\/bV (txt ws (n-1))=I)->∃q,scan ws a b i (m-n) n (0,at')=(0,q)
 tree:∀D K,∃f,rtree ws f n m d (D,K)=Y (t,max D M,K+N)
theorem Good.weaken {p d:Nat}{t:Tr}{N c:Nat}(h:Good ws w k p d t N c)(e:Nat)(f:e<=w):Good ws e k p d t N c:=
 ⟨h.lt,h.hi,h.deep,h.last,h.high,λa b i q g=>h.plain a b i q (g.mono f),h.back,h.tree⟩
theorem Sk (h:txt ws w≠[]):w<ws.length:=by
 rcases A7 w ws.length with h1|h1
 .exact h1
 .exfalso;apply h;unfold txt aA;grind
theorem Fx {i:Nat}(a:i<k)(b:k<=ws.length):(!(decide (i<k)&&decide (k<=ws.length)))=J:=by
 grind
end Rd
def RowAt (w:World)(g:Nat)(b:List Rd.Wd):Prop:=∃a,w.heap[g]?=Y (.cells a 40 (0,0))/\a.toList.take (b.length*2)=Rd.dM b
def xI (f:List Rd.Wd)(a b:ByteArray)(i j:Nat)(o q k:Value):Prop:=
 ∃(c:Nat) (d e:Int),i<=c/\c<=j/\k=.int .i64 c/\o=.int .i64 d/\q=.int .i64 e/\-(c:Int)<=d/\d<=c/\Rd.scan f a.data.toList b.data.toList i (j-c) c (d,e)=Rd.scan f a.data.toList b.data.toList i (j-i) i (0,-1)
variable {i:Nat}
theorem aVp {a b:FF}{j:Nat}{s:Int×Int}(h:k<j):Rd.scan M a b i (j-k) k s=Rd.scan M a b i (j-(k+1)) (k+1) (Rd.scanStep M a b i k s):=by
 rw[show j-k=(j-(k+1))+1 by omega,Rd.scan]
variable {n t l:Int}
theorem Ke {a b:ByteArray}{p:Nat}{f:Int}(m:i<=p)(g:p<k)(h:Rd.scan M a.data.toList b.data.toList i (k-p) p (n,f)=Rd.scan M a.data.toList b.data.toList i (k-i) i (0,-1))
  (c:-((p+1:Nat):Int)<=t) (d:t<=((p+1:Nat):Int)) (e:Rd.scanStep M a.data.toList b.data.toList i p (n,f)=(t,l)):xI M a b i k (.int .i64 t) (.int .i64 l) (.int .i64 ((p:Int)+1)):=
 ⟨p+1,t,l,O,O,by go_num,rfl,rfl,c,d,by rw[<-h,aVp g,e]⟩
theorem Rc (w:World)(g A:Nat)(d:List Rd.Wd)(i j:Nat)(a b:ByteArray)(h:RowAt w g d)(hl:d.length<=121)(B:i<=j)(hj:j<=d.length):
  Calls prog 17 #[.slice (Y ⟨g,0,X⟩) d.length A,.int .i64 i,.int .i64 j,.string a,.string b] w λe w'=>e=.returned (.int .i64 (Rd.bX d a.data.toList b.data.toList i j))/\w=w':=by
 have n:=bA h;clear h
 go_in
 go_wp2_with fail
 go_loop [11,12,13] (λo q k=>xI d a b i j o q k) (λ_ _ k=>j-(intOf k).toNat)
 case atStart=>exact⟨i,0,-1,A6 _,B,rfl,rfl,rfl,O,O,rfl⟩
 case round=>
  obtain⟨k,l,m,u,h2,rfl,rfl,rfl,b0,b1,M⟩:=hrel;have p:=bA M;clear M
  by_cases c1:k<j
  .obtain⟨e0,_⟩:=sQ n.out k O;have z:Hid (Rd.txt d k=(Rd.aA d k).text.data.toList):=rfl;generalize (Rd.aA d k).text=t at*
   by_cases t1:(t.data.toList==[40]||t.data.toList==[91])=I
   .have s:Hid (Rd.scanStep d a.data.toList b.data.toList i k (l,m)=(l+1,m)):=by show _=_;rw[Rd.scanStep,z.out,t1];rfl
    simp only[C5]at t1
    rcases t1 with t1|t1
    all_goals
     have r:=nH t1;subst r;clear t1
     go_wp2_with fail
     go_round
     case rel=>exact Ke u c1 p.out O O s.out
     case measure=>simp[intOf];omega
   .have n1:(t.data.toList==[40]||t.data.toList==[91])=J:=by simpa using t1
    by_cases t2:(t.data.toList==[41]||t.data.toList==[93])=I
    .have s:Hid (Rd.scanStep d a.data.toList b.data.toList i k (l,m)=(l-1,m)):=by show _=_;rw[Rd.scanStep,z.out,n1,t2];rfl
     simp only[C5]at t2
     rcases t2 with t2|t2
     all_goals
      have r:=nH t2;subst r;clear t2 t1 n1
      go_wp2_with fail
      go_round
      case rel=>exact Ke u c1 p.out O O s.out
      case measure=>simp[intOf];omega
    .have n2:(t.data.toList==[41]||t.data.toList==[93])=J:=by simpa using t2
     have S:(t.toList==[40])=J/\(t.toList==[91])=J:=by simp only[C6]at n1;exact⟨tl n1.1,tl n1.2⟩
     have W:(t.toList==[41])=J/\(t.toList==[93])=J:=by simp only[C6]at n2;exact⟨tl n2.1,tl n2.2⟩
     obtain⟨T,U⟩:=S;obtain⟨aa,ab⟩:=W
     have f:Hid (Rd.scanStep d a.data.toList b.data.toList i k (l,m)=bif (l==0)&&decide (i<k)&&(t.data.toList==a.data.toList||t.data.toList==b.data.toList)&&!Rd.bV (Rd.txt d (k-1))then(l,(k:Int))else(l,m)):=by
      show _=_;rw[Rd.scanStep,z.out,n1,n2];rfl
     clear t1 t2 n1 n2;cases N:(l==0)
     .go_wp2_with fail
      go_round
      case rel=>exact Ke u c1 p.out O O (by rw[f.out,N];rfl)
      case measure=>simp[intOf];omega
     .by_cases u2:(i:Int)<k
      rotate_left
      .have c:Hid (Rd.scanStep d a.data.toList b.data.toList i k (l,m)=(l,m)):=by show _=_;rw[f.out,decide_eq_false O];simp
       go_wp2_with fail
       go_round
       case rel=>exact Ke u c1 p.out O O c.out
       case measure=>simp[intOf];omega
      cases P:(t.toList==a.toList);cases R:(t.toList==b.toList)
      .have x:(t.data.toList==a.data.toList)=J:=by rw[<-A5,<-A5];exact P
       have y:(t.data.toList==b.data.toList)=J:=by rw[<-A5,<-A5];exact R
       have c:Hid (Rd.scanStep d a.data.toList b.data.toList i k (l,m)=(l,m)):=by show _=_;rw[f.out,x,y];simp
       clear x y
       go_wp2_with fail
       go_round
       case rel=>exact Ke u c1 p.out O O c.out
       case measure=>simp[intOf];omega
      all_goals
       have C:Hid ((t.data.toList==a.data.toList||t.data.toList==b.data.toList)=I):=by
        show _=_;rw[<-A5,<-A5,<-A5]
        first|(rw[R];simp;done)|(rw[P];simp)
       obtain⟨k1,rfl⟩:∃k1,k=k1+1:=⟨k-1,O⟩
       obtain⟨e1,_⟩:=sQ n.out k1 O;have L:Hid (Rd.txt d (k1+1-1)=(Rd.aA d k1).text.data.toList):=rfl;generalize (Rd.aA d k1).text=v at*;cases p1:(v.data.toList==[43]);cases p2:(v.data.toList==[45]);cases D:(v.data.toList==[42]);cases F:(v.data.toList==[47])
       .have y1:=tl p1;have y2:=tl p2;have y3:=tl D;have y4:=tl F
        have c:Hid (Rd.scanStep d a.data.toList b.data.toList i (k1+1) (l,m)=(l,((k1+1:Nat):Int))):=by
         show _=_;rw[f.out,L.out,C.out,N,decide_eq_true O,show Rd.bV v.data.toList=J by simp only[Rd.bV,p1,p2,D,F];rfl];rfl
        go_wp2_with fail
        go_round
        case rel=>exact Ke u c1 p.out O O c.out
        case measure=>simp[intOf];omega
       all_goals
        first|have r:=nH F|have r:=nH D|have r:=nH p2|have r:=nH p1
        subst r
        have c:Hid (Rd.scanStep d a.data.toList b.data.toList i (k1+1) (l,m)=(l,m)):=by show _=_;rw[f.out,L.out];simp[Rd.bV]
        go_wp2_with fail
        go_round
        case rel=>exact Ke u c1 p.out O O c.out
        case measure=>simp[intOf];omega
  .obtain rfl:k=j:=O
   go_wp2_with fail
   go_ret
   refine⟨Iu ?_,rfl⟩;have e:=p.out;rw[show k-k=0 by omega]at e;unfold Rd.bX;rw[<-e];rfl
namespace Nm
variable {c x:Int}{a b:LB}
theorem aIP {out:LB}(d:out.length=i)(h:val n out+c*n^i=val n (a.take i)+val n (b.take i))(e:x=c+at' a i+at' b i):
  val n (out++[x%n])+x/n*n^(i+1)=val n (a.take (i+1))+val n (b.take (i+1)):=by
 rw[Ev,wU,wU,d,u7];have:=z8 x n;grind
theorem aIF {c' d:Int}{out:LB}(e:out.length=i)(h:val n out+val n (b.take i)=val n (a.take i)+c*n^i)(hd:d=at' a i-at' b i-c+c'*n):
  val n (out++[d])+val n (b.take (i+1))=val n (a.take (i+1))+c'*n^(i+1):=by
 rw[Ev,wU,wU,e,u7];grind
theorem aLe (e:0<n){out:LB}(o:a.length=i)(k:out.length=i)(l:bZ n out)(hc:0<=c)(j:val n b<=val n a)(d:b.length<=i)
  (h:val n out+val n (b.take i)=val n (a.take i)+c*n^i):c=0/\val n out=val n a-val n b:=by
 rw[zY n a O,zY n b d]at h;have f:=vC e l;rw[k]at f
 have g:c*n^i<1*n^i:=O
 have m:=A0 g (u5 (nF e i));grind
theorem aHo {out:LB}(a:i+k<out.length)(h:val n out+c*n^(i+k)=t+l*val n (b.take k)*n^i)(d:x=c+at' out (i+k)+l*at' b k):
  val n (out.set (i+k) (x%n))+x/n*n^(i+(k+1))=t+l*val n (b.take (k+1))*n^i:=by
 rw[aQL n out (i+k) (x%n) a,wU,<-Nat.add_assoc,u7];have:=z8 x n;grind
theorem aFY {a b:Int}(h:1<=n)(c0:0<=c)(c1:c<n)(j:0<=t)(o1:t<n)(a0:0<=a)(a1:a<n)(b0:0<=b)(b1:b<n)(i:x=c+t+a*b):0<=x/\0<=x/n/\x/n<n/\x<n*n:=by
 have e:a*b<=(n-1)*(n-1):=y8 O O b0 O
 have f:(n-1)*(n-1)=n*n-2*n+1:=by grind
 have g:=s8 a0 b0
 have d:x<n*n:=O
 exact⟨O,Int.ediv_nonneg O O,Int.ediv_lt_of_lt_mul O d,d⟩
theorem aUQ (f:1<=n){out:LB}(r:bZ n out)(g:bZ n a)(q:bZ n b)(e:l=at' a i)(y:b.length+1<=k)(c0:0<=c)(p:t=val n (a.take i)*val n b)
  (h:val n out+c*n^(i+k)=t+l*val n (b.take k)*n^i):c=0:=by
 rw[zY n b O]at h;have s:=oY O r
 have u:t+l*val n b*n^i=val n (a.take (i+1))*val n b:=by rw[wU,p,e];grind
 have v:=vC O (g.take (i+1));have w:=vC O q;have x:n^(a.take (i+1)).length<=n^(i+1):=sP f (by rw[j9];omega);have h8:val n (a.take (i+1))*val n b<=val n (a.take (i+1))*n^b.length:=u6 O (oY O (g.take (i+1)));have o:val n (a.take (i+1))*n^b.length<n^(i+1)*n^b.length:=Int.mul_lt_mul_of_pos_right O (nF O _);rw[<-x8]at o;have m:n^(i+1+b.length)<=n^(i+k):=sP f O
 have d:c*n^(i+k)<1*n^(i+k):=O
 have:=A0 d (u5 (nF O _));omega
theorem aUR {out:LB}(d:l=at' a i)(f:b.length<=k)(hc:c=0)(e:t=val n (a.take i)*val n b)
  (h:val n out+c*n^(i+k)=t+l*val n (b.take k)*n^i):val n out=val n (a.take (i+1))*val n b:=by
 rw[zY n b f,hc,e,d]at h;rw[wU];grind
def cmp (x y:Int):Int:=bif decide (x<y)then -1 else bif decide (x=y)then 0 else 1
variable {b:Int}
theorem iQ (h:x<b):cmp x b=-1:=by rw[cmp,decide_eq_true h];rfl
theorem gW (h:b<x):cmp x b=1:=by grind [cmp]
theorem jQ (h:x=b):cmp x b=0:=by grind [cmp]
theorem aT2 (x y:Int):cmp (x-y) 0=cmp x y:=by grind [cmp]
theorem aLf {b:LB}(e:a.length=b.length)(hi:i<a.length)(d:a.drop (i+1)=b.drop (i+1))(h:at' a i=at' b i):a.drop i=b.drop i:=by
 have c:i<b.length:=O
 rw[r7 hi,r7 c,d];unfold at' at h;grind
theorem Ik (B:Int)(l:LB)(i:Nat)(h:i<l.length):val B (l.drop i)=at' l i+B*val B (l.drop (i+1)):=by
 rw[r7 h,val];unfold at';grind
theorem Qi {a q r:Int}(e:0<b)(h:a=q*b+r)(c:0<=r)(d:r<b):a/b=q/\a%b=r:=by
 subst h;refine⟨?_,?_⟩
 .rw[A4,Int.add_mul_ediv_right _ _ O,Int.ediv_eq_zero_of_lt c d];omega
 .rw[A4,Int.add_mul_emod_self_right,Int.emod_eq_of_lt c d]
theorem aIy {a q r:Int}(c:0<b)(h:a=q*b+r)(e:0<=r)(f:r<b):(-a)/b=if r=0 then -q else -q-1:=by
 by_cases d:r=0
 .rw[if_pos d];exact(Qi c (by subst h d;grind) O c).1
 .rw[if_neg d];exact(Qi c (r:=b-r) (by subst h;grind) O O).1
end Nm
theorem hid {p:Prop}(h:p):Hid p:=h
theorem mQ:(prog.info? 3).map (λi=>(i.zero,i.size,i.bytes))=Y (Y (.int .i64 0),1,8):=E0
def IntsB (B:Nat)(w:World)(xs:LB)(v:Value):Prop:=w.ownsRow B 3 1 v xs.length (xs.map (Value.int .i64))
abbrev Ints (w:World)(a:LB)(v:Value):Prop:=IntsB 0 w a v
variable {z:Value}{a:PH}
theorem Wv {i:World}{e s n:Nat}(h:v.ownsRow w e s z n a)(j:Below v.heap.size v i):i.ownsRow w e s z n a:=by
 have⟨h1,d⟩:=h;refine⟨h1,?_⟩
 rcases d with d|⟨g,b,c,hv,k,f,r⟩
 .simp_all
 .exact C4 ⟨g,b,c,hv,k,by rw[j.block g (cZ f)];exact f,r⟩
theorem aHB {e s N:Nat}(h:v.ownsRow w e s z N a)(i:k<=w):v.ownsRow k e s z N a:=by
 have⟨h1,d⟩:=h;refine⟨h1,?_⟩
 rcases d with d|⟨g,b,c,hv,j,f,r⟩
 .simp_all
 .exact C4 ⟨g,b,c,hv,O,f,r⟩
variable {s:World}{x:LB}
theorem IntsB.below {B:Nat}{w:World}{v:Value}(h:IntsB B w x v)(a:Below w.heap.size w s):IntsB B s x v:=Wv h a
theorem IntsB.alloc {B:Nat}{w:World}{xs:LB}{v:Value}(h:IntsB B w xs v)(o:Obj):IntsB B (w.alloc o) xs v:=h.below ((Below.refl _ _).alloc O o)
theorem IntsB.nil (B:Nat)(w:World):IntsB B w [] (.slice X 0 0):=⟨rfl,Or.inl ⟨rfl,rfl⟩⟩
variable {xs:LB}
theorem IntsB.cJ (h:IntsB w v xs z)(a:k<=w):IntsB k v xs z:=aHB h a
theorem IntsB.shape (h:IntsB w v x z):∃b a,z=.slice b x.length a/\x.length<=a:=by
 rcases h.2 with⟨h,d⟩|⟨g,a,c,h,_,_,hc,_⟩
 .grind
 .grind
theorem IntsB.place {a:Option Addr}{p:Nat}(h:IntsB w v x (.slice a k p))(i:0<x.length):∃g,a=Y ⟨g,0,X⟩/\∀j,j<x.length->v.cell? ⟨g,j,X⟩=Y (.int .i64 (Nm.at' x j)):=by
 rcases h.2 with⟨_,f⟩|⟨g,b,c,h,_,d,hc,_,_,l⟩
 .omega
 .cases h;refine⟨g,rfl,λj e=>aB d ?_⟩
  have:(x.map (Value.int .i64))[j]?=Y (.int .i64 (Nm.at' x j)):=by
   simp[Nm.at',r8 e]
  grind
theorem IntsB.take {w:Nat}{v:World}{x:LB}{b:Option Addr}{n p:Nat}(h:IntsB w v x (.slice b n p))(k:Nat)(o:k<=x.length)(q:0<x.length):IntsB w v (x.take k) (.slice b k p):=by
 rcases h.2 with⟨_,m⟩|⟨g,c,a,h,e,f,hc,i,j,l⟩
 .omega
 .cases h
  have d:(x.take k).length=k:=by rw[j9];omega
  refine⟨E4,C4 ⟨g,p,a,by rw[d],e,f,O,i,j,?_⟩⟩;rw[d,List.map_take,<-l,List.take_take];congr 1;omega
def NumAt (w:World)(z:Int)(v:Value):Prop:=∃a b,v=.agg #[.bool (decide (z<0)),b]/\Ints w a b/\Nm.Good 10000 a/\Nm.val 10000 a=z.natAbs
theorem NumAt.below {w s:World}{n:Int}{v:Value}(h:NumAt w n v)(a:Below w.heap.size w s):NumAt s n v:=by
 have⟨ds,dv,h1,h2,h3⟩:=h;exact⟨ds,dv,h1,h2.below a,h3⟩
theorem NumAt.alloc {w:World}{n:Int}{v:Value}(h:NumAt w n v)(o:Obj):NumAt (w.alloc o) n v:=h.below ((Below.refl _ _).alloc O o)
def dB (w:World)(z:Int):EW:=λe a=>∃v,e=.returned v/\NumAt a z v/\Below w.heap.size w a
def iU (B:Nat):Value->Prop
 |.slice (Y a) _ _=>B<=a.block
 |_=>True
def Au (B:Nat):Value->Prop
 |.agg xs=>∀x∈xs.toList,iU B x
 |_=>True
theorem iU.cJ (h:iU w z)(a:k<=w):iU k z:=by
 unfold iU at*;grind
theorem Au.cJ {w k:Nat}{z:Value}(h:Au w z)(a:k<=w):Au k z:=by
 unfold Au at*;split
 .exact λx b=>(h x b).cJ a
 .trivial
theorem IntsB.frs (h:IntsB w v xs z):iU w z:=by
 rcases h.2 with⟨h,_⟩|⟨g,a,b,h,c,_⟩
 .rw[h];trivial
 .rw[h];exact c
theorem Tj {a b:Value}(c:iU w a)(d:iU w b):Au w (.agg #[a,b]):=by
 intro x e;grind
theorem Au.c1 {a b:Value}(h:Au w (.agg #[a,b])):iU w b:=h b E4
def gE (B:Nat)(w:World)(z:Int):EW:=λe a=>∃v,e=.returned v/\NumAt a z v/\Below w.heap.size w a/\Au B v
abbrev lC (w:World)(z:Int):EW:=gE w.heap.size w z
theorem gE.any {a:World}{e:Ending}(h:gE w a n e s):dB a n e s:=by
 have⟨v,h1,h2,h3,_⟩:=h;exact⟨v,h1,h2,h3⟩
def jP (w:World)(p:List Int->Prop):EW:=λe a=>∃v b,e=.returned v/\p b/\IntsB w.heap.size a b v/\Below w.heap.size w a
theorem Nm.aJz (h:¬i<x.length):Nm.at' x i=0:=by
 unfold Nm.at';grind
theorem Zb (w:World)(a:LB)(d:Option Addr)(b i:Nat)(h:Ints w a (.slice d a.length b))(k:a.length<=100000000000)(hi:i<=100000000000):
  Calls prog 108 #[.slice d a.length b,.int .i64 i] w λe j=>e=.returned (.int .i64 (Nm.at' a i))/\w=j:=by
 by_cases c:(i:Int)<a.length
 .obtain⟨g,rfl,hc⟩:=h.place O;have f:=hc i O
  go_in
  go_wp2_with fail
  go_ret
  simp
 .rw[Nm.aJz O]
  go_in
  go_wp2_with fail
  go_ret
  simp
theorem Nm.aNi (h:k<x.length)(a:Nm.at' x k=0):Nm.strip (x.take (k+1))=Nm.strip (x.take k):=by
 rw[j8 h];unfold Nm.at' at a;rw[p5,r8 h]at a;rw[show x[k]=0 from a,Nm.Nu]
theorem Nm.aNh (h:k<x.length)(a:Nm.at' x k≠0):Nm.strip (x.take (k+1))=x.take (k+1):=by
 rw[j8 h];unfold Nm.at' at a;rw[p5,r8 h]at a;exact Nm.Od _ a
def Hr (W:World)(b:LB)(c:Option Addr)(a:Nat)(d:Value)(wr:World):Prop:=
 ∃k:Nat,k<=b.length/\d=.slice c k a/\Nm.strip (b.take k)=Nm.strip b/\wr=W
theorem Nm.aNJ {a b:Bool}{v:Value}(h:a=b):Ending.returned (.agg #[.bool a,v])=.returned (.agg #[.bool b,v]):=by rw[h]
theorem aHY (w:World)(neg:Bool)(a:LB)(v:Value)(B:Nat)(h:IntsB B w a v)(D:a.length<=100000000000):
  Calls prog 109 #[.bool neg,v] w λe y=>∃q,e=.returned (.agg #[.bool (neg&&decide (0<(Nm.strip a).length)),q])/\IntsB B y (Nm.strip a) q/\Below w.heap.size w y:=by
 obtain⟨m,b,rfl,s⟩:=h.shape;have j:=hid h;clear h
 go_in
 go_wp2_with fail
 go_loopw [1] (λd wr=>Hr (w.alloc (.cells #[.bool J,.slice X 0 0] 46)) a m b d wr) (λd _=>match d with|.slice _ n _=>n|_=>0)
 case atStart=>exact⟨a.length,A6 _,rfl,by rw[q9],rfl⟩
 case round=>
  obtain⟨k,C,rfl,t,rfl⟩:=hrel;have l:=hid t;clear t
  cases k with
  |zero=>
   have u:Hid (Nm.strip a=[]):=by have:=l.out;rw[<-this];rfl
   have i:Hid (∀o,IntsB B (w.alloc o) (Nm.strip a) (.slice m 0 b)):=by
    intro o;rw[u.out];refine(IntsB.alloc ?_ o);have:=j.out
    by_cases z:0<a.length
    .exact this.take 0 O z
    .have e:a=[]:=List.eq_nil_of_length_eq_zero O;subst e;exact this
   cases neg
   all_goals
    go_wp2_with fail
    exact bodyPost_ret (v:=.agg #[.bool J,.slice m 0 b]) (by simp[results,results109,go_sem]) rfl ⟨_,(Nm.aNJ (by rw[u.out];rfl)),i.out _,(Below.refl _ _).alloc O _⟩
  |succ k=>
   obtain⟨g,rfl,hc⟩:=(j.out.alloc (.cells #[.bool J,.slice X 0 0] 46)).place O;have p:=hc k O;clear hc
   by_cases f:Nm.at' a k=0
   .have c:=hid (Nm.aNi O f);rw[f]at p
    go_wp2_with fail
    go_roundw
    case rel=>exact⟨k,O,rfl,by rw[<-c.out,l.out],rfl⟩
    case measure=>simp
   .have A:(Nm.at' a k==0)=J:=by simpa using f
    have c:=hid (show Nm.strip a=a.take (k+1) by rw[<-l.out];exact Nm.aNh O f)
    have i:Hid (∀o,IntsB B (w.alloc o) (Nm.strip a) (.slice (Y ⟨g,0,X⟩) (k+1) b)):=by
     intro o;rw[c.out];exact(j.out.take (k+1) O O).alloc o
    have r:Hid (decide (0<(Nm.strip a).length)=I):=by
     show _=_;rw[c.out,j9];exact decide_eq_true O
    generalize Nm.at' a k=x at*;cases neg
    .go_wp2_with fail
     exact bodyPost_ret (v:=.agg #[.bool J,.slice (Y ⟨g,0,X⟩) (k+1) b]) (by simp[results,results109,go_sem]) rfl ⟨_,(Nm.aNJ (by rw[r.out];rfl)),i.out _,(Below.refl _ _).alloc O _⟩
    .go_wp2_with fail
     exact bodyPost_ret (v:=.agg #[.bool I,.slice (Y ⟨g,0,X⟩) (k+1) b]) (by simp[results,results109,go_sem]) rfl ⟨_,(Nm.aNJ (by rw[r.out];rfl)),i.out _,(Below.refl _ _).alloc O _⟩
theorem Xb (w:World)(neg:Bool)(z:Int)(a:LB)(v:Value)(B:Nat)(h:IntsB B w a v)(f:a.length<=100000000000)(hd:Nm.bZ 10000 a)(hv:Nm.val 10000 a=z.natAbs)(j:neg=I->z<=0)(k:neg=J->0<=z):
  Calls prog 109 #[.bool neg,v] w (gE B w z):=by
 refine(aHY w neg a v B h f).mono ?_;rintro e l⟨c,rfl,b,d⟩;refine⟨_,rfl,⟨Nm.strip a,c,?_,b.cJ O,Nm.wR hd,by rw[Nm.uZ,hv]⟩,d,Tj trivial b.frs⟩;have i:=Nm.yQ E3 (Nm.wR hd);rw[Nm.uZ,hv]at i
 have g:(neg&&decide (0<(Nm.strip a).length))=decide (z<0):=by
  grind
 rw[g]
theorem Xz (w:World)(neg:Bool)(z:Int)(a:LB)(v:Value)(h:Ints w a v)(d:a.length<=100000000000)(hd:Nm.bZ 10000 a)(hv:Nm.val 10000 a=z.natAbs)(b:neg=I->z<=0)(c:neg=J->0<=z):
  Calls prog 109 #[.bool neg,v] w (dB w z):=(Xb w neg z a v 0 h d hd hv b c).mono λ_ _ h=>h.any
def Hq (W:World)(a b:LB)(i:Value)(wr:World):Prop:=
 ∃k:Nat,k<=a.length/\i=.int .i64 ((k:Int)-1)/\a.drop k=b.drop k/\Below W.heap.size W wr
theorem aLP (w:World)(a b:LB)(u v:Value)(q:Ints w a u)(r:Ints w b v)(N:a.length<=100000000000)(s:Nm.Good 10000 a)(t:Nm.Good 10000 b):
  Calls prog 111 #[u,v] w λe P=>e=.returned (.int .i64 (Nm.cmp (Nm.val 10000 a) (Nm.val 10000 b)))/\Below w.heap.size w P:=by
 obtain⟨S,L,rfl,A⟩:=q.shape;obtain⟨T,F,rfl,x⟩:=r.shape;have C:=hid q;have D:=hid r;have n:=hid s;have GB:=hid t;clear q r s t
 by_cases c1:(a.length:Int)<b.length
 .rw[Nm.iQ (Nm.Kb E3 n.out.cP GB.out O)]
  have c2:((a.length:Int) != b.length)=I:=by simp;omega
  go_in
  go_wp2_with fail
  go_ret
  exact⟨rfl,Below.refl _ _⟩
 .by_cases c3:(a.length:Int)=b.length
  .have d:a.length=b.length:=O
   clear c3 c1;rw[<-d];have f:=hid d;clear d
   go_in
   go_wp2_with fail
   go_loopw [5] (λi wr=>Hq w a b i wr) (λi _=>(intOf i+1).toNat)
   case atStart=>exact⟨a.length,A6 _,rfl,by rw[r9,f.out,r9],Below.refl _ _⟩
   case round=>
    obtain⟨k,W,rfl,B,h⟩:=hrel;have c:=hid h;clear h;have o:=hid B;clear B
    cases k with
    |zero=>
     have l:Hid (Nm.cmp (Nm.val 10000 a) (Nm.val 10000 b)=0):=Nm.jQ (by have:=o.out;simp at this;rw[this])
     go_wp2_with fail
     go_ret
     exact⟨by rw[l.out];rfl,by first|exact c.out|exact below_drewN c.out _|exact below_drewN (below_drewN c.out _) _⟩
    |succ k=>
     obtain⟨g,rfl,hc⟩:=(C.out.below c.out).place O;obtain⟨U,rfl,j⟩:=(D.out.below c.out).place (by rw[<-f.out];omega);have x1:=hc k O;have R:=j k (by rw[<-f.out];omega);clear hc j
     have m:k<b.length:=by rw[<-f.out];omega
     by_cases e1:Nm.at' a k=Nm.at' b k
     .have p:=hid (Nm.aLf f.out O o.out e1);rw[<-e1]at R;generalize Nm.at' a k=y at*
      go_wp2_with fail
      go_quiet (fail)
      go_wp2_with fail
      go_roundw
      case rel=>exact⟨k,O,E4,p.out,by first|exact c.out|exact below_drewN c.out _⟩
      case measure=>simp[intOf]
     .have e2:(Nm.at' a k != Nm.at' b k)=I:=by simpa using e1
      by_cases M:Nm.at' a k<Nm.at' b k
      .have l:Hid (Nm.cmp (Nm.val 10000 a) (Nm.val 10000 b)=-1):=Nm.iQ (Nm.Yi E3 n.out.cP GB.out.cP k o.out M O m);generalize Nm.at' a k=y at*;generalize Nm.at' b k=z at*
       go_wp2_with fail
       go_quiet (fail)
       go_wp2_with fail
       go_quiet (fail)
       go_wp2_with fail
       go_ret
       exact⟨by rw[l.out];rfl,by first|exact c.out|exact below_drewN c.out _|exact below_drewN (below_drewN c.out _) _⟩
      .have l:Hid (Nm.cmp (Nm.val 10000 a) (Nm.val 10000 b)=1):=Nm.gW (Nm.Yi E3 GB.out.cP n.out.cP k o.out.symm O m O);generalize Nm.at' a k=y at*;generalize Nm.at' b k=z at*
       go_wp2_with fail
       go_quiet (fail)
       go_wp2_with fail
       go_quiet (fail)
       go_wp2_with fail
       go_ret
       exact⟨by rw[l.out];rfl,by first|exact c.out|exact below_drewN c.out _|exact below_drewN (below_drewN c.out _) _⟩
  .rw[Nm.gW (Nm.Kb E3 GB.out.cP n.out O)]
   go_in
   go_wp2_with fail
   go_ret
   exact⟨rfl,Below.refl _ _⟩
def Hk (w:World)(a b:LB)(o c i:Value)(wr:World):Prop:=
 ∃(k:Nat) (d:Int) (done:LB),i=.int .i64 k/\c=.int .i64 d/\0<=d/\d<=1/\k<=max a.length b.length+1/\(max a.length b.length<k->d=0)/\done.length=k/\Nm.bZ 10000 done/\wr.ownsRow w.heap.size 3 1 o k (done.map (Value.int .i64))/\Below w.heap.size w wr/\
  Nm.val 10000 done+d*10000^k=Nm.val 10000 (a.take k)+Nm.val 10000 (b.take k)
theorem aRU (w:World)(a b:LB)(u v:Value)(L:Ints w a u)(M:Ints w b v)(am:a.length<=10000000000)(an:b.length<=10000000000)(T:Nm.bZ 10000 a)(U:Nm.bZ 10000 b):
  Calls prog 110 #[u,v] w (jP w λR=>Nm.bZ 10000 R/\Nm.val 10000 R=Nm.val 10000 a+Nm.val 10000 b/\R.length<=max a.length b.length+1):=by
 obtain⟨i,hi,hz,s,N⟩:=info_parts mQ;obtain⟨ao,F,rfl,aa⟩:=L.shape;obtain⟨bo,D,rfl,W⟩:=M.shape;have HA:=hid L;have HB:=hid M;have GA:=hid T;have GB:=hid U;clear L M T U
 go_in
 go_wp2_with fail
 go_loopw [5,6,7] (λo c i wr=>Hk w a b o c i wr) (λ_ _ i _=>max a.length b.length+2-(intOf i).toNat)
 case atStart=>exact⟨0,0,[],rfl,rfl,O,O,O,λh=>by omega,rfl,Nm.bZ.nil _,⟨rfl,Or.inl ⟨rfl,rfl⟩⟩,Below.refl _ _,rfl⟩
 case round=>
  obtain⟨k,n,done,rfl,rfl,c0,c1,hk,B,p,A,f,d,g⟩:=hrel;have HV:=hid g;have C:=hid B;have m:=hid p;have z:=hid A;have l:=hid d;have hs:=d.size
  have ap:k<=10000000001:=O
  have RA:=hid (Zb wr a ao F k (HA.out.below d) O O);have RB:=hid (Zb wr b bo D k (HB.out.below d) O O);have a0:=GA.out.at' E3 k;have b0:=GB.out.at' E3 k;have ST:=hid (Nm.aIP (x:=n+Nm.at' a k+Nm.at' b k) p g rfl)
  have q:Hid (max a.length b.length<=k->Nm.at' a k=0/\Nm.at' b k=0):=λh=>⟨Nm.aJz O,Nm.aJz O⟩
  clear g B p A d;generalize Nm.at' a k=x at*;generalize Nm.at' b k=y at*;obtain⟨a1,a2⟩:=a0;obtain⟨b1,b2⟩:=b0
  by_cases t:(k:Int)<a.length\/(¬(k:Int)<a.length/\(k:Int)<b.length)\/(¬(k:Int)<a.length/\¬(k:Int)<b.length/\0<n)
  .have ag:=hid t
   rcases t with S|⟨S,g2⟩|⟨S,g2,g3⟩
   all_goals
    go_wp2_with fail
    refine(RA.out).mono ?_;rintro e w1⟨rfl,rfl⟩
    go_wp2_with fail
    refine(RB.out).mono ?_;rintro e w1⟨rfl,rfl⟩
    go_wp2_with (at_builtin;refine wpList_append_own _ rfl _ _ 32 rfl _ 3 i (.int .i64 0) 1 8 underlying32 hi hz s N rfl E3 _ _ _ rfl (f.alloc _) ⟨wr.heap.size,0,X⟩ 1 1 [.int .i64 ((n+x+y)%10000)] rfl rfl (cell_one_new _ _ _) (λu hu=>by simp at hu;subst hu;rfl) (by unfold maxLen;omega) O (by simp;omega) ?_;intro v' w3 r j P)
    go_roundw
    case rel=>
     refine⟨k+1,(n+x+y)/10000,done++[(n+x+y)%10000],E4,rfl,O,O,?_,?_,by simp[m.out],z.out.snoc O O,?_,qT f l.out l.out.size _ j,ST.out⟩
     .have:=C.out;omega
     .intro hm;have:=q.out O;omega
     .simpa using r
    case measure=>simp[intOf];omega
  .have n1:¬(k:Int)<a.length:=λh=>t (Or.inl h)
   have n2:¬(k:Int)<b.length:=λh=>t (C4 (Or.inl ⟨n1,h⟩))
   have n3:n=0:=by
    have:¬0<n:=λh=>t (C4 (C4 ⟨n1,n2,h⟩))
    omega
   subst n3;clear t
   go_wp2_with fail
   go_ret
   refine⟨_,done,rfl,⟨z.out,?_,by rw[m.out];omega⟩,?_,l.out⟩
   .have:=HV.out;rw[Nm.zY _ a O,Nm.zY _ b O]at this;omega
   .have:=f;rw[<-m.out]at this;exact this
theorem bB (w:World):Below w.heap.size w w.drew:=⟨rfl,rfl,rfl,A6 _,λ_ _=>rfl⟩
theorem aX (h:Below v.drew.heap.size v.drew s):Below v.heap.size v s:=⟨h.os,h.tape,h.output,h.size,h.block⟩
def Gw (w:World)(a b:LB)(o c i:Value)(wr:World):Prop:=
 ∃(k:Nat) (d:Int) (done:LB),i=.int .i64 k/\c=.int .i64 d/\0<=d/\d<=1/\k<=a.length/\done.length=k/\Nm.bZ 10000 done/\wr.ownsRow w.heap.size 3 1 o k (done.map (Value.int .i64))/\Below w.heap.size w wr/\
  Nm.val 10000 done+Nm.val 10000 (b.take k)=Nm.val 10000 (a.take k)+d*10000^k
theorem aHi (w:World)(a b:LB)(u v:Value)(P:Ints w a u)(R:Ints w b v)(ak:a.length<=10000000000)(S:b.length<=a.length)(W:Nm.bZ 10000 a)(gb:Nm.bZ 10000 b)(D:Nm.val 10000 b<=Nm.val 10000 a):
  Calls prog 112 #[u,v] w (jP w λT=>Nm.bZ 10000 T/\Nm.val 10000 T=Nm.val 10000 a-Nm.val 10000 b/\T.length=a.length):=by
 obtain⟨i,hi,hz,p,C⟩:=info_parts mQ;obtain⟨ao,aj,rfl,ad⟩:=P.shape;obtain⟨bo,N,rfl,ab⟩:=R.shape;have HA:=hid P;have HB:=hid R;have GA:=hid W;have GB:=hid gb;have M:=hid D;clear P R W gb D
 go_in
 go_wp2_with fail
 go_loopw [5,6,11] (λo c i wr=>Gw w a b o c i wr) (λ_ _ i _=>a.length-(intOf i).toNat)
 case atStart=>exact⟨0,0,[],rfl,rfl,O,O,O,rfl,Nm.bZ.nil _,⟨rfl,Or.inl ⟨rfl,rfl⟩⟩,Below.refl _ _,rfl⟩
 case round=>
  obtain⟨k,B,done,rfl,rfl,c0,c1,hk,n,r,h,m,j⟩:=hrel;have HV:=hid j;have q:=hid n;have t:=hid r;have s:=hid m;have L:=m.size
  by_cases al:(k:Int)<a.length
  .obtain⟨g,rfl,hc⟩:=(HA.out.below m).place O;have x1:=hc k O;have RB:=hid (Zb wr.drew b bo N k ((HB.out.below m).below (bB _)) O O);have a0:=GA.out.at' E3 k;have b0:=GB.out.at' E3 k;have ST:=hid (λU d hd=>Nm.aIF (c':=U) (d:=d) n j hd);clear j n r m hc;generalize Nm.at' a k=x at*;generalize Nm.at' b k=y at*;obtain⟨a1,a2⟩:=a0;obtain⟨b1,b2⟩:=b0
   by_cases hn:x-y-B<0
   .go_wp2_with fail
    go_region_with (go_at_call 108;refine(RB.out).mono ?_;rintro e w1⟨rfl,rfl⟩)
    all_goals
     go_wp2_with (at_builtin;refine wpList_append_own _ rfl _ _ 32 rfl _ 3 i (.int .i64 0) 1 8 underlying32 hi hz p C rfl E3 _ _ _ rfl (h.drew.alloc _) ⟨wr.heap.size,0,X⟩ 1 1 [.int .i64 (x-y-B+10000)] rfl rfl (cell_one_new _ _ _) (λu F=>by simp at F;subst F;rfl) (by unfold maxLen;omega) O (by simp;omega) ?_;intro v' w3 l f z)
     go_roundw
     case rel=>
      refine⟨k+1,1,done++[x-y-B+10000],E4,rfl,O,O,O,by simp[q.out],t.out.snoc O O,?_,qT h.drew (s.out.trans ((bB _).mono L)) (by simpa using L) _ f,ST.out 1 _ O⟩
      simpa using l
     case measure=>simp[intOf];omega
   .go_wp2_with fail
    go_region_with (go_at_call 108;refine(RB.out).mono ?_;rintro e w1⟨rfl,rfl⟩)
    all_goals
     go_wp2_with (at_builtin;refine wpList_append_own _ rfl _ _ 32 rfl _ 3 i (.int .i64 0) 1 8 underlying32 hi hz p C rfl E3 _ _ _ rfl (h.drew.alloc _) ⟨wr.heap.size,0,X⟩ 1 1 [.int .i64 (x-y-B)] rfl rfl (cell_one_new _ _ _) (λu F=>by simp at F;subst F;rfl) (by unfold maxLen;omega) O (by simp;omega) ?_;intro v' w3 l f z)
     go_roundw
     case rel=>
      refine⟨k+1,0,done++[x-y-B],E4,rfl,O,O,O,by simp[q.out],t.out.snoc O O,?_,qT h.drew (s.out.trans ((bB _).mono L)) (by simpa using L) _ f,ST.out 0 _ O⟩
      simpa using l
     case measure=>simp[intOf];omega
  .obtain rfl:k=a.length:=O
   have A:=hid (Nm.aLe E3 rfl n r c0 M.out S j);clear j n r m
   go_wp2_with fail
   go_ret
   refine⟨_,done,rfl,⟨t.out,A.out.2,q.out⟩,?_,s.out⟩;have:=h;rw[<-q.out]at this;exact this
def Bits (n:Nat)(z:Int):Prop:=z.natAbs<2^n
variable {x b:Int}
theorem mY (a:Bits w x)(c:Bits w b):Bits (w+1) (x+b):=by
 unfold Bits at*;omega
theorem yU (a:Bits w x):Bits w (-x):=by
 unfold Bits at*;omega
theorem eJ {n m:Nat}(a:Bits n x)(h:n<=m):Bits m x:=B7 a (B8 E3 h)
theorem gG (a:Bits w x)(c:Bits k b):Bits (w+k) (x*b):=by
 unfold Bits at*;rw[Int.natAbs_mul,Nat.pow_add];exact Nat.mul_lt_mul'' a c
theorem Bg (c:Bits w b)(h:x.natAbs<=b.natAbs)(a:w<=k):Bits k x:=B7 (Nat.lt_of_le_of_lt h c) (B8 E3 a)
theorem zZ (a:Bits w x)(c:Bits k b):Bits (max w k) x/\Bits (max w k) b:=⟨eJ a O,eJ c O⟩
theorem aFB (a:Bits w x)(c:Bits w b):Bits (w+1) (x-b):=by
 exact mY a (yU c)
theorem Qn (h:Bits w n):Bits w (n.natAbs:Int):=by
 unfold Bits at*
 simpa using h
theorem aGV (n:Int):Bits (Nat.log2 n.natAbs+1) n:=by
 exact Nat.lt_log2_self
theorem Qo {m:Nat}{a c d:Int}(e:Bits w a)(f:Bits m b)(hc:Bits w c)(hd:Bits m d):Bits (w+m+1) (a*b+c*d):=mY (gG e f) (gG hc hd)
end Go.Proofs.YtnlddnbfoehboaaGreatDoor
