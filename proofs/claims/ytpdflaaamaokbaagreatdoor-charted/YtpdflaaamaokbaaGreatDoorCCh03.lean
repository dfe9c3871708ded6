import Derived.Test.YtpdflaaamaokbaaGreatDoorCCh02
import Derived.Test.YtpdflaaamaokbaaGreatDoorProg
import Derived.WalkSmall
import Derived.BigQuiet
import Derived.Lib.OthersKept
import Derived.Deep.LoopGhost
import Derived.Deep.OwnRows
import Derived.Deep.RegionWith
import Derived.Deep.RegionHeld3
set_option linter.all false
set_option maxRecDepth 100000
set_option maxHeartbeats 2000000
namespace Go.Proofs.YtpdflaaamaokbaaGreatDoor
open List renaming length_cons->j8,length_take->j9,getD_eq_getElem?_getD->k8,getElem?_eq_getElem->k9,take_of_length_le->l4,replicate->l5,mem_cons_of_mem->l7,mem_cons_self->l8,take_append_drop->l9,drop_eq_getElem_cons->n4,getD->n5,getElem?_take_of_lt->n6,map_cons->n7,mem_map->n8
open Nat renaming zero_le->n9,le_refl->o8,lt_of_lt_of_le->o9,lt_or_ge->p7,min_eq_left->p8,pow_le_pow_right->p9,lt_of_le_of_lt->q7,le_max_left->q8,le_max_right->q9,log2->s4,zero_add->s8
open Int renaming pow_succ->s9,le_refl->u7,mul_nonneg->u9,le_of_lt->w9,mul_le_mul_of_nonneg_left->z6,mul_le_mul_of_nonneg_right->z7,pow_add->z8,mul_le_mul->A0,emod_add_mul_ediv->A5,add_comm->A6,natAbs_neg->A7,sub_eq_add_neg->A8
open Or renaming inr->A9
open Go.Value renaming int->B0
open Rd (Wd dY aQ Hu Kt aEs Ib cK bM cF)
open Go.Proofs.Tryz
open Go.RowKit
theorem Ba:(prog.info? 138).map (λi=>(i.zero,i.size,i.bytes))=some (some (.agg #[.int .i64 0,.string ⟨#[]⟩,.int .i64 0]),3,32):=by kernel_rfl
theorem Tn (w:World)(x y z:Value)(t:TypeId):∀j u,[x,y,z][j]?=some u->(w.alloc (.cells #[x,y,z] t)).cell? ((⟨w.heap.size,0,none⟩:Addr).add j)=some u:=by
 intro j u a
 match j,a with
 |0,a=>simp at a;subst a;simp[Addr.add]
 |1,a=>simp at a;subst a;simp[Addr.add]
 |2,a=>simp at a;subst a;simp[Addr.add]
theorem Below.pP (w:World)(o:Obj):(w.alloc o).heap[w.heap.size]?=some o:=by
 show(w.heap.push o)[w.heap.size]?=some o;simp
def oX (s:ByteArray)(w:World)(l i:Value)(wr:World):Prop:=
 ∃(k f:Nat) (done:List Wd),k<=s.size/\i=.int .i64 k/\done.length<=k/\s.size<f+k/\wr.ownsRow w.heap.size 138 3 l done.length (dY done)/\Below w.heap.size w wr/\done++Rd.split s f k=Rd.split s (s.size+1) 0
theorem Ul {x g u:Value}(d:x.oneCell'=true)(e:g.oneCell'=true)(f:u.oneCell'=true):∀a∈[x,g,u],a.oneCell'=true:=by
 intro a b;simp at b
 rcases b with rfl|rfl|rfl<;>assumption
variable {e W:Nat}
theorem Dl {n wr J:World}{w size:Nat}{x:Value}{a:LB}(d:wr.ownsRow w e size x W a)(b:Below w n wr)(q:w<=wr.heap.size)(o:Obj)(r:(wr.alloc o).grownBy J x.ownBlock):Below w n J:=by
 refine Below.grown (b.alloc q o) r (by simp;omega) ?_;intro k f
 rcases d.2 with⟨h,_⟩|⟨g,j,p,h,i,_⟩
 .rw[h]at f;cases f
 .rw[h]at f;cases f;exact i
theorem aMv (s:ByteArray)(f k:Nat)(h:k<s.size)(a:(aQ s k != 32)=true)(done:List Wd):
  done++[⟨Rd.kindOf (aQ s k),s.extract k (Rd.wordEnd s k),k⟩]++Rd.split s f (Rd.wordEnd s k)=done++Rd.split s (f+1) k:=by
 conv=>rhs;rw[Rd.split,decide_eq_true h,a]
 simp
theorem aJ2 (s:ByteArray)(f k:Nat)(h:k<s.size)(a:(aQ s k != 32)=false):Rd.split s f (Rd.wordEnd s k)=Rd.split s (f+1) k:=by
 conv=>rhs;rw[Rd.split,decide_eq_true h,a]
 simp
theorem aO2 (s:ByteArray)(f k:Nat)(h:¬k<s.size):Rd.split s (f+1) k=[⟨0,⟨#[]⟩,s.size⟩]:=by
 rw[Rd.split,decide_eq_false h];rfl
theorem aHF (s:ByteArray)(w i:World)(k f:Nat)(done:List Wd)(j:Value)(x:Wd)(e:Nat)(p:x=⟨Rd.kindOf (aQ s k),s.extract k (Rd.wordEnd s k),k⟩)(o:e=Rd.wordEnd s k)
  (h:k<s.size) (n:(aQ s k != 32)=true) (r:done.length<=k) (u:s.size<f+k) (b:i.ownsRow w.heap.size 138 3 j (done.length+1) (dY done++[.int .i64 x.kind,.string x.text,.int .i64 x.pos]))
  (a:Below w.heap.size w i) (g:done++Rd.split s f k=Rd.split s (s.size+1) 0):oX s w j (.int .i64 e) i:=by
 obtain⟨d,rfl⟩:∃d,f=d+1:=⟨f-1,by omega⟩
 have q:=Hu s k;have l:=Kt s k h;subst o;refine⟨_,d,done++[x],l,rfl,by simp;omega,by omega,?_,a,?_⟩
 .rw[aEs]
  simpa[dY]using b
 .rw[<-g,p];exact aMv s d k h n done
theorem aOO (s:ByteArray)(w i:World)(k f:Nat)(done:List Wd)(l:Value)(e:Nat)(o:e=Rd.wordEnd s k)
  (h:k<s.size) (n:(aQ s k != 32)=false) (q:done.length<=k) (r:s.size<f+k) (b:i.ownsRow w.heap.size 138 3 l done.length (dY done))
  (a:Below w.heap.size w i) (g:done++Rd.split s f k=Rd.split s (s.size+1) 0):oX s w l (.int .i64 e) i:=by
 obtain⟨d,rfl⟩:∃d,f=d+1:=⟨f-1,by omega⟩
 have p:=Hu s k;have j:=Kt s k h;subst o;exact⟨_,d,done,j,rfl,by omega,by omega,b,a,by rw[<-g,aJ2 s d k h n]⟩
theorem aO1 (s:ByteArray)(w:World)(M:s.size<=120):
  Calls prog 100 #[.string s] w λe z=>∃v,e=.returned v/\z.ownsRow w.heap.size 138 3 v (Rd.split s (s.size+1) 0).length (dY (Rd.split s (s.size+1) 0))/\Below w.heap.size w z:=by
 obtain⟨i,hi,H,n,x⟩:=info_parts Ba
 go_enter func100,ntmps100
 go_wp2_with fail
 go_loopw [3,4] (λl i wr=>oX s w l i wr) (λ_ i _=>s.size-(intOf i).toNat)
 case atStart=>
  refine⟨0,s.size+1,[],n9 _,rfl,o8 _,by omega,?_,(Below.refl _ _).alloc (o8 _) _,rfl⟩;refine⟨rfl,A9 ⟨w.heap.size,0,#[],rfl,o8 _,Below.pP _ _,o8 _,n9 _,rfl,rfl⟩⟩
 case round=>
  obtain⟨k,f,done,O,rfl,E,F,g,j,C⟩:=hrel;have q:Hid (done++Rd.split s f k=Rd.split s (s.size+1) 0):=C;clear C;have y:=j.size
  by_cases c1:k<s.size
  .have h:=Ib s k c1;cases c2:cK (s[k].toNat:Int)
   .cases c3:Rd.isLet (s[k].toNat:Int)
    .cases c4:((s[k].toNat:Int) != 32)
     .have p:Rd.kindOf (s[k].toNat:Int)=3:=by simp[Rd.kindOf,c2,c3]
      have b:Hid (Rd.wordEnd s k=k+1):=by show Rd.wordEnd s k=k+1;simp[Rd.wordEnd,h,c2,c3]
      have u:Hid (aQ s k=(s[k].toNat:Int)):=h;clear h
      go_wp2_with (go_at_call 120;refine(Tw _ _).mono ?_;rintro e z⟨rfl,rfl⟩)
      go_roundw
      case rel=>exact aOO s w _ k f done _ (k+1) b.out.symm c1 (by rw[u.out];exact c4) E F g j q.out
      case measure=>simp[intOf];omega
     .have p:Rd.kindOf (s[k].toNat:Int)=3:=by simp[Rd.kindOf,c2,c3]
      have b:Hid (Rd.wordEnd s k=(k+1)):=by show Rd.wordEnd s k=(k+1);simp[Rd.wordEnd,h,c2,c3]
      have A:k<(k+1):=by have r:=Hu s k;rw[b.out]at r;omega
      have B:(k+1)<=s.size:=by have r:=Kt s k c1;rw[b.out]at r;omega
      have u:Hid (aQ s k=(s[k].toNat:Int)):=h;clear h
      go_wp2_with (first|(go_at_call 120;refine(Tw _ _).mono ?_;rintro e z⟨rfl,rfl⟩)|(at_builtin;(refine wpList_append_own _ rfl _ _ 140 rfl w.heap.size 138 i (.agg #[.int .i64 0,.string ⟨#[]⟩,.int .i64 0]) 3 32 underlying140 hi H n x rfl (by decide) _ _ _ rfl (g.alloc _) ⟨wr.heap.size,0,none⟩ 1 1 [.int .i64 3,.string (s.extract k (k+1)),.int .i64 k] rfl rfl (Tn _ _ _ _ _) (Ul rfl rfl rfl) (by unfold maxLen;omega) (by omega) (by simp;omega) ?_);intro J L d a o))
      go_roundw
      case rel=>exact aHF s w _ k f done _ ⟨3,s.extract k (k+1),k⟩ (k+1) (by rw[u.out,p,b.out]) b.out.symm c1 (by rw[u.out];exact c4) E F d (Dl g j y _ a) q.out
      case measure=>simp[intOf];omega
    .have c4:((s[k].toNat:Int) != 32)=true:=by simp[Rd.isLet]at c3;rw[bne_iff_ne];omega
     have p:Rd.kindOf (s[k].toNat:Int)=2:=by simp[Rd.kindOf,c2,c3]
     have b:Hid (Rd.wordEnd s k=(bM s s.size (k+1))):=by show Rd.wordEnd s k=(bM s s.size (k+1));simp[Rd.wordEnd,h,c2,c3]
     have A:k<(bM s s.size (k+1)):=by have r:=Hu s k;rw[b.out]at r;omega
     have B:(bM s s.size (k+1))<=s.size:=by have r:=Kt s k c1;rw[b.out]at r;omega
     have u:Hid (aQ s k=(s[k].toNat:Int)):=h;clear h
     go_wp2_with (first|(go_at_call 120;refine(Tw _ _).mono ?_;rintro e z⟨rfl,rfl⟩)|(go_at_call 122;refine(aJP _ _ _ M c1).mono ?_;rintro e z⟨rfl,rfl⟩)|(at_builtin;(refine wpList_append_own _ rfl _ _ 140 rfl w.heap.size 138 i (.agg #[.int .i64 0,.string ⟨#[]⟩,.int .i64 0]) 3 32 underlying140 hi H n x rfl (by decide) _ _ _ rfl (g.alloc _) ⟨wr.heap.size,0,none⟩ 1 1 [.int .i64 2,.string (s.extract k (bM s s.size (k+1))),.int .i64 k] rfl rfl (Tn _ _ _ _ _) (Ul rfl rfl rfl) (by unfold maxLen;omega) (by omega) (by simp;omega) ?_);intro J L d a o))
     go_roundw
     case rel=>exact aHF s w _ k f done _ ⟨2,s.extract k (bM s s.size (k+1)),k⟩ (bM s s.size (k+1)) (by rw[u.out,p,b.out]) b.out.symm c1 (by rw[u.out];exact c4) E F d (Dl g j y _ a) q.out
     case measure=>simp[intOf];omega
   .have c4:((s[k].toNat:Int) != 32)=true:=by simp[cK]at c2;rw[bne_iff_ne];omega
    have p:Rd.kindOf (s[k].toNat:Int)=1:=by simp[Rd.kindOf,c2]
    have b:Hid (Rd.wordEnd s k=(cF s k 9 (k+1))):=by show Rd.wordEnd s k=(cF s k 9 (k+1));simp[Rd.wordEnd,h,c2]
    have A:k<(cF s k 9 (k+1)):=by have r:=Hu s k;rw[b.out]at r;omega
    have B:(cF s k 9 (k+1))<=s.size:=by have r:=Kt s k c1;rw[b.out]at r;omega
    have u:Hid (aQ s k=(s[k].toNat:Int)):=h;clear h
    go_wp2_with (first|(go_at_call 120;refine(Tw _ _).mono ?_;rintro e z⟨rfl,rfl⟩)|(go_at_call 121;refine(aHr _ _ _ M c1).mono ?_;rintro e z⟨rfl,rfl⟩)|(at_builtin;(refine wpList_append_own _ rfl _ _ 140 rfl w.heap.size 138 i (.agg #[.int .i64 0,.string ⟨#[]⟩,.int .i64 0]) 3 32 underlying140 hi H n x rfl (by decide) _ _ _ rfl (g.alloc _) ⟨wr.heap.size,0,none⟩ 1 1 [.int .i64 1,.string (s.extract k (cF s k 9 (k+1))),.int .i64 k] rfl rfl (Tn _ _ _ _ _) (Ul rfl rfl rfl) (by unfold maxLen;omega) (by omega) (by simp;omega) ?_);intro J L d a o))
    go_roundw
    case rel=>exact aHF s w _ k f done _ ⟨1,s.extract k (cF s k 9 (k+1)),k⟩ (cF s k 9 (k+1)) (by rw[u.out,p,b.out]) b.out.symm c1 (by rw[u.out];exact c4) E F d (Dl g j y _ a) q.out
    case measure=>simp[intOf];omega
  .obtain⟨I,D⟩:∃I,f=I+1:=⟨f-1,by omega⟩
   have N:Hid (Rd.split s (s.size+1) 0=done++[⟨0,⟨#[]⟩,s.size⟩]):=by
    show _=_;rw[<-q.out,D,aO2 s I k c1]
   clear D
   go_wp2_with (at_builtin;refine wpList_append_own _ rfl _ _ 140 rfl w.heap.size 138 i (.agg #[.int .i64 0,.string ⟨#[]⟩,.int .i64 0]) 3 32 underlying140 hi H n x rfl (by decide) _ _ _ rfl (g.alloc _) ⟨wr.heap.size,0,none⟩ 1 1 [.int .i64 0,.string ⟨#[]⟩,.int .i64 s.size] rfl rfl (Tn _ _ _ _ _) (Ul rfl rfl rfl) (by unfold maxLen;omega) (by omega) (by simp;omega) ?_;intro J L d a o)
   go_ret
   refine⟨_,rfl,?_,Dl g j y _ a⟩;rw[N.out,aEs]
   simpa[dY]using d
theorem aGl (d p:Int)(t:ByteArray)(w:World)(g:t.size<=9):
  Calls prog 159 #[.agg #[.int .i64 d,.string t,.int .i64 p]] w λe a=>e=.returned (.int .i64 (Rd.valTo t t.size))/\w.alloc (.cells #[.int .i64 d,.string t,.int .i64 p] 138)=a:=by
 go_enter func159,ntmps159
 go_wp2_with fail
 go_loop [3,4] (λv i=>∃k:Nat,k<=t.size/\i=.int .i64 k/\v=.int .i64 (Rd.valTo t k)) (λ_ i=>t.size-(intOf i).toNat)
 case atStart=>exact⟨0,n9 _,rfl,rfl⟩
 case round=>
  obtain⟨k,f,rfl,rfl⟩:=hrel;have h:=Rd.aHQ t k;have j:=Rd.aLx t k (by omega)
  by_cases c1:k<t.size
  .have b:Hid (aQ t k=(t[k].toNat:Int)):=Ib t k c1;cases c2:cK (t[k].toNat:Int)
   .go_wp2_with (go_at_call 140;refine(Fs _ _).mono ?_;rintro e a⟨rfl,rfl⟩)
    go_round
    case rel=>exact⟨k+1,by omega,by go_num,by rw[Rd.valTo,b.out,c2];rfl⟩
    case measure=>simp[intOf];omega
   .have b0:48<=(t[k].toNat:Int):=by simp[cK]at c2;omega
    have b1:(t[k].toNat:Int)<=57:=by simp[cK]at c2;omega
    go_wp2_with (go_at_call 140;refine(Fs _ _).mono ?_;rintro e a⟨rfl,rfl⟩)
    go_round
    case rel=>exact⟨k+1,by omega,by go_num,by rw[Rd.valTo,b.out,c2];simp⟩
    case measure=>simp[intOf];omega
  .go_wp2_with fail
   go_ret
   exact⟨yM (by rw[show k=t.size by omega]),rfl⟩
theorem aOb (t:ByteArray)(w:World):
  Calls prog 161 #[.string t] w λe a=>e=.returned (.int .i64 (Rd.named t))/\w=a:=by
 go_enter func161,ntmps161
 go_wp2
 all_goals
  go_ret
  exact⟨yM (by simp[Rd.named,<-Rd.aRB, *]),rfl⟩
structure aZ (rb:Nat) (w w':World):Prop where
 os:w'.os=w.os
 tape:w'.tape=w.tape
 output:w'.output=w.output
 size:w.heap.size<=w'.heap.size
 block:∀k,k<w.heap.size->k≠rb->w'.heap[k]?=w.heap[k]?
theorem aZ.refl (rb:Nat)(w:World):aZ rb w w:=⟨rfl,rfl,rfl,o8 _,λ_ _ _=>rfl⟩
theorem aZ.trans {rb:Nat}{a b c:World}(h:aZ rb a b)(k:aZ rb b c):aZ rb a c:=
 ⟨k.os.trans h.os,k.tape.trans h.tape,k.output.trans h.output,Nat.le_trans h.size k.size,λi hi d=>(k.block i (o9 hi h.size) d).trans (h.block i hi d)⟩
variable {rb:Nat}{w b:World}
theorem aZ.eC (h:Below w.heap.size w b):aZ rb w b:=⟨h.os,h.tape,h.output,h.size,λk a _=>h.block k a⟩
theorem aZ.drewN {rb:Nat}{a w:World}(h:aZ rb a w)(n:Nat):aZ rb a (w.drewN n):=⟨h.os,h.tape,h.output,h.size,h.block⟩
theorem aZ.alloc {rb:Nat}{a w:World}(h:aZ rb a w)(o:Obj):aZ rb a (w.alloc o):=
 h.trans (aZ.eC ((Below.refl _ _).alloc (o8 _) o))
theorem aZ.setCell {rb:Nat}{a w:World}(h:aZ rb a w)(o:Nat)(u:Value):aZ rb a (w.setCell ⟨rb,o,none⟩ u):=
 h.trans ⟨rfl,rfl,rfl,by simp[World.setCell],λk _ d=>Below.heap_setCell _ _ _ _ d⟩
structure Rdr (w:World) (rb g cap:Nat) (ws:List Wd) (st:Rd.St):Prop where
 rd:w.heap[rb]?=some (.cells #[.slice (some ⟨g,0,none⟩) ws.length cap,.int .i64 st.next,.int .i64 st.around,.int .i64 st.deepest,.int .i64 st.nodes] 142 (0,0))
 row:∃cur,w.heap[g]?=some (.cells cur 138 (0,0))/\cur.toList.take (ws.length*3)=dY ws
 ne:g≠rb
variable {k:Nat}
theorem fJ {o:Obj}(h:w.heap[k]?=some o):k<w.heap.size:=by
 rcases p7 k w.heap.size with h1|h1
 .exact h1
 .rw[Array.getElem?_eq_none h1]at h;cases h
variable {g cap:Nat}{ws:List Wd}{st:Rd.St}
theorem Rdr.lt (h:Rdr w rb g cap ws st):rb<w.heap.size:=fJ h.rd
theorem Rdr.aT {a:Rd.St}(h:Rdr w rb g cap ws st)(i:aZ rb w b)
  (j:b.heap[rb]?=some (.cells #[.slice (some ⟨g,0,none⟩) ws.length cap,.int .i64 a.next,.int .i64 a.around,.int .i64 a.deepest,.int .i64 a.nodes] 142 (0,0))):Rdr b rb g cap ws a:=by
 obtain⟨d,e,f⟩:=h.row;exact⟨j,⟨d,by rw[i.block g (fJ e) h.ne];exact e,f⟩,h.ne⟩
theorem Rdr.below (h:Rdr w rb g cap ws st)(a:Below w.heap.size w b):Rdr b rb g cap ws st:=
 h.aT (aZ.eC a) (by rw[a.block rb h.lt];exact h.rd)
variable {b o:Nat}{xs:Array Value}
theorem aX {t:TypeId}{v:Value}(h:w.heap[b]?=some (.cells xs t (0,0)))(hv:xs[o]?=some v):w.cell? ⟨b,o,none⟩=some v:=by
 simp[World.cell?,h,hv]
theorem jY {t:TypeId}(h:w.heap[b]?=some (.cells xs t (0,0))):w.frozen? ⟨b,o,none⟩=false:=by
 simp[World.frozen?,h]
section
variable {w:World} {b:Nat} {xs:Array Value} {t:TypeId} {u v x y:Value}
theorem kI (h:w.heap[b]?=some (.cells xs t (0,0)))(a:xs[0]?=some u)(d:xs[1]?=some v):w.cell? ⟨b,0,none⟩=some u/\w.cell? ⟨b,1,none⟩=some v:=⟨aX h a,aX h d⟩
theorem qP (h:w.heap[b]?=some (.cells xs t (0,0)))(a:xs[0]?=some u)(d:xs[1]?=some v)(e:xs[2]?=some x):w.cell? ⟨b,0,none⟩=some u/\w.cell? ⟨b,1,none⟩=some v/\w.cell? ⟨b,2,none⟩=some x:=⟨aX h a,aX h d,aX h e⟩
theorem cl4 (h:w.heap[b]?=some (.cells xs t (0,0)))(a:xs[0]?=some u)(d:xs[1]?=some v)(e:xs[2]?=some x)(f:xs[3]?=some y):w.cell? ⟨b,0,none⟩=some u/\w.cell? ⟨b,1,none⟩=some v/\w.cell? ⟨b,2,none⟩=some x/\w.cell? ⟨b,3,none⟩=some y:=⟨aX h a,aX h d,aX h e,aX h f⟩
theorem Eg (h:w.heap[b]?=some (.cells xs t (0,0))):w.frozen? ⟨b,0,none⟩=false/\w.frozen? ⟨b,1,none⟩=false:=⟨jY h,jY h⟩
theorem cf2 (h:w.heap[b]?=some (.cells xs t (0,0)))(a:xs[0]?=some u)(d:xs[1]?=some v):w.cell? ⟨b,0,none⟩=some u/\w.cell? ⟨b,1,none⟩=some v/\w.frozen? ⟨b,0,none⟩=false/\w.frozen? ⟨b,1,none⟩=false:=⟨aX h a,aX h d,jY h,jY h⟩
theorem Ea (h:w.heap[b]?=some (.cells xs t (0,0)))(a:xs[0]?=some u)(d:xs[1]?=some v)(e:xs[2]?=some x):w.cell? ⟨b,0,none⟩=some u/\w.cell? ⟨b,1,none⟩=some v/\w.cell? ⟨b,2,none⟩=some x/\w.frozen? ⟨b,0,none⟩=false/\w.frozen? ⟨b,1,none⟩=false/\w.frozen? ⟨b,2,none⟩=false:=⟨aX h a,aX h d,aX h e,jY h,jY h,jY h⟩
end
theorem sF {t:TypeId}{m:Nat×Nat}(h:w.heap[b]?=some (.cells xs t m))(u:Value):(w.setCell ⟨b,o,none⟩ u).heap[b]?=some (.cells (xs.setIfInBounds o u) t m):=by
 simp[World.setCell,Array.getElem?_modify,h]
section
variable {w:World} {rb g cap:Nat} {ws:List Wd} {st:Rd.St}
theorem Rdr.c0 (h:Rdr w rb g cap ws st):w.cell? ⟨rb,0,none⟩=some (.slice (some ⟨g,0,none⟩) ws.length cap):=aX h.rd rfl
theorem Rdr.c1 (h:Rdr w rb g cap ws st):w.cell? ⟨rb,1,none⟩=some (.int .i64 st.next):=aX h.rd rfl
theorem Rdr.c2 (h:Rdr w rb g cap ws st):w.cell? ⟨rb,2,none⟩=some (.int .i64 st.around):=aX h.rd rfl
theorem Rdr.c3 (h:Rdr w rb g cap ws st):w.cell? ⟨rb,3,none⟩=some (.int .i64 st.deepest):=aX h.rd rfl
theorem Rdr.c4 (h:Rdr w rb g cap ws st):w.cell? ⟨rb,4,none⟩=some (.int .i64 st.nodes):=aX h.rd rfl
theorem Rdr.fz (h:Rdr w rb g cap ws st)(o:Nat):w.frozen? ⟨rb,o,none⟩=false:=jY h.rd
theorem Rdr.alloc (h:Rdr w rb g cap ws st)(o:Obj):Rdr (w.alloc o) rb g cap ws st:=h.below ((Below.refl _ _).alloc (o8 _) o)
theorem Rdr.drewN (h:Rdr w rb g cap ws st)(n:Nat):Rdr (w.drewN n) rb g cap ws st:=⟨h.rd,h.row,h.ne⟩
theorem Rdr.yC (h:Rdr w rb g cap ws st)(n:Nat){m:Int}(a:m=(n:Int)):Rdr (w.setCell ⟨rb,1,none⟩ (.int .i64 m)) rb g cap ws {st with next:=n}:=
 h.aT ((aZ.refl _ _).setCell 1 _) (by subst a;rw[sF h.rd];rfl)
theorem Rdr.Ey (h:Rdr w rb g cap ws st)(n:Nat){m:Int}(a:m=(n:Int)):Rdr (w.setCell ⟨rb,2,none⟩ (.int .i64 m)) rb g cap ws {st with around:=n}:=
 h.aT ((aZ.refl _ _).setCell 2 _) (by subst a;rw[sF h.rd];rfl)
theorem Rdr.tH (h:Rdr w rb g cap ws st)(n:Nat){m:Int}(a:m=(n:Int)):Rdr (w.setCell ⟨rb,3,none⟩ (.int .i64 m)) rb g cap ws {st with deepest:=n}:=
 h.aT ((aZ.refl _ _).setCell 3 _) (by subst a;rw[sF h.rd];rfl)
theorem Rdr.Ez (h:Rdr w rb g cap ws st)(n:Nat){m:Int}(a:m=(n:Int)):Rdr (w.setCell ⟨rb,4,none⟩ (.int .i64 m)) rb g cap ws {st with nodes:=n}:=
 h.aT ((aZ.refl _ _).setCell 4 _) (by subst a;rw[sF h.rd];rfl)
end
namespace Nm
def val (B:Int):List Int->Int
 | []=>0
 |d::r=>d+B*val B r
def cX (B:Int)(l:LN):Prop:=∀d∈l,0<=d/\d<B
def Top (l:LN):Prop:=∀(h:l≠[]),l.getLast h≠0
def at' (l:LN)(i:Nat):Int:=l.getD i 0
theorem Ty (B:Int):∀l r,val B (l++r)=val B l+B^l.length*val B r:=by
 intro l r
 induction l with
 |nil=>simp[val]
 |cons d l a=>simp only[List.cons_append,val,j8,a,s9];grind
theorem Dt (B:Int)(l:LN)(d:Int):val B (l++[d])=val B l+d*B^l.length:=by
 rw[Ty];simp only[val];grind
theorem yQ (B:Int)(l:LN)(i:Nat):val B (l.take (i+1))=val B (l.take i)+at' l i*B^i:=by
 rcases p7 i l.length with h|h
 .rw[List.take_succ_eq_append_getElem h,Dt,j9,p8 (by omega)];unfold at';rw[k8,k9 h];rfl
 .rw[l4 (by omega),l4 h];unfold at';rw[k8,List.getElem?_eq_none h];simp
variable {i:Nat}
theorem Fm (B:Int)(l:LN)(h:l.length<=i):val B (l.take i)=val B l:=by
 rw[l4 h]
theorem aPt (B:Int):∀(l:LN) (k:Nat) (x:Int),k<l.length->val B (l.set k x)=val B l+(x-at' l k)*B^k:=by
 intro l
 induction l with
 |nil=>intro k x h;simp at h
 |cons d l a=>
  intro k x h
  cases k with
  |zero=>simp[val,at'];grind
  |succ k=>
   have:=a k x (by simpa using h);simp only[List.set_cons_succ,val,this,s9,at',List.getD_cons_succ];grind
theorem cX.nil (B:Int):cX B []:=λd h=>by cases h
variable {v d:Int}{s:LN}
theorem cX.cons (a:0<=d)(b:d<v)(h:cX v s):cX v (d::s):=by grind [cX]
theorem cX.snoc (h:cX v s)(a:0<=d)(b:d<v):cX v (s++[d]):=by grind [cX]
theorem cX.take {v:Int}{s:LN}(h:cX v s)(n:Nat):cX v (s.take n):=λd a=>h d (List.mem_of_mem_take a)
theorem cX.set {v:Int}{s:LN}(h:cX v s)(k:Nat){x:Int}(a:0<=x)(b:x<v):cX v (s.set k x):=by grind [cX]
theorem cX.at' {B:Int}{s:LN}(a:0<B)(h:cX B s)(i:Nat):0<=at' s i/\at' s i<B:=by
 unfold Nm.at';rw[k8]
 cases b:s[i]? with
 |none=>exact⟨u7 _,a⟩
 |some x=>exact h x (List.mem_of_getElem? b)
theorem cX.lZ (a:0<v)(n:Nat):cX v (l5 n 0):=by grind [cX]
theorem aGk (B:Int)(n:Nat):val B (l5 n 0)=0:=by
 induction n with
 |zero=>rfl
 |succ n a=>rw[List.replicate_succ,val,a];simp
variable {B:Int}
theorem jZ (a:0<B)(n:Nat):0<B^n:=Int.pow_pos a
theorem rM (b:0<B):∀{l},cX B l->0<=val B l:=by
 intro l
 induction l with
 |nil=>intro _;exact u7 _
 |cons d l f=>
  intro h;have a:=f (λx e=>h x (l7 _ e));have g:=h d l8;have:=u9 (w9 b) a;simp only[val];omega
theorem xK (a:0<B):∀{l},cX B l->val B l<B^l.length:=by
 intro l
 induction l with
 |nil=>intro _;simp[val]
 |cons d l e=>
  intro h;have f:=e (λx b=>h x (l7 _ b));have g:=h d l8;have:B*(val B l+1)<=B*B^l.length:=z6 (by omega) (w9 a);rw[Int.mul_add,Int.mul_one,Int.mul_comm B (B^l.length)]at this;simp only[val,j8,s9];omega
def strip (l:LN):LN:=(l.reverse.dropWhile (·==0)).reverse
theorem My (l:LN):strip (l++[0])=strip l:=by simp[strip]
theorem Np (l:LN)(h:d≠0):strip (l++[d])=l++[d]:=by simp[strip,h]
theorem Vi {p:List Int->Prop}(a:p [])(b:∀l d,p l->p (l++[d])):∀l,p l:=by
 intro l;rw[<-List.reverse_reverse l]
 induction l.reverse with
 |nil=>exact a
 |cons d r e=>rw[List.reverse_cons];exact b _ _ e
theorem Cq (B:Int):∀l,val B (strip l)=val B l:=by
 refine Vi rfl ?_;intro l d a
 by_cases h:d=0
 .subst h;rw[My,a,Dt];simp
 .rw[Np l h]
theorem wV:∀l,(strip l).length<=l.length:=by
 refine Vi (o8 _) ?_;intro l d a
 by_cases h:d=0
 .subst h;rw[My];simp;omega
 .rw[Np l h];exact o8 _
theorem Zp:∀l,strip l=l.take (strip l).length:=by
 refine Vi rfl ?_;intro l d a
 by_cases h:d=0
 .subst h;rw[My,List.take_append_of_le_length (wV l)];exact a
 .rw[Np l h,List.take_length]
theorem cX.strip {v:Int}{s:LN}(h:cX v s):cX v (strip s):=by
 rw[Zp];exact h.take _
theorem aPk:∀l,Top (strip l):=by
 refine Vi ?_ ?_
 .intro h;exact absurd rfl h
 .intro l d a
  by_cases h:d=0
  .subst h;rw[My];exact a
  .rw[Np l h];intro _;simpa using h
theorem Top.nil:Top []:=λh=>absurd rfl h
theorem aQ1 (h:d≠0):Top (s++[d]):=by intro _;simpa using h
structure Good (B:Int) (l:LN):Prop where
 eS:cX B l
 top:Top l
theorem Good.nil (B:Int):Good B []:=⟨cX.nil B,Top.nil⟩
theorem Cn (h:cX v s):Good v (strip s):=⟨h.strip,aPk s⟩
theorem aEF (h:Good v s):s=[]\/∃r d,s=r++[d]/\cX v r/\1<=d/\d<v:=by
 rcases List.eq_nil_or_concat s with a|⟨r,d,a⟩
 .exact Or.inl a
 .refine A9 ⟨r,d,by rw[a];simp,λx f=>h.eS x (by rw[a];simp[f]),?_⟩;have g:=h.eS d (by rw[a];simp);have b:=h.top (by rw[a];simp)
  have e:s.getLast (by rw[a];simp)=d:=by simp[a]
  rw[e]at b;omega
theorem Lo (a:0<v)(h:Good v s)(e:s≠[]):v^(s.length-1)<=val v s:=by
 rcases aEF h with rfl|⟨r,d,rfl,f,b,_⟩
 .exact absurd rfl e
 .rw[Dt];have g:=rM a f;have i:=z7 b (w9 (jZ a r.length));simp only[List.length_append,j8,List.length_nil,Nat.add_sub_cancel];omega
theorem Gb (b:0<v)(h:Good v s):val v s=0↔s=[]:=by
 constructor
 .intro a
  by_cases d:s=[]
  .exact d
  .have e:=Lo b h d;have:=jZ b (s.length-1);omega
 .intro a;rw[a];rfl
theorem tQ (b:1<=B){m n:Nat}(h:m<=n):B^m<=B^n:=by
 obtain⟨k,rfl⟩:=Nat.exists_eq_add_of_le h;rw[z8]
 have a:1<=B^k:=by have:=jZ (B:=B) (by omega) k;omega
 have:=z6 a (w9 (jZ (B:=B) (by omega) m));omega
variable {a b:LN}
theorem Tz (e:1<=v)(f:cX v a)(g:Good v b)(h:a.length<b.length):val v a<val v b:=by
 have i:=xK (by omega) f;have j:=Lo (by omega) g (by intro d;rw[d]at h;simp at h);have k:=tQ e (show a.length<=b.length-1 by omega);omega
theorem aPr (q:1<=v)(j:cX v a)(l:cX v b)(i:Nat)(o:a.drop (i+1)=b.drop (i+1))(h:at' a i<at' b i)(k:i<a.length)(n:i<b.length):val v a<val v b:=by
 have d:val v a=val v (a.take (i+1))+v^(i+1)*val v (a.drop (i+1)):=by
  conv=>lhs;rw[<-l9 (i+1) a,Ty,j9,p8 (by omega)]
 have e:val v b=val v (b.take (i+1))+v^(i+1)*val v (b.drop (i+1)):=by
  conv=>lhs;rw[<-l9 (i+1) b,Ty,j9,p8 (by omega)]
 rw[d,e,o,yQ,yQ];have f:=xK (by omega) (j.take i);have p:=rM (by omega) (l.take i);rw[j9,p8 (by omega)]at f;have g:(at' a i+1)*v^i<=at' b i*v^i:=z7 (by omega) (w9 (jZ (by omega) i));rw[Int.add_mul,Int.one_mul]at g;omega
theorem aP7 (b:2<=v)(h:Good v s){w:Nat}(hv:val v s<2^w):s.length<=w:=by
 by_cases a:s=[]
 .subst a;simp
 .have e:=Lo (by omega) h a
  have f:(2:Int)^(s.length-1)<=v^(s.length-1):=by
   generalize s.length-1=k
   induction k with
   |zero=>simp
   |succ k d=>
    rw[s9,s9];exact A0 d b (by omega) (w9 (jZ (by omega) k))
  rcases p7 w s.length with h3|h3
  .have g:=tQ (B:=2) (by omega) (show w<=s.length-1 by omega);omega
  .exact h3
variable {x:Int}
theorem aOF {c:Int}{out:LN}(f:out.length=i)(h:val v out+c*v^i=val v (a.take i)+val v (b.take i))(g:x=c+at' a i+at' b i):
  val v (out++[x%v])+x/v*v^(i+1)=val v (a.take (i+1))+val v (b.take (i+1)):=by
 rw[Dt,yQ,yQ,f,s9];have:=A5 x v;generalize x%v=d at*;generalize x/v=e at*;grind
variable {r:Int}
theorem aN3 {c:Int}{out:LN}(e:out.length=i)(h:val v out+val v (b.take i)=val v (a.take i)+c*v^i)(f:d=at' a i-at' b i-c+r*v):
  val v (out++[d])+val v (b.take (i+1))=val v (a.take (i+1))+r*v^(i+1):=by
 rw[Dt,yQ,yQ,e,s9];grind
theorem aQd {c:Int}(e:0<v){out:LN}(q:a.length=i)(n:out.length=i)(o:cX v out)(hc:0<=c)(l:val v b<=val v a)(d:b.length<=i)
  (h:val v out+val v (b.take i)=val v (a.take i)+c*v^i):c=0/\val v out=val v a-val v b:=by
 rw[Fm v a (by omega),Fm v b d]at h;have f:=xK e o;rw[n]at f;have k:=jZ e i
 have g:c*v^i<1*v^i:=by omega
 have p:=Int.lt_of_mul_lt_mul_right g (w9 k)
 have j:c=0:=by omega
 subst j;exact⟨rfl,by omega⟩
theorem aKQ {c y:Int}{out:LN}(a:i+k<out.length)(h:val v out+c*v^(i+k)=r+y*val v (b.take k)*v^i)(g:x=c+at' out (i+k)+y*at' b k):
  val v (out.set (i+k) (x%v))+x/v*v^(i+(k+1))=r+y*val v (b.take (k+1))*v^i:=by
 rw[aPt v out (i+k) (x%v) a,yQ,<-Nat.add_assoc,s9];have:=A5 x v;have f:v^(i+k)=v^i*v^k:=z8 v i k;generalize x%v=d at*;generalize x/v=e at*;generalize at' out (i+k)=o at*;rw[f]at h ⊢;generalize v^i=P at*;generalize v^k=Q at*;grind
theorem aIx {c a b:Int}(h:1<=v)(c0:0<=c)(c1:c<v)(j:0<=r)(o1:r<v)(a0:0<=a)(a1:a<v)(b0:0<=b)(b1:b<v)(i:x=c+r+a*b):0<=x/\0<=x/v/\x/v<v/\x<v*v:=by
 have e:a*b<=(v-1)*(v-1):=A0 (by omega) (by omega) b0 (by omega)
 have f:(v-1)*(v-1)=v*v-2*v+1:=by grind
 have g:0<=a*b:=u9 a0 b0
 have d:x<v*v:=by omega
 exact⟨by omega,Int.ediv_nonneg (by omega) (by omega),Int.ediv_lt_of_lt_mul (by omega) d,d⟩
def cmp (x y:Int):Int:=bif decide (x<y)then -1 else bif decide (x=y)then 0 else 1
variable {z:Int}
theorem jC (h:x<z):cmp x z=-1:=by rw[cmp,decide_eq_true h];rfl
theorem hO (h:z<x):cmp x z=1:=by grind [cmp]
theorem jB (h:x=z):cmp x z=0:=by grind [cmp]
theorem aQe (f:a.length=b.length)(hi:i<a.length)(e:a.drop (i+1)=b.drop (i+1))(h:at' a i=at' b i):a.drop i=b.drop i:=by
 have d:i<b.length:=by omega
 rw[n4 hi,n4 d,e];congr 1;unfold at' at h;rw[k8,k8,k9 hi,k9 d]at h;exact h
theorem Kw (B:Int)(l:LN)(i:Nat)(h:i<l.length):val B (l.drop i)=at' l i+B*val B (l.drop (i+1)):=by
 rw[n4 h,val];unfold at';rw[k8,k9 h];rfl
theorem Tt {a b q:Int}(f:0<b)(h:a=q*b+r)(d:0<=r)(e:r<b):a/b=q/\a%b=r:=by
 subst h;refine⟨?_,?_⟩
 .rw[A6,Int.add_mul_ediv_right _ _ (by omega),Int.ediv_eq_zero_of_lt d e];omega
 .rw[A6,Int.add_mul_emod_self_right,Int.emod_eq_of_lt d e]
theorem aNB {a b q:Int}(d:0<b)(h:a=q*b+r)(f:0<=r)(g:r<b):(-a)/b=if r=0 then -q else -q-1:=by
 by_cases e:r=0
 .rw[if_pos e];exact(Tt d (q:=-q) (r:=0) (by subst h e;grind) (by omega) d).1
 .rw[if_neg e];exact(Tt d (q:=-q-1) (r:=b-r) (by subst h;grind) (by omega) (by omega)).1
end Nm
theorem hid {p:Prop}(h:p):Hid p:=h
def iB (B:Nat)(w:World)(a:LN)(v:Value):Prop:=w.ownsRow B 3 1 v a.length (a.map (B0 .i64))
abbrev Ints (w:World)(a:LN)(v:Value):Prop:=iB 0 w a v
variable {n:World}{x:Value}{a:LB}
theorem aIF {b:World}{w s:Nat}(h:n.ownsRow w e s x W a)(l:Below n.heap.size n b):b.ownsRow w e s x W a:=by
 obtain⟨k,i⟩:=h;refine⟨k,?_⟩
 rcases i with i|⟨g,d,f,hv,o,j,r⟩
 .exact Or.inl i
 .exact A9 ⟨g,d,f,hv,o,by rw[l.block g (fJ j)];exact j,r⟩
theorem aQu {w s:Nat}(h:n.ownsRow w e s x b a)(o:k<=w):n.ownsRow k e s x b a:=by
 obtain⟨j,i⟩:=h;refine⟨j,?_⟩
 rcases i with i|⟨g,d,f,hv,p,l,r⟩
 .exact Or.inl i
 .exact A9 ⟨g,d,f,hv,by omega,l,r⟩
variable {s:LN}
theorem iB.below {B:Nat}{b:World}{v:Value}(h:iB B w s v)(a:Below w.heap.size w b):iB B b s v:=aIF h a
theorem iB.alloc {w:Nat}{n:World}{xs:LN}{v:Value}(h:iB w n xs v)(o:Obj):iB w (n.alloc o) xs v:=h.below ((Below.refl _ _).alloc (o8 _) o)
theorem iB.nil (B:Nat)(w:World):iB B w [] (.slice none 0 0):=⟨rfl,Or.inl ⟨rfl,rfl⟩⟩
theorem iB.shape {w:Nat}(h:iB w n s x):∃b a,x=.slice b s.length a/\s.length<=a:=by
 rcases h.2 with⟨h,e⟩|⟨g,a,d,h,_,_,hc,_⟩
 .exact⟨none,0,by rw[h,e],by omega⟩
 .exact⟨_,_,h,hc⟩
variable {a:Option Addr}{p:Nat}
theorem iB.place {w:Nat}(h:iB w n s (.slice a k p))(o:0<s.length):∃g,a=some ⟨g,0,none⟩/\∀j,j<s.length->n.cell? ⟨g,j,none⟩=some (.int .i64 (Nm.at' s j)):=by
 rcases h.2 with⟨_,l⟩|⟨g,b,d,h,_,e,hc,_,_,i⟩
 .omega
 .cases h;refine⟨g,rfl,λj f=>aX e ?_⟩
  have:(s.map (B0 .i64))[j]?=some (.int .i64 (Nm.at' s j)):=by
   simp[Nm.at',n5,k9 f]
  rw[<-i,n6 (by omega)]at this
  simpa using this
def pV (w:World)(z:Int)(v:Value):Prop:=∃a b,v=.agg #[.bool (decide (z<0)),b]/\Ints w a b/\Nm.Good 10000 a/\Nm.val 10000 a=z.natAbs
theorem pV.below {w b:World}{z:Int}{v:Value}(h:pV w z v)(i:Below w.heap.size w b):pV b z v:=by
 obtain⟨a,d,e,f,g⟩:=h;exact⟨a,d,e,f.below i,g⟩
theorem pV.alloc {n:World}{z:Int}{v:Value}(h:pV n z v)(o:Obj):pV (n.alloc o) z v:=h.below ((Below.refl _ _).alloc (o8 _) o)
theorem kO:(prog.info? 130).map (λi=>(i.zero,i.size,i.bytes))=some (some (.int .u32 0),1,4):=by kernel_rfl
def cB (B:Nat)(w:World)(a:LN)(v:Value):Prop:=w.ownsRow B 130 1 v a.length (a.map (B0 .u32))
abbrev Lims (w:World)(a:LN)(v:Value):Prop:=cB 0 w a v
theorem cB.below {B:Nat}{b:World}{v:Value}(h:cB B w s v)(a:Below w.heap.size w b):cB B b s v:=aIF h a
theorem cB.alloc {w:Nat}{n:World}{xs:LN}{v:Value}(h:cB w n xs v)(o:Obj):cB w (n.alloc o) xs v:=h.below ((Below.refl _ _).alloc (o8 _) o)
theorem cB.nil (B:Nat)(w:World):cB B w [] (.slice none 0 0):=⟨rfl,Or.inl ⟨rfl,rfl⟩⟩
variable {w:Nat}
theorem cB.bO (h:cB w n s x)(a:k<=w):cB k n s x:=aQu h a
theorem cB.shape (h:cB w n s x):∃b a,x=.slice b s.length a/\s.length<=a:=by
 rcases h.2 with⟨h,e⟩|⟨g,a,d,h,_,_,hc,_⟩
 .exact⟨none,0,by rw[h,e],by omega⟩
 .exact⟨_,_,h,hc⟩
theorem cB.place (h:cB w n s (.slice a k p))(o:0<s.length):∃g,a=some ⟨g,0,none⟩/\∀j,j<s.length->n.cell? ⟨g,j,none⟩=some (.int .u32 (Nm.at' s j)):=by
 rcases h.2 with⟨_,l⟩|⟨g,b,d,h,_,e,hc,_,_,i⟩
 .omega
 .cases h;refine⟨g,rfl,λj f=>aX e ?_⟩
  have:(s.map (B0 .u32))[j]?=some (.int .u32 (Nm.at' s j)):=by
   simp[Nm.at',n5,k9 f]
  rw[<-i,n6 (by omega)]at this
  simpa using this
theorem cB.other (a:cB b n s x){z:Array Value}{h:TypeId}{m:Nat×Nat}(j:n.heap[k]?=some (.cells z h m))(q:h≠130)(u:Value):cB b (n.setCell ⟨k,o,none⟩ u) s x:=by
 obtain⟨p,i⟩:=a;refine⟨p,?_⟩
 rcases i with i|⟨g,d,f,hv,y,l,r⟩
 .exact Or.inl i
 .refine A9 ⟨g,d,f,hv,y,?_,r⟩;rw[Below.heap_setCell _ _ _ _ ?_]
  .exact l
  .intro e;simp only at e;rw[e]at l;rw[l]at j;simp at j;exact q j.2.1.symm
def dQ (w:World)(G:Nat)(b:LN):Prop:=∃a,w.heap[G]?=some (.cells a 130 (0,0))/\a.toList=b.map (B0 .u32)
theorem dQ.cell {n:World}{G:Nat}{s:LN}(h:dQ n G s)(j:Nat)(e:j<s.length):n.cell? ⟨G,j,none⟩=some (.int .u32 (Nm.at' s j)):=by
 obtain⟨a,b,d⟩:=h;refine aX b ?_
 have:(s.map (B0 .u32))[j]?=some (.int .u32 (Nm.at' s j)):=by
  simp[Nm.at',n5,k9 e]
 rw[<-d]at this
 simpa using this
theorem dQ.frozen {n:World}{G:Nat}{s:LN}(h:dQ n G s)(j:Nat):n.frozen? ⟨G,j,none⟩=false:=by
 obtain⟨a,b,d⟩:=h;exact jY b
theorem dQ.set {w:World}{G:Nat}{xs:LN}(h:dQ w G xs)(j:Nat)(x:Int):dQ (w.setCell ⟨G,j,none⟩ (.int .u32 x)) G (xs.set j x):=by
 obtain⟨a,b,d⟩:=h;refine⟨_,sF b _,?_⟩;rw[Array.toList_setIfInBounds,d,List.map_set]
theorem dQ.lt {G:Nat}(h:dQ n G s):G<n.heap.size:=by
 obtain⟨a,b,d⟩:=h;exact fJ b
theorem dQ.drew {n:World}{G:Nat}{s:LN}(h:dQ n G s):dQ n.drew G s:=h
theorem dQ.qW {G:Nat}(h:dQ n G s)(e:s.length<=100000000000):Lims n s (.slice (some ⟨G,0,none⟩) s.length s.length):=by
 obtain⟨a,d,b⟩:=h;refine⟨by simp,A9 ⟨G,s.length,a,rfl,n9 _,d,o8 _,by unfold maxLen;omega,?_,?_⟩⟩
 .rw[<-Array.length_toList,b];simp
 .rw[b];exact l4 (by simp)
theorem cB.oA (h:cB w n s (.slice (some ⟨k,0,none⟩) p W))(j:Nat)(b:j<s.length):n.cell? ⟨k,j,none⟩=some (.int .u32 (Nm.at' s j)):=by
 obtain⟨d,a,hc⟩:=h.place (by omega);cases a;exact hc j b
theorem dQ.made (w:World)(n:Nat):dQ (w.alloc (.cells (madeCells #[.int .u32 0] n) 130)) w.heap.size (l5 n 0):=⟨madeCells #[.int .u32 0] n,by show(w.heap.push _)[w.heap.size]?=_;simp,by rw[toList_madeCells_one];simp⟩
theorem cB.Bc (h:cB w n s x){G:Nat}(j:G<w)(u:Value):cB w (n.setCell ⟨G,p,none⟩ u) s x:=by
 obtain⟨e,d⟩:=h;refine⟨e,?_⟩
 rcases d with d|⟨g,a,b,hv,f,i,r⟩
 .exact Or.inl d
 .exact A9 ⟨g,a,b,hv,f,by rw[Below.heap_setCell _ _ _ _ (by simp only;omega)];exact i,r⟩
variable {b:World}
theorem dQ.below {w:World}{G:Nat}(h:dQ w G s)(f:Below w.heap.size w b):dQ b G s:=by
 obtain⟨a,d,e⟩:=h;exact⟨a,by rw[f.block _ (fJ d)];exact d,e⟩
def cZ (w:World)(p:List Int->Prop):EW:=λe a=>∃v b,e=.returned v/\p b/\cB w.heap.size a b v/\Below w.heap.size w a
def WhoAt (w:World)(z:Int)(v:Value):Prop:=∃a b,v=.agg #[.bool (decide (z<0)),b]/\Lims w a b/\Nm.Good 4294967296 a/\Nm.val 4294967296 a=z.natAbs
theorem WhoAt.below {w b:World}{z:Int}{v:Value}(h:WhoAt w z v)(i:Below w.heap.size w b):WhoAt b z v:=by
 obtain⟨a,d,e,f,g⟩:=h;exact⟨a,d,e,f.below i,g⟩
theorem WhoAt.alloc {n:World}{z:Int}{v:Value}(h:WhoAt n z v)(o:Obj):WhoAt (n.alloc o) z v:=h.below ((Below.refl _ _).alloc (o8 _) o)
variable {v:Int}
theorem WhoAt.open (h:WhoAt n v x):∃b d a,x=.agg #[.bool (decide (v<0)),.slice d b.length a]/\Lims n b (.slice d b.length a)/\Nm.Good 4294967296 b/\Nm.val 4294967296 b=v.natAbs:=by
 obtain⟨b,j,f,e,g,i⟩:=h;obtain⟨d,a,rfl,_⟩:=e.shape;exact⟨b,d,a,f,e,g,i⟩
theorem WhoAt.other {n:World}{v:Int}{x:Value}(a:WhoAt n v x){w o:Nat}{k:Array Value}{h:TypeId}{m:Nat×Nat}(i:n.heap[w]?=some (.cells k h m))(j:h≠130)(u:Value):WhoAt (n.setCell ⟨w,o,none⟩ u) v x:=by
 obtain⟨b,d,e,f,g⟩:=a;exact⟨b,d,e,f.other i j u,g⟩
def bZ (w:World)(z:Int):EW:=λe a=>∃v,e=.returned v/\WhoAt a z v/\Below w.heap.size w a
variable {z:Int}
theorem xE (a:Nm.Good 4294967296 s)(hv:Nm.val 4294967296 s=z.natAbs)(b:z.natAbs<2^w):s.length<=w:=by
 refine Nm.aP7 (by decide) a ?_;rw[hv];have:((z.natAbs:Nat):Int)<((2^w:Nat):Int):=Int.ofNat_lt.2 b
 simpa using this
theorem wX (w:World)(o:Obj):(w.alloc o).heap[w.heap.size]?=some o:=by show(w.heap.push o)[w.heap.size]?=some o;simp
theorem aV {a:World}(h:Below w a b)(d:w<=b.heap.size)(o:Obj):Below w a (b.alloc o):=h.alloc d o
theorem cY {o:Obj}(d:k<n.heap.size)(h:n.heap[k]?=some o)(a:Below n.heap.size n b):b.heap[k]?=some o:=by rw[a.block k d];exact h
theorem Ad (w:World):Below w.heap.size w w.drew:=⟨rfl,rfl,rfl,o8 _,λ_ _=>rfl⟩
theorem wN (h:Below n.drew.heap.size n.drew b):Below n.heap.size n b:=⟨h.os,h.tape,h.output,h.size,h.block⟩
def Bits (n:Nat)(z:Int):Prop:=z.natAbs<2^n
variable {x:Int}
theorem pL (a:Bits w x)(b:Bits w z):Bits (w+1) (x+z):=by
 unfold Bits at*;rw[Nat.pow_succ];omega
theorem yO (a:Bits w x):Bits w (-x):=by
 unfold Bits at*
 rwa[A7]
variable {n:Nat}
theorem eI {m:Nat}(a:Bits n x)(h:n<=m):Bits m x:=o9 a (p9 (by decide) h)
theorem fY {m:Nat}(a:Bits w x)(b:Bits m z):Bits (w+m) (x*z):=by
 unfold Bits at*;rw[Int.natAbs_mul,Nat.pow_add];exact Nat.mul_lt_mul'' a b
theorem Ic {m:Nat}(b:Bits w z)(h:x.natAbs<=z.natAbs)(a:w<=m):Bits m x:=o9 (q7 h b) (p9 (by decide) a)
theorem Ns {m:Nat}(a:Bits w x)(b:Bits m z):Bits (max w m) x/\Bits (max w m) z:=⟨eI a (q8 _ _),eI b (q9 _ _)⟩
theorem aH4 (a:Bits w x)(b:Bits w z):Bits (w+1) (x-z):=by
 rw[A8];exact pL a (yO b)
theorem Us (h:Bits w v):Bits w (v.natAbs:Int):=by
 unfold Bits at*
 simpa using h
theorem aGW (n:Int):Bits (s4 n.natAbs+1) n:=by
 unfold Bits;exact Nat.lt_log2_self
namespace Ab
def Bits (u:Nat)(z:Int):Prop:=z.natAbs<2^(10000000*u)
theorem eI {m:Nat}(a:Bits n x)(h:n<=m):Bits m x:=o9 a (p9 (by decide) (Nat.mul_le_mul_left _ h))
theorem yO (a:Bits w x):Bits w (-x):=by
 unfold Bits at*
 rwa[A7]
theorem Us (h:Bits w v):Bits w (v.natAbs:Int):=by
 unfold Bits at*
 simpa using h
theorem pL {w:Nat}{x z:Int}(a:Bits w x)(b:Bits w z):Bits (w+1) (x+z):=by
 have h:Go.Proofs.YtpdflaaamaokbaaGreatDoor.Bits (10000000*w+1) (x+z):=Go.Proofs.YtpdflaaamaokbaaGreatDoor.pL a b;exact Go.Proofs.YtpdflaaamaokbaaGreatDoor.eI h (by omega)
theorem aH4 (a:Bits w x)(b:Bits w z):Bits (w+1) (x-z):=by
 rw[A8];exact pL a (yO b)
theorem fY {w m:Nat}{x z:Int}(a:Bits w x)(b:Bits m z):Bits (w+m) (x*z):=by
 have h:Go.Proofs.YtpdflaaamaokbaaGreatDoor.Bits (10000000*w+10000000*m) (x*z):=Go.Proofs.YtpdflaaamaokbaaGreatDoor.fY a b;rw[<-Nat.mul_add]at h;exact h
theorem Ic {m:Nat}(b:Bits w z)(h:x.natAbs<=z.natAbs)(a:w<=m):Bits m x:=eI (q7 h b) a
theorem Ns {m:Nat}(a:Bits w x)(b:Bits m z):Bits (max w m) x/\Bits (max w m) z:=⟨eI a (q8 _ _),eI b (q9 _ _)⟩
theorem aGW (n:Int):Bits (s4 n.natAbs+1) n:=by
 have h:Go.Proofs.YtpdflaaamaokbaaGreatDoor.Bits (s4 n.natAbs+1) n:=Go.Proofs.YtpdflaaamaokbaaGreatDoor.aGW n;exact Go.Proofs.YtpdflaaamaokbaaGreatDoor.eI h (by omega)
theorem Lq (h:Go.Proofs.YtpdflaaamaokbaaGreatDoor.Bits n v)(a:n<=10000000*k):Bits k v:=Go.Proofs.YtpdflaaamaokbaaGreatDoor.eI h a
def Xy:Bool->World->Int->Value->Prop
 |false,w,z,x=>∃a,Ints w a x/\Nm.Good 10000 a/\Nm.val 10000 a=z.natAbs
 |true,w,z,x=>∃a,Lims w a x/\Nm.Good 4294967296 a/\Nm.val 4294967296 a=z.natAbs
variable {n:World}{x:Value}{a:LB}
theorem aRP {bt:List TypeId}(h:On bt n b){s:Nat}(l:bt.contains e=false)(q:n.ownsRow w e s x W a):b.ownsRow w e s x W a:=by
 obtain⟨k,j⟩:=q;refine⟨k,?_⟩
 rcases j with j|⟨g,f,i,hv,o,p,r⟩
 .exact Or.inl j
 .refine A9 ⟨g,f,i,hv,o,?_,r⟩
  rcases h.bS g _ p with d|⟨d,_⟩
  .exact d
  .simp only[Qj]at d;rw[l]at d;cases d
theorem aOz {s:Nat}(f:n.ownsRow w e s x W a):One x:=by
 rcases f.2 with⟨rfl,_⟩|⟨g,b,d,rfl,_⟩<;>rfl
noncomputable def mkC (bt:List TypeId)(f:bt.contains 3=false)(g:bt.contains 130=false):fE where
 P:=prog
 bt:=bt
 eS:=Xy
 bits:=Bits
 zZ:=by
  intro k w W z x h d
  cases k with
  |false=>obtain⟨b,a,e⟩:=d;exact⟨b,aRP h f a,e⟩
  |true=>obtain⟨b,a,e⟩:=d;exact⟨b,aRP h g a,e⟩
 Ac:=by
  intro k w z x d
  cases k with
  |false=>obtain⟨b,a,_⟩:=d;exact aOz a
  |true=>obtain⟨b,a,_⟩:=d;exact aOz a
def Md:List TypeId:=[66,73,68,113,115,120,223,106,111,109,62]
noncomputable def Z:fE:=mkC Md (by decide) (by decide)
theorem mixed:Z.P.follows .mixedOrders=true:=by kernel_rfl
theorem aHl (k:Bool)(w:World):Xy k w 0 (.slice none 0 0):=by
 cases k
 .exact⟨[],iB.nil 0 w,(Nm.Good.nil _),by simp[Nm.val]⟩
 .exact⟨[],cB.nil 0 w,(Nm.Good.nil _),by simp[Nm.val]⟩
def dT (k:Bool):List Tok->Option (List Int×Nat)
 | []=>some ([],0)
 |.num b z n::r=>bif k==b then(dT k r).map λ(a,m)=>(z::a,max n m)else none
 |.c (.bool false)::.c (.lit (.slice none 0 0))::r=>(dT k r).map λ(a,m)=>(0::a,m)
 |_=>none
def mZ:List Nat->List Nat->Bool
 | [],[]=>true
 |a::r,b::t=>Nat.ble a b&&mZ r t
 |_,_=>false
def Hold (k:Bool)(w:World):List Int->List Value->Prop
 | [],[]=>True
 |z::b,x::y::a=>x=.bool (decide (z<0))/\Xy k w z y/\Hold k w b a
 |_,_=>False
theorem xF {k:Bool}{w:World}:∀(ts:List Tok) (g:LN) (n:Nat) (f:LB),dT k ts=some (g,n)->RT Z w ts f->Hold k w g f/\∀z∈g,Bits n z
 | [],g,n,f,h,r=>by
  simp[dT]at h;obtain⟨rfl,rfl⟩:=h
  cases f with
  |nil=>exact⟨trivial,λz hz=>by cases hz⟩
  |cons=>exact r.elim
 |.num E z m::ts,g,n,f,h,r=>by
  simp only[dT]at h
  cases e:k==E with
  |false=>rw[e]at h;cases h
  |true=>
   rw[e]at h;simp only[cond_true]at h
   have:k=E:=by simpa using e
   subst this;obtain⟨⟨i,B⟩,A,j⟩:=bU h;simp only[Prod.mk.injEq]at j;obtain⟨rfl,rfl⟩:=j
   match f,r with
   |x::y::f,⟨p,q,F,C⟩=>
    obtain⟨s,u⟩:=xF ts i B f A C;refine⟨⟨p,q,s⟩,λD hz=>?_⟩;simp at hz
    rcases hz with rfl|hz
    .exact eI F (q8 _ _)
    .exact eI (u D hz) (q9 _ _)
 | [.c c],g,n,f,h,r=>by
  cases c<;>(try (simp[dT]at h;done))<;>(rename_i b;cases b<;>simp[dT]at h)
 |.c c::.num _ _ _::ts,g,n,f,h,r=>by
  cases c<;>(try (simp[dT]at h;done))<;>(rename_i b;cases b<;>simp[dT]at h)
 |.c c::.c d::ts,g,n,f,h,r=>by
  cases c<;>try (simp[dT]at h;done)
  case bool b=>
   cases b with
   |true=>simp[dT]at h
   |false=>
    cases d<;>try (simp[dT]at h;done)
    case lit v=>
     cases v<;>try (simp[dT]at h;done)
     case slice o l c=>
      cases o with
      |some a=>simp[dT]at h
      |none=>
       cases l with
       |succ l=>simp[dT]at h
       |zero=>
        cases c with
        |succ c=>simp[dT]at h
        |zero=>
         simp only[dT]at h;obtain⟨⟨i,B⟩,A,j⟩:=bU h;simp only[Prod.mk.injEq]at j;obtain⟨rfl,rfl⟩:=j
         match f,r with
         |x::y::f,⟨_,p,_,q,C⟩=>
          obtain⟨s,u⟩:=xF ts i B f A C;have p:x=.bool false:=p;have q:y=.slice none 0 0:=q.1;subst p q;refine⟨⟨rfl,aHl k w,s⟩,λD hz=>?_⟩;simp at hz
          rcases hz with rfl|hz
          .unfold Bits;simp;exact Nat.pow_pos (by decide)
          .exact u D hz
theorem Fz {k:Bool}{n:World}{w:Nat}:∀(a:LN) (b:LB),Hold k n a b->(∀z∈a,Bits w z)->RT Z n (a.map λz=>.num k z w) b
 | [],[],_,_=>trivial
 |z::a,x::y::b,⟨e,f,g⟩,d=>⟨e,f,d z (by simp),Fz a b g λj i=>d j (by simp[i])⟩
 | [],_::_,h,_=>h.elim
 |_::_,[],h,_=>h.elim
 |_::_,[_],h,_=>h.elim
theorem aNm {P:Program}{f:FuncId}{fn:Func}(hf:P.funcs[f]?=some fn)(hn:(fn.name == "runtime.NumGoroutine")=false)(hb:fn.body.isNone=false):Enters P f:=by
 intro xs w
 have hn':¬fn.name = "runtime.NumGoroutine":=by simpa using hn
 have hb':¬fn.body=none:=by intro e;rw[e]at hb;cases hb
 simp[callFunc,hf,hn',hb']
def aF (fn:Func):Code:=fn.body.getD .skip
structure Fn (f:FuncId) (fn:Func):Prop where
 en:Enters Z.P f
 at':Z.P.funcs[f]?=some fn
 body:fn.body=some (aF fn)
theorem bD {f:FuncId}{fn:Func}(hf:prog.funcs[f]?=some fn)(hn:(fn.name == "runtime.NumGoroutine")=false)(hb:fn.body.isNone=false):Fn f fn:=by
 refine⟨aNm hf hn hb,hf,?_⟩;unfold aF
 cases h:fn.body with
 |none=>rw[h]at hb;cases hb
 |some c=>rfl
theorem dJ:bQ Z (λ_=>none):=λf fn h=>by cases h
def iT:VT->Option (Int×List Prop)
 |.one (.int .i64 n)=>bif decide (n.natAbs<1000000000000000000)then some (n,[])else none
 |.one (.sint .i64 n)=>some (n,[n.natAbs<1000000000000000000])
 |_=>none
def Cc (k:Bool)(F:List Int->Option (List Int)):TE:=λts=>
 (eZ iT ts).bind λa=>(F (a.map (·.1))).map λout=>(.val (.agg (out.map λz=>.num k z 1)),(a.map (·.2)).flatten)
def oN (k:Bool):Out->Option (List Int×List Prop)
 |.ret (.val (.agg ts))=>(dT k ts).map λp=>(p.1,[])
 |.need p o=>(oN k o).map λ(a,q)=>(a,p++q)
 |_=>none
theorem gB {p:Prop}{a:List Prop}(h:p)(b:Holds a):Holds (p::a):=by
 intro q hq;simp only[List.mem_cons]at hq
 rcases hq with rfl|hq
 .exact h
 .exact b q hq
def Td (a:List (Int×List Prop)):List VT:=(a.map (·.1)).map λz=>.one (.sint .i64 z)
theorem aNT {n:World}:∀(ts:List VT) (e:List (Int×List Prop)) (d:LB),eZ iT ts=some e->Holds (e.map (·.2)).flatten->All2 (lJ Z n) ts d->All2 (lJ Z n) (Td e) d/\∀x∈e,x.1.natAbs<1000000000000000000
 | [],e,d,h,_,r=>by
  simp[eZ]at h;subst h
  cases d with
  |cons=>exact r.elim
  |nil=>exact⟨trivial,λx z=>by cases z⟩
 |t::ts,e,d,h,j,r=>by
  unfold eZ at h;obtain⟨x,b,p⟩:=aS h;obtain⟨i,s,rfl⟩:=bU p
  match d,r with
  |v::d,⟨k,A⟩=>
   obtain⟨l,o⟩:=aNT ts i d s (λq u=>j q (by simp only[n7,List.flatten_cons,List.mem_append];exact A9 u)) A
   have f:lJ Z n (.one (.sint .i64 x.1)) v/\x.1.natAbs<1000000000000000000:=by
    unfold iT at b;split at b
    .rename_i a
     cases g:decide (a.natAbs<1000000000000000000)with
     |false=>rw[g]at b;cases b
     |true=>rw[g]at b;cases b;exact⟨⟨rfl,k.2⟩,by simpa using g⟩
    .cases b;exact⟨⟨rfl,k.2⟩,j _ (by simp)⟩
    .cases b
   refine⟨⟨f.1,l⟩,λy hy=>?_⟩;simp at hy
   rcases hy with rfl|hy
   .exact f.2
   .exact o y hy
theorem aOw {k:Bool}{G:RV->Prop}:∀{o:Out} {b:LN} {a:List Prop},oN k o=some (b,a)->Holds a->(∀ts,(dT k ts).map (·.1)=some b->G (.val (.agg ts)))->o.ok G
 |.ret (.val (.agg ts)),b,a,h,_,f=>by
  simp only[oN]at h;obtain⟨p,d,e⟩:=bU h;cases e;exact f ts (by rw[d];rfl)
 |.need p o,b,a,h,i,f=>by
  simp only[oN]at h;obtain⟨⟨z,q⟩,d,e⟩:=bU h;cases e;exact⟨λx g=>i x (by simp[g]),aOw d (λx g=>i x (by simp[g])) f⟩
 |.ret (.val (.one _)),_,_,h,_,_=>by cases h
 |.ret (.tup _),_,_,h,_,_=>by cases h
 |.br _ _ _,_,_,h,_,_=>by cases h
variable {k:Bool}{l:List (FuncId×TE)}{B:FuncId}
theorem Ci (E:cV Z l){fn:Func}(d:Fn B fn){F:List Int->Option (List Int)}
  (h:∀a out,F a=some out->∃q,((run Z (aE l) (λ_=>none) (aL Z (aE l)) (λ_=>false) 300 [.code (aF fn),.top fn] (start fn (a.map λz=>.one (.sint .i64 z)))).bind outcome).bind (oN k)=some (out,q)/\((∀z∈a,z.natAbs<1000000000000000000)->Holds q))
  (S:∀a out,F a=some out->(∀z∈a,z.natAbs<1000000000000000000)->∀z∈out,Bits 1 z):bI Z B (Cc k F):=by
 refine⟨d.en,λts r p b T w u n=>?_⟩;unfold Cc at b;obtain⟨g,L,M⟩:=aS b;obtain⟨out,D,N⟩:=bU M;cases N;obtain⟨I,J⟩:=aNT ts g u L T n;obtain⟨q,q1,q2⟩:=h _ out D;obtain⟨o,o1,o2⟩:=aS q1;obtain⟨tr,t1,t2⟩:=aS o1
 have j:∀z∈g.map (·.1),z.natAbs<1000000000000000000:=by
  intro z hz;obtain⟨x,X,rfl⟩:=n8.1 hz;exact J x X
 have R:At (eD 0 (Td g)).2 0 (eD 0 (Td g)).2:=λi y Y=>by rw[s8];exact Y
 refine mO (w0:=w) (ψ:=λ_=>none) (φ:=λ_=>none) (s:=start fn (Td g)) (vs:=(eD 0 (Td g)).1) (dL E) dJ (rJ mixed (dL E)) d.at' d.body rfl (Hv _ 0 u R I) (Oh fn _ w) 300 t1 _ (λ_ _=>False) (λ_ _ h=>h.elim)
  (yK (G:=λr=>∃ts,r=.val (.agg ts)/\(dT k ts).map (·.1)=some out) t2 (aOw o2 (q2 j) λts b=>⟨ts,rfl,b⟩)) ?_
 rintro r0 s φ v w'⟨hc,r',O,tk,rfl,P⟩ U W;obtain⟨⟨a,m⟩,H,C⟩:=bU P;simp only at C;subst C;obtain⟨A,e,r1⟩:=Cr O U;obtain⟨k1,_⟩:=xF tk a m A H r1;exact⟨v,rfl,⟨A,e,Fz a A k1 (S _ a D j)⟩,RepF.below W hc⟩
theorem iH (h:v.natAbs<1000000000000000000):Bits 1 v:=Lq (n:=60) (o9 h (by decide)) (by decide)
def bH (k:Bool):Nat->Nat->List AC
 |_,0=>[]
 |i,n+1=>.sg i::.dg k i::bH k (i+1) n
def Dx (n:Nat):List AC:=l5 n .any
def ext (cs:List AC)(ty:TypeId):bL:=⟨cs,ty,false,true,false⟩
def Seg (C:fE)(φ:LI)(ν:LV)(w:World)(k o:Nat)(ty:TypeId)(cs:List AC):Prop:=∃b d a:LB,w.heap[k]?=some (.cells (b++d++a).toArray ty (0,0))/\b.length=o/\All2 (relC C φ ν w) cs d
variable {φ:LI}
theorem rQ {L:fE}{s:AS}(H:s.dirty=[])(f:∀b B,look s.boxes b=some B->B.own=false/\B.ro=true/\B.tip=false/\∃k o,φ b=some (k,o)/\Seg L φ s.nums n k o B.ty B.cs)(y:∀b,s.next<=b->φ b=none)(v:∀b k o,φ b=some (k,o)->k<n.heap.size):RepW L n φ φ s n:=by
 refine⟨λb B h=>?_,λb B k o h z=>?_,λb u B r k o I g d l p=>?_,λb B h A=>?_,y,v,λk _ _=>rfl,On.refl _ _,λb x e=>e,λb B k o g d=>(by rw[(f b B g).1]at d;cases d)⟩
 .obtain⟨_,_,_,k,o,g,j,F,i,d,l,p⟩:=f b B h;exact⟨k,o,j,F,i,g,d,l,p⟩
 .have:=(f b B h).1;rw[z]at this;cases this
 .obtain⟨_,D,q,_⟩:=f b B g;obtain⟨_,E,J,_⟩:=f u r d;exact A9 ⟨D,E,λ⟨a,_⟩=>(by rw[q]at a;cases a),λa=>(by rw[q]at a;cases a)⟩
 .have:=(f b B h).2.2.1;rw[A]at this;cases this
theorem sI {sp:Spec}{a:XW}{fn:Func}(F:Fn B fn){s:AS}{vs:List AV}{args:LB}(b:SpecOk Z n φ sp)(e:bQ Z a)(l:s.tmps=vs.map .val++l5 (fn.ntmps-vs.length) .gG)(hv:All2 (dU Z φ s.nums n) vs args)(p:RepW Z n φ φ s n)
   {X:Tr} (o:run Z sp a (aL Z sp) (λ_=>false) w [.code (aF fn),.top fn] s=some X) (G:AT->AS->Prop) (g:X.ok G λ_ _=>False) {R:EW} (k:∀r i d v j,G r i->relT Z d i.nums j r v->RepW Z n φ d i j->R (.returned v) j):Calls prog B args.toArray n R:=
 mO (C:=Z) b e (rJ mixed b) F.at' F.body l hv p w o G (λ_ _=>False) (λ_ _ h=>h.elim) g k
theorem tV {k:Bool}{φ:LI}{w:World}{n:Nat}:∀(a:LN) (d:LB) (i:Nat) (ν:LV),Hold k w a d->(∀z∈a,Bits n z)->(∀(j:Nat) (z:Int),a[j]?=some z->ν[i+j]?=some (z,n))->All2 (relC Z φ ν w) (bH k i a.length) d
 | [],[],_,_,_,_,_=>trivial
 |z::a,x::y::d,i,ν,⟨o,p,q⟩,l,b=>by
  have g:=b 0 z rfl;refine⟨⟨z,n,g,o⟩,⟨z,n,g,p,l z (by simp)⟩,tV a d (i+1) ν q (λf e=>l f (by simp[e])) λj f e=>?_⟩;rw[show i+1+j=i+(j+1) by omega];exact b (j+1) f (by simpa using e)
 | [],_::_,_,_,h,_,_=>h.elim
 |_::_,[],_,_,h,_,_=>h.elim
 |_::_,[_],_,_,h,_,_=>h.elim
def fI (a b:Spec):Spec:=λf d ν id e g=>match a f d ν id e g with|some x=>some x|none=>b f d ν id e g
theorem Oz {L:fE}{q:LI}{a b:Spec}(l:SpecOk L n q a)(o:SpecOk L n q b):SpecOk L n q (fI a b):=by
 intro f d ν id j k i r p g h;unfold fI at h
 cases e:a f d ν id j k with
 |some x=>rw[e]at h;cases h;exact l f d ν id j k i r p g e
 |none=>rw[e]at h;exact o f d ν id j k i r p g h
theorem Ny {k:Bool}{n:World}:∀(b:LN) (a:LB),Hold k n b a->a.length=2*b.length
 | [],[],_=>rfl
 |_::b,_::_::a,⟨_,_,h⟩=>by
  have:=Ny b a h;simp only[j8];omega
 | [],_::_,h=>h.elim
 |_::_,[],h=>h.elim
 |_::_,[_],h=>h.elim
def Fh (t:Bool):List Int->List Int->Option (List Int)
 | [],[]=>some []
 |a::x,b::y=>(Fh t x y).map ((bif t then a else b)::·)
 |_,_=>none
theorem aPB {t:Bool}:∀{x y z:LN},Fh t x y=some z->z=bif t then x else y
 | [],[],z,h=>by cases h;cases t<;>rfl
 |a::x,b::y,z,h=>by
  simp only[Fh]at h;obtain⟨r,d,rfl⟩:=bU h;have:=aPB d
  cases t<;>simp_all
 | [],_::_,_,h=>by cases h
 |_::_,[],_,h=>by cases h
inductive G where
 |ns (zs:LN)
 |i (k:IntKind) (n:Int)
 |b (t:Bool)
inductive RG where
 |one (g:G)
 |tup (gs:List G)
def gT (k:Bool):VT->Option (G×Nat)
 |.agg ts=>(dT k ts).map λ(d,n)=>(.ns d,n)
 |.one (.int a n)=>some (.i a n,0)
 |.one (.sint a n)=>some (.i a n,0)
 |.one (.bool t)=>some (.b t,0)
 |.one (.sbool t)=>some (.b t,0)
 |_=>none
def oZ (k:Bool)(a:Nat):G->VT
 |.ns e=>.agg (e.map λz=>.num k z a)
 |.i d n=>.one (.sint d n)
 |.b t=>.one (.sbool t)
def eA (k:Bool):List G->List Nat->List VT
 |g::r,n::ns=>oZ k n g::eA k r ns
 |_,_=>[]
def wH (k:Bool)(n:Nat):RG->RV
 |.one g=>.val (oZ k n g)
 |.tup a=>.tup (a.map (oZ k n))
def GB (n:Nat):G->Prop
 |.ns a=>∀z∈a,Bits n z
 |_=>True
def pU:List G->List Nat->Prop
 | [],[]=>True
 |g::r,n::ns=>GB n g/\pU r ns
 |_,_=>False
def RGB (n:Nat):RG->Prop
 |.one g=>GB n g
 |.tup a=>∀g∈a,GB n g
theorem GB.mono {n m:Nat}{g:G}(h:GB n g)(a:n<=m):GB m g:=by
 cases g with
 |ns d=>exact λz b=>eI (h z b) a
 |_=>trivial
theorem Mb {t:VT}{g:G}(h:gT k t=some (g,w))(r:lJ Z n t x):GB w g/\∀m,GB m g->lJ Z n (oZ k m g) x:=by
 unfold gT at h;split at h
 .rename_i ts;obtain⟨⟨b,m⟩,d,f⟩:=bU h;cases f;obtain⟨a,e,r⟩:=r;obtain⟨k1,j⟩:=xF ts b w a d r;exact⟨j,λm i=>⟨a,e,Fz b a k1 i⟩⟩
 .cases h;exact⟨trivial,λ_ _=>⟨rfl,r.2⟩⟩
 .cases h;exact⟨trivial,λ_ _=>⟨rfl,r.2⟩⟩
 .cases h;exact⟨trivial,λ_ _=>⟨rfl,r.2⟩⟩
 .cases h;exact⟨trivial,λ_ _=>⟨rfl,r.2⟩⟩
 .cases h
theorem Ob {k:Bool}{w:World}:∀(ts:List VT) (d:List (G×Nat)) (a:NU) (b:LB),eZ (gT k) ts=some d->mZ (d.map (·.2)) a=true->All2 (lJ Z w) ts b->All2 (lJ Z w) (eA k (d.map (·.1)) a) b/\pU (d.map (·.1)) (d.map (·.2))/\pU (d.map (·.1)) a
 | [],d,a,b,h,e,r=>by
  simp[eZ]at h;subst h
  cases b with
  |cons=>exact r.elim
  |nil=>
   cases a with
   |nil=>exact⟨trivial,trivial,trivial⟩
   |cons=>cases e
 |t::ts,d,a,b,h,e,r=>by
  unfold eZ at h;obtain⟨x,o,p⟩:=aS h;obtain⟨f,q,rfl⟩:=bU p
  match a,b,e,r with
  |n::ns,v::b,e,⟨u,y⟩=>
   simp only[n7,mZ,Bool.and_eq_true]at e;obtain⟨i,j,l⟩:=Ob ts f ns b q e.2 y;obtain⟨k1,s⟩:=Mb o u;have g:=k1.mono (Nat.le_of_ble_eq_true e.1);exact⟨⟨s n g,i⟩,⟨k1,j⟩,⟨g,l⟩⟩
def Ya (t:Bool):G->G->Option G
 |.ns x,.ns y=>(Fh t x y).map .ns
 |.i k n,.i a m=>if k=a then some (.i k (bif t then n else m))else none
 |.b x,.b y=>some (.b (bif t then x else y))
 |_,_=>none
def En (t:Bool):List G->List G->Option (List G)
 | [],[]=>some []
 |a::x,b::y=>(Ya t a b).bind λc=>(En t x y).map (c::·)
 |_,_=>none
def Em (t:Bool):RG->RG->Option RG
 |.one a,.one b=>(Ya t a b).map .one
 |.tup a,.tup b=>(En t a b).map .tup
 |_,_=>none
theorem aRK {t:Bool}{a b c:G}(h:Ya t a b=some c):c=bif t then a else b:=by
 unfold Ya at h;split at h
 .obtain⟨z,d,rfl⟩:=bU h;have:=aPB d;subst this
  cases t<;>rfl
 .split at h
  .rename_i e;subst e;cases h;cases t<;>rfl
  .cases h
 .cases h;cases t<;>rfl
 .cases h
theorem aN8 {t:Bool}:∀{a b c:List G},En t a b=some c->c=bif t then a else b
 | [],[],c,h=>by cases h;cases t<;>rfl
 |a::x,b::y,c,h=>by
  simp only[En]at h;obtain⟨z,d,e⟩:=aS h;obtain⟨r,f,rfl⟩:=bU e;have g:=aRK d;have i:=aN8 f
  cases t<;>simp_all
 | [],_::_,_,h=>by cases h
 |_::_,[],_,h=>by cases h
theorem aN7 {t:Bool}{a b c:RG}(h:Em t a b=some c):c=bif t then a else b:=by
 unfold Em at h;split at h
 .obtain⟨z,d,rfl⟩:=bU h;have:=aRK d;subst this
  cases t<;>rfl
 .obtain⟨z,d,rfl⟩:=bU h;have:=aN8 d;subst this
  cases t<;>rfl
 .cases h
def pR (k:Bool):Out->Option (List Prop×RG)
 |.ret (.val v)=>(gT k v).map λg=>([],.one g.1)
 |.ret (.tup e)=>(eZ (gT k) e).map λd=>([],.tup (d.map (·.1)))
 |.br t x y=>(pR k x).bind λa=>(pR k y).bind λb=>(Em t a.2 b.2).map λc=>(a.1.map (λp=>t=true->p)++b.1.map (λp=>t=false->p),c)
 |.need p o=>(pR k o).map λa=>(p++a.1,a.2)
theorem aHs {k:Bool}{w:Nat}{n:World}:∀{b:List VT} {a:List (G×Nat)} {d:LB},eZ (gT k) b=some a->(∀g∈a.map (·.1),GB w g)->All2 (lJ Z n) b d->All2 (lJ Z n) ((a.map (·.1)).map (oZ k w)) d
 | [],a,[],h,_,_=>by simp[eZ]at h;subst h;trivial
 |v::b,a,x::d,h,e,⟨o,p⟩=>by
  unfold eZ at h;obtain⟨y,i,j⟩:=aS h;obtain⟨q,l,rfl⟩:=bU j;exact⟨(Mb i o).2 w (e _ (by simp)),aHs l (λg f=>e g (by simp at f ⊢;exact A9 f)) p⟩
 | [],_,_::_,_,_,h=>h.elim
 |_::_,_,[],_,_,h=>h.elim
theorem Pa {k:Bool}{n:Nat}:∀{o:Out} {l:List Prop} {out:RG},pR k o=some (l,out)->Holds l->RGB n out->o.ok λC=>∀w v,RRV Z w C v->RRV Z w (wH k n out) v
 |.ret (.val t),l,out,h,_,d=>by
  simp only[pR]at h;obtain⟨⟨g,m⟩,f,i⟩:=bU h;cases i;intro w v hv;exact(Mb f hv).2 n d
 |.ret (.tup vs),l,out,h,_,d=>by
  simp only[pR]at h;obtain⟨E,f,i⟩:=bU h;cases i;rintro w v⟨D,e,hv⟩;exact⟨D,e,aHs f d hv⟩
 |.br t x y,l,out,h,r,d=>by
  simp only[pR]at h;obtain⟨⟨p1,a⟩,f,i⟩:=aS h;obtain⟨⟨F,b⟩,u,z⟩:=aS i;obtain⟨c,A,B⟩:=bU z;cases B;have s:=aN7 A;refine⟨λe=>?_,λe=>?_⟩
  .subst e;subst s;exact Pa f (λq j=>r (true=true->q) (List.mem_append_left _ (n8.2 ⟨q,j,rfl⟩)) rfl) d
  .subst e;subst s;exact Pa u (λq j=>r (false=false->q) (List.mem_append_right _ (n8.2 ⟨q,j,rfl⟩)) rfl) d
 |.need p o,l,out,h,r,d=>by
  simp only[pR]at h;obtain⟨⟨p1,a⟩,f,i⟩:=bU h;cases i;exact⟨λq j=>r q (by simp[j]),Pa f (λq j=>r q (by simp[j])) d⟩
def hY (k:Bool)(F:List G->Option RG)(nd:List G->List Prop)(d:List Nat->Nat)(b:NU):TE:=λts=>
 (eZ (gT k) ts).bind λa=>bif mZ (a.map (·.2)) b then(F (a.map (·.1))).map λout=>(wH k (d (a.map (·.2))) out,nd (a.map (·.1)))else none
variable {F:List G->Option RG}{nd:List G->List Prop}{f:NU}
theorem Dv (l:Enters Z.P B){s:List Nat->Nat}(b:∀a ns out,F a=some out->Holds (nd a)->pU a ns->pU a f->RGB (s ns) out)
  (h:∀a out,F a=some out->Holds (nd a)->pU a f->∀w (j:LB),All2 (lJ Z w) (eA k a f) j->Calls Z.P B j.toArray w λe q=>∃v,e=.returned v/\(∀n,RGB n out->RRV Z q (wH k n out) v)/\Below w.heap.size w q):bI Z B (hY k F nd s f):=by
 refine⟨l,λts r p i y w j o=>?_⟩;unfold hY at i;obtain⟨z,D,g⟩:=aS i
 cases d:mZ (z.map (·.2)) f with
 |false=>rw[d]at g;cases g
 |true=>
  rw[d]at g;simp only[cond_true]at g;obtain⟨out,x,E⟩:=bU g;cases E;obtain⟨A,C,u⟩:=Ob ts z f j D d o;refine(h _ out x y u w j A).mono ?_;rintro e q⟨v,rfl,hv,H⟩;exact⟨v,rfl,hv _ (b _ _ out x y C u),H⟩
theorem wO (U:cV Z l){d:XW}(H:bQ Z d){fn:Func}(u:Fn B fn){S:List Nat->Nat}(A:∀a ns out,F a=some out->Holds (nd a)->pU a ns->pU a f->RGB (S ns) out)
  (h:∀a out,F a=some out->∃O,((run Z (aE l) d (aL Z (aE l)) (λ_=>false) 2000 [.code (aF fn),.top fn] (start fn (eA k a f))).bind outcome).bind (pR k)=some (O,out)/\(Holds (nd a)->pU a f->Holds O)):bI Z B (hY k F nd S f):=by
 refine Dv u.en A λa out hF L I w R M=>?_
 obtain⟨O,W,X⟩:=h a out hF;obtain⟨o,Y,h4⟩:=aS W;obtain⟨tr,h5,h6⟩:=aS Y
 have hA:At (eD 0 (eA k a f)).2 0 (eD 0 (eA k a f)).2:=λi y hy=>by rw[s8];exact hy
 have N:∀n,RGB n out->Calls Z.P B R.toArray w λe E=>∃v,e=.returned v/\RRV Z E (wH k n out) v/\Below w.heap.size w E:=by
  intro n C;refine mO (w0:=w) (ψ:=λ_=>none) (φ:=λ_=>none) (s:=start fn (eA k a f)) (vs:=(eD 0 (eA k a f)).1) (dL U) H (rJ mixed (dL U)) u.at' u.body rfl (Hv _ 0 R hA M) (Oh fn _ w) 2000 h5 _ (λ_ _=>False) (λ_ _ h=>h.elim) (yK h6 (Pa (n:=n) h4 (X L I) C)) ?_;rintro r0 s φ v E⟨hc,r',h7,h8⟩ hr hw;exact⟨v,rfl,h8 E v (Cr h7 hr),RepF.below hw hc⟩
 -- one bound that will do,then all
 obtain⟨n0,J⟩:=someB out;refine(N n0 J).mono ?_;rintro e E⟨v,rfl,hv,hb⟩;exact⟨v,rfl,λn C=>anyB hv C,hb⟩
where
 someB (out:RG):∃n,RGB n out:=by
  have one:∀j:LN,∃n,∀z∈j,Bits n z:=by
   intro j
   induction j with
   |nil=>exact⟨0,λz hz=>by cases hz⟩
   |cons z j D=>
    obtain⟨n,C⟩:=D;refine⟨max (s4 z.natAbs+1) n,λy hy=>?_⟩;simp at hy
    rcases hy with rfl|hy
    .exact eI (aGW _) (q8 _ _)
    .exact eI (C y hy) (q9 _ _)
  have T:∀g:G,∃n,GB n g:=by
   intro g
   cases g with
   |ns j=>exact one j
   |_=>exact⟨0,trivial⟩
  cases out with
  |one g=>exact T g
  |tup a=>
   induction a with
   |nil=>exact⟨0,λg hg=>by cases hg⟩
   |cons g a D=>
    obtain⟨n,C⟩:=D;obtain⟨m,q⟩:=T g;refine⟨max m n,λy hy=>?_⟩;simp at hy
    rcases hy with rfl|hy
    .exact q.mono (q8 _ _)
    .exact(C y hy).mono (q9 _ _)
 oneB {k:Bool} {w:World} {g:G} {n m:Nat} {v:Value} (h:lJ Z w (oZ k n g) v) (q:GB m g):lJ Z w (oZ k m g) v:=by
  cases g with
  |ns j=>
   obtain⟨p,e,r⟩:=h
   have:dT k (j.map λz=>.num k z n)=some (j,(dT k (j.map λz=>.num k z n)).elim 0 (·.2)):=by
    clear r q
    induction j with
    |nil=>rfl
    |cons z j D=>
     simp only[n7,dT,beq_self_eq_true,cond_true];rw[D];rfl
   exact⟨p,e,Fz j p (xF _ _ _ p this r).1 q⟩
  |i kd n=>exact h
  |b t=>exact h
 anyB {k:Bool} {w:World} {out:RG} {n m:Nat} {v:Value} (h:RRV Z w (wH k n out) v) (q:RGB m out):RRV Z w (wH k m out) v:=by
  cases out with
  |one g=>exact oneB h q
  |tup a=>
   obtain⟨p,e,r⟩:=h;refine⟨p,e,?_⟩;clear e
   induction a generalizing p with
   |nil=>exact r
   |cons g a D=>
    match p,r with
    |x::p,⟨r1,r2⟩=>exact⟨oneB r1 (q g (by simp)),D (λy hy=>q y (by simp[hy])) p r2⟩
end Ab
end Go.Proofs.YtpdflaaamaokbaaGreatDoor
