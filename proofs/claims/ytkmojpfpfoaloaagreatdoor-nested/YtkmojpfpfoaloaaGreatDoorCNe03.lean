import Derived.Test.YtkmojpfpfoaloaaGreatDoorCNe02
import Derived.Test.YtkmojpfpfoaloaaGreatDoorProg
import Derived.WalkSmall
import Derived.BigQuiet
import Derived.Lib.OthersKept
import Derived.Deep.LoopGhost
import Derived.Deep.OwnRows
import Derived.Deep.RegionWith
import Derived.Deep.RegionHeld3
set_option linter.all false
set_option maxRecDepth 100000
set_option maxHeartbeats 2000000
namespace Go.Proofs.YtkmojpfpfoaloaaGreatDoor
open Go.Proofs.Tryz
open Go.RowKit
theorem Ak:(prog.info? 105).map (fun i=>(i.zero,i.size,i.bytes))=some (some (.agg #[.int .i64 0,.string ⟨#[]⟩,.int .i64 0]),3,32):=by kernel_rfl
theorem Rv (w:World)(x y z:Value)(t:TypeId):∀j u,[x,y,z][j]?=some u->(w.alloc (.cells #[x,y,z] t)).cell? ((⟨w.heap.size,0,none⟩:Addr).add j)=some u:=by
 intro j u a
 match j,a with
 |0,a=>simp at a;subst a;simp[Addr.add]
 |1,a=>simp at a;subst a;simp[Addr.add]
 |2,a=>simp at a;subst a;simp[Addr.add]
theorem Below.pG (w:World)(o:Obj):(w.alloc o).heap[w.heap.size]?=some o:=by
 show(w.heap.push o)[w.heap.size]?=some o;simp
def oO (s:ByteArray)(w:World)(l i:Value)(wr:World):Prop:=
 ∃(k f:Nat) (done:List Rd.Wd),k<=s.size/\i=.int .i64 k/\done.length<=k/\s.size<f+k/\wr.ownsRow w.heap.size 105 3 l done.length (Rd.dV done)/\Below w.heap.size w wr/\done++Rd.split s f k=Rd.split s (s.size+1) 0
theorem Sz {x f u:Value}(d:x.oneCell'=true)(e:f.oneCell'=true)(g:u.oneCell'=true):∀a∈[x,f,u],a.oneCell'=true:=by
 intro a b;simp at b
 rcases b with rfl|rfl|rfl<;>assumption
variable {e W:Nat}{z:Value}
theorem Cw {n wr D:World}{w size:Nat}{i:List Value}(b:wr.ownsRow w e size z W i)(a:Below w n wr)(q:w<=wr.heap.size)(o:Obj)(r:(wr.alloc o).grownBy D z.ownBlock):Below w n D:=by
 refine Below.grown (a.alloc q o) r (by simp;omega) ?_;intro k d
 rcases b.2 with⟨h,_⟩|⟨g,j,p,h,f,_⟩
 ·rw[h]at d;cases d
 ·rw[h]at d;cases d;exact f
theorem aL5 (s:ByteArray)(f k:Nat)(h:k<s.size)(a:(Rd.aQ s k != 32)=true)(done:List Rd.Wd):
  done++[⟨Rd.kindOf (Rd.aQ s k),s.extract k (Rd.wordEnd s k),k⟩]++Rd.split s f (Rd.wordEnd s k)=done++Rd.split s (f+1) k:=by
 conv=>rhs;rw[Rd.split,decide_eq_true h,a]
 simp
theorem aJK (s:ByteArray)(f k:Nat)(h:k<s.size)(a:(Rd.aQ s k != 32)=false):Rd.split s f (Rd.wordEnd s k)=Rd.split s (f+1) k:=by
 conv=>rhs;rw[Rd.split,decide_eq_true h,a]
 simp
theorem aOr (s:ByteArray)(f k:Nat)(h:¬k<s.size):Rd.split s (f+1) k=[⟨0,⟨#[]⟩,s.size⟩]:=by
 rw[Rd.split,decide_eq_false h];rfl
theorem Zn (s:ByteArray)(w i:World)(k f:Nat)(done:List Rd.Wd)(j:Value)(x:Rd.Wd)(e:Nat)(p:x=⟨Rd.kindOf (Rd.aQ s k),s.extract k (Rd.wordEnd s k),k⟩)(o:e=Rd.wordEnd s k)
  (h:k<s.size) (n:(Rd.aQ s k != 32)=true) (r:done.length<=k) (u:s.size<f+k) (b:i.ownsRow w.heap.size 105 3 j (done.length+1) (Rd.dV done++[.int .i64 x.kind,.string x.text,.int .i64 x.pos]))
  (a:Below w.heap.size w i) (g:done++Rd.split s f k=Rd.split s (s.size+1) 0):oO s w j (.int .i64 e) i:=by
 obtain⟨d,rfl⟩:∃d,f=d+1:=⟨f-1,by omega⟩
 have q:=Rd.Gz s k;have l:=Rd.Ka s k h;subst o;refine⟨_,d,done++[x],l,rfl,by simp;omega,by omega,?_,a,?_⟩
 ·rw[Rd.aEj]
  simpa[Rd.dV]using b
 ·rw[<-g,p];exact aL5 s d k h n done
theorem aOe (s:ByteArray)(w i:World)(k f:Nat)(done:List Rd.Wd)(l:Value)(e:Nat)(o:e=Rd.wordEnd s k)
  (h:k<s.size) (n:(Rd.aQ s k != 32)=false) (q:done.length<=k) (r:s.size<f+k) (b:i.ownsRow w.heap.size 105 3 l done.length (Rd.dV done))
  (a:Below w.heap.size w i) (g:done++Rd.split s f k=Rd.split s (s.size+1) 0):oO s w l (.int .i64 e) i:=by
 obtain⟨d,rfl⟩:∃d,f=d+1:=⟨f-1,by omega⟩
 have p:=Rd.Gz s k;have j:=Rd.Ka s k h;subst o;exact⟨_,d,done,j,rfl,by omega,by omega,b,a,by rw[<-g,aJK s d k h n]⟩
theorem aOq (s:ByteArray)(w:World)(M:s.size<=120):
  Calls prog 67 #[.string s] w fun e z=>∃v,e=.returned v/\z.ownsRow w.heap.size 105 3 v (Rd.split s (s.size+1) 0).length (Rd.dV (Rd.split s (s.size+1) 0))/\Below w.heap.size w z:=by
 obtain⟨i,hi,H,n,x⟩:=info_parts Ak
 go_enter func67,ntmps67
 go_wp2_with fail
 go_loopw [3,4] (fun l i wr=>oO s w l i wr) (fun _ i _=>s.size-(intOf i).toNat)
 case atStart=>
  refine⟨0,s.size+1,[],Nat.zero_le _,rfl,Nat.le_refl _,by omega,?_,(Below.refl _ _).alloc (Nat.le_refl _) _,rfl⟩;refine⟨rfl,Or.inr ⟨w.heap.size,0,#[],rfl,Nat.le_refl _,Below.pG _ _,Nat.le_refl _,Nat.zero_le _,rfl,rfl⟩⟩
 case round=>
  obtain⟨k,f,done,O,rfl,E,F,g,j,C⟩:=hrel;have q:Hid (done++Rd.split s f k=Rd.split s (s.size+1) 0):=C;clear C;have y:=j.size
  by_cases c1:k<s.size
  ·have h:=Rd.Hi s k c1;cases c2:Rd.isDig (s[k].toNat:Int)
   ·cases c3:Rd.isLet (s[k].toNat:Int)
    ·cases c4:((s[k].toNat:Int) != 32)
     ·have p:Rd.kindOf (s[k].toNat:Int)=3:=by simp[Rd.kindOf,c2,c3]
      have b:Hid (Rd.wordEnd s k=k+1):=by show Rd.wordEnd s k=k+1;simp[Rd.wordEnd,h,c2,c3]
      have u:Hid (Rd.aQ s k=(s[k].toNat:Int)):=h;clear h
      go_wp2_with (go_at_call 84;refine(Sk _ _).mono ?_;rintro e z⟨rfl,rfl⟩)
      go_roundw
      case rel=>exact aOe s w _ k f done _ (k+1) b.out.symm c1 (by rw[u.out];exact c4) E F g j q.out
      case measure=>simp[intOf];omega
     ·have p:Rd.kindOf (s[k].toNat:Int)=3:=by simp[Rd.kindOf,c2,c3]
      have b:Hid (Rd.wordEnd s k=(k+1)):=by show Rd.wordEnd s k=(k+1);simp[Rd.wordEnd,h,c2,c3]
      have A:k<(k+1):=by have r:=Rd.Gz s k;rw[b.out]at r;omega
      have B:(k+1)<=s.size:=by have r:=Rd.Ka s k c1;rw[b.out]at r;omega
      have u:Hid (Rd.aQ s k=(s[k].toNat:Int)):=h;clear h
      go_wp2_with (first|(go_at_call 84;refine(Sk _ _).mono ?_;rintro e z⟨rfl,rfl⟩)|(at_builtin;(refine wpList_append_own _ rfl _ _ 107 rfl w.heap.size 105 i (.agg #[.int .i64 0,.string ⟨#[]⟩,.int .i64 0]) 3 32 underlying107 hi H n x rfl (by decide) _ _ _ rfl (g.alloc _) ⟨wr.heap.size,0,none⟩ 1 1 [.int .i64 3,.string (s.extract k (k+1)),.int .i64 k] rfl rfl (Rv _ _ _ _ _) (Sz rfl rfl rfl) (by unfold maxLen;omega) (by omega) (by simp;omega) ?_);intro J L d a o))
      go_roundw
      case rel=>exact Zn s w _ k f done _ ⟨3,s.extract k (k+1),k⟩ (k+1) (by rw[u.out,p,b.out]) b.out.symm c1 (by rw[u.out];exact c4) E F d (Cw g j y _ a) q.out
      case measure=>simp[intOf];omega
    ·have c4:((s[k].toNat:Int) != 32)=true:=by simp[Rd.isLet]at c3;rw[bne_iff_ne];omega
     have p:Rd.kindOf (s[k].toNat:Int)=2:=by simp[Rd.kindOf,c2,c3]
     have b:Hid (Rd.wordEnd s k=(Rd.bS s s.size (k+1))):=by show Rd.wordEnd s k=(Rd.bS s s.size (k+1));simp[Rd.wordEnd,h,c2,c3]
     have A:k<(Rd.bS s s.size (k+1)):=by have r:=Rd.Gz s k;rw[b.out]at r;omega
     have B:(Rd.bS s s.size (k+1))<=s.size:=by have r:=Rd.Ka s k c1;rw[b.out]at r;omega
     have u:Hid (Rd.aQ s k=(s[k].toNat:Int)):=h;clear h
     go_wp2_with (first|(go_at_call 84;refine(Sk _ _).mono ?_;rintro e z⟨rfl,rfl⟩)|(go_at_call 86;refine(aJx _ _ _ M c1).mono ?_;rintro e z⟨rfl,rfl⟩)|(at_builtin;(refine wpList_append_own _ rfl _ _ 107 rfl w.heap.size 105 i (.agg #[.int .i64 0,.string ⟨#[]⟩,.int .i64 0]) 3 32 underlying107 hi H n x rfl (by decide) _ _ _ rfl (g.alloc _) ⟨wr.heap.size,0,none⟩ 1 1 [.int .i64 2,.string (s.extract k (Rd.bS s s.size (k+1))),.int .i64 k] rfl rfl (Rv _ _ _ _ _) (Sz rfl rfl rfl) (by unfold maxLen;omega) (by omega) (by simp;omega) ?_);intro J L d a o))
     go_roundw
     case rel=>exact Zn s w _ k f done _ ⟨2,s.extract k (Rd.bS s s.size (k+1)),k⟩ (Rd.bS s s.size (k+1)) (by rw[u.out,p,b.out]) b.out.symm c1 (by rw[u.out];exact c4) E F d (Cw g j y _ a) q.out
     case measure=>simp[intOf];omega
   ·have c4:((s[k].toNat:Int) != 32)=true:=by simp[Rd.isDig]at c2;rw[bne_iff_ne];omega
    have p:Rd.kindOf (s[k].toNat:Int)=1:=by simp[Rd.kindOf,c2]
    have b:Hid (Rd.wordEnd s k=(Rd.cJ s k 9 (k+1))):=by show Rd.wordEnd s k=(Rd.cJ s k 9 (k+1));simp[Rd.wordEnd,h,c2]
    have A:k<(Rd.cJ s k 9 (k+1)):=by have r:=Rd.Gz s k;rw[b.out]at r;omega
    have B:(Rd.cJ s k 9 (k+1))<=s.size:=by have r:=Rd.Ka s k c1;rw[b.out]at r;omega
    have u:Hid (Rd.aQ s k=(s[k].toNat:Int)):=h;clear h
    go_wp2_with (first|(go_at_call 84;refine(Sk _ _).mono ?_;rintro e z⟨rfl,rfl⟩)|(go_at_call 85;refine(aHf _ _ _ M c1).mono ?_;rintro e z⟨rfl,rfl⟩)|(at_builtin;(refine wpList_append_own _ rfl _ _ 107 rfl w.heap.size 105 i (.agg #[.int .i64 0,.string ⟨#[]⟩,.int .i64 0]) 3 32 underlying107 hi H n x rfl (by decide) _ _ _ rfl (g.alloc _) ⟨wr.heap.size,0,none⟩ 1 1 [.int .i64 1,.string (s.extract k (Rd.cJ s k 9 (k+1))),.int .i64 k] rfl rfl (Rv _ _ _ _ _) (Sz rfl rfl rfl) (by unfold maxLen;omega) (by omega) (by simp;omega) ?_);intro J L d a o))
    go_roundw
    case rel=>exact Zn s w _ k f done _ ⟨1,s.extract k (Rd.cJ s k 9 (k+1)),k⟩ (Rd.cJ s k 9 (k+1)) (by rw[u.out,p,b.out]) b.out.symm c1 (by rw[u.out];exact c4) E F d (Cw g j y _ a) q.out
    case measure=>simp[intOf];omega
  ·obtain⟨I,D⟩:∃I,f=I+1:=⟨f-1,by omega⟩
   have N:Hid (Rd.split s (s.size+1) 0=done++[⟨0,⟨#[]⟩,s.size⟩]):=by
    show _=_;rw[<-q.out,D,aOr s I k c1]
   clear D
   go_wp2_with (at_builtin;refine wpList_append_own _ rfl _ _ 107 rfl w.heap.size 105 i (.agg #[.int .i64 0,.string ⟨#[]⟩,.int .i64 0]) 3 32 underlying107 hi H n x rfl (by decide) _ _ _ rfl (g.alloc _) ⟨wr.heap.size,0,none⟩ 1 1 [.int .i64 0,.string ⟨#[]⟩,.int .i64 s.size] rfl rfl (Rv _ _ _ _ _) (Sz rfl rfl rfl) (by unfold maxLen;omega) (by omega) (by simp;omega) ?_;intro J L d a o)
   go_ret
   refine⟨_,rfl,?_,Cw g j y _ a⟩;rw[N.out,Rd.aEj]
   simpa[Rd.dV]using d
theorem Yb (d p:Int)(t:ByteArray)(w:World)(g:t.size<=9):
  Calls prog 126 #[.agg #[.int .i64 d,.string t,.int .i64 p]] w fun e a=>e=.returned (.int .i64 (Rd.valTo t t.size))/\w.alloc (.cells #[.int .i64 d,.string t,.int .i64 p] 105)=a:=by
 go_enter func126,ntmps126
 go_wp2_with fail
 go_loop [3,4] (fun v i=>∃k:Nat,k<=t.size/\i=.int .i64 k/\v=.int .i64 (Rd.valTo t k)) (fun _ i=>t.size-(intOf i).toNat)
 case atStart=>exact⟨0,Nat.zero_le _,rfl,rfl⟩
 case round=>
  obtain⟨k,f,rfl,rfl⟩:=hrel;have h:=Rd.Zd t k;have j:=Rd.aLa t k (by omega)
  by_cases c1:k<t.size
  ·have b:Hid (Rd.aQ t k=(t[k].toNat:Int)):=Rd.Hi t k c1;cases c2:Rd.isDig (t[k].toNat:Int)
   ·go_wp2_with (go_at_call 104;refine(Ez _ _).mono ?_;rintro e a⟨rfl,rfl⟩)
    go_round
    case rel=>exact⟨k+1,by omega,by go_num,by rw[Rd.valTo,b.out,c2];rfl⟩
    case measure=>simp[intOf];omega
   ·have b0:48<=(t[k].toNat:Int):=by simp[Rd.isDig]at c2;omega
    have b1:(t[k].toNat:Int)<=57:=by simp[Rd.isDig]at c2;omega
    go_wp2_with (go_at_call 104;refine(Ez _ _).mono ?_;rintro e a⟨rfl,rfl⟩)
    go_round
    case rel=>exact⟨k+1,by omega,by go_num,by rw[Rd.valTo,b.out,c2];simp⟩
    case measure=>simp[intOf];omega
  ·go_wp2_with fail
   go_ret
   exact⟨yF (by rw[show k=t.size by omega]),rfl⟩
theorem aNE (t:ByteArray)(w:World):
  Calls prog 128 #[.string t] w fun e a=>e=.returned (.int .i64 (Rd.named t))/\w=a:=by
 go_enter func128,ntmps128
 go_wp2
 all_goals
  go_ret
  exact⟨yF (by simp[Rd.named,<-Rd.aQV, *]),rfl⟩
structure aY (rb:Nat) (w w':World):Prop where
 os:w'.os=w.os
 tape:w'.tape=w.tape
 output:w'.output=w.output
 size:w.heap.size<=w'.heap.size
 block:∀k,k<w.heap.size->k≠rb->w'.heap[k]?=w.heap[k]?
theorem aY.refl (rb:Nat)(w:World):aY rb w w:=⟨rfl,rfl,rfl,Nat.le_refl _,fun _ _ _=>rfl⟩
theorem aY.trans {rb:Nat}{a b c:World}(h:aY rb a b)(k:aY rb b c):aY rb a c:=
 ⟨k.os.trans h.os,k.tape.trans h.tape,k.output.trans h.output,Nat.le_trans h.size k.size,fun i hi d=>(k.block i (Nat.lt_of_lt_of_le hi h.size) d).trans (h.block i hi d)⟩
variable {rb:Nat}{w b:World}
theorem aY.eH (h:Below w.heap.size w b):aY rb w b:=⟨h.os,h.tape,h.output,h.size,fun k a _=>h.block k a⟩
theorem aY.drewN {rb:Nat}{a w:World}(h:aY rb a w)(n:Nat):aY rb a (w.drewN n):=⟨h.os,h.tape,h.output,h.size,h.block⟩
theorem aY.alloc {rb:Nat}{a w:World}(h:aY rb a w)(o:Obj):aY rb a (w.alloc o):=
 h.trans (aY.eH ((Below.refl _ _).alloc (Nat.le_refl _) o))
theorem aY.setCell {rb:Nat}{a w:World}(h:aY rb a w)(o:Nat)(u:Value):aY rb a (w.setCell ⟨rb,o,none⟩ u):=
 h.trans ⟨rfl,rfl,rfl,by simp[World.setCell],fun k _ d=>Below.heap_setCell _ _ _ _ d⟩
structure Rdr (w:World) (rb g cap:Nat) (ws:List Rd.Wd) (st:Rd.St):Prop where
 rd:w.heap[rb]?=some (.cells #[.slice (some ⟨g,0,none⟩) ws.length cap,.int .i64 st.next,.int .i64 st.around,.int .i64 st.deepest,.int .i64 st.nodes] 109 (0,0))
 row:∃cur,w.heap[g]?=some (.cells cur 105 (0,0))/\cur.toList.take (ws.length*3)=Rd.dV ws
 ne:g≠rb
variable {k:Nat}
theorem eZ {o:Obj}(h:w.heap[k]?=some o):k<w.heap.size:=by
 rcases Nat.lt_or_ge k w.heap.size with h1|h1
 ·exact h1
 ·rw[Array.getElem?_eq_none h1]at h;cases h
variable {g cap:Nat}{ws:List Rd.Wd}{st:Rd.St}
theorem Rdr.lt (h:Rdr w rb g cap ws st):rb<w.heap.size:=eZ h.rd
theorem Rdr.aT {a:Rd.St}(h:Rdr w rb g cap ws st)(i:aY rb w b)
  (j:b.heap[rb]?=some (.cells #[.slice (some ⟨g,0,none⟩) ws.length cap,.int .i64 a.next,.int .i64 a.around,.int .i64 a.deepest,.int .i64 a.nodes] 109 (0,0))):Rdr b rb g cap ws a:=by
 obtain⟨d,e,f⟩:=h.row;exact⟨j,⟨d,by rw[i.block g (eZ e) h.ne];exact e,f⟩,h.ne⟩
theorem Rdr.below (h:Rdr w rb g cap ws st)(a:Below w.heap.size w b):Rdr b rb g cap ws st:=
 h.aT (aY.eH a) (by rw[a.block rb h.lt];exact h.rd)
variable {b o:Nat}{xs:Array Value}
theorem bK {t:TypeId}{v:Value}(h:w.heap[b]?=some (.cells xs t (0,0)))(hv:xs[o]?=some v):w.cell? ⟨b,o,none⟩=some v:=by
 simp[World.cell?,h,hv]
theorem nD {t:TypeId}(h:w.heap[b]?=some (.cells xs t (0,0))):w.frozen? ⟨b,o,none⟩=false:=by
 simp[World.frozen?,h]
section
variable {w:World} {b:Nat} {xs:Array Value} {t:TypeId} {u v x y:Value}
theorem iR (h:w.heap[b]?=some (.cells xs t (0,0)))(a:xs[0]?=some u)(d:xs[1]?=some v):w.cell? ⟨b,0,none⟩=some u/\w.cell? ⟨b,1,none⟩=some v:=⟨bK h a,bK h d⟩
theorem nS (h:w.heap[b]?=some (.cells xs t (0,0)))(a:xs[0]?=some u)(d:xs[1]?=some v)(e:xs[2]?=some x):w.cell? ⟨b,0,none⟩=some u/\w.cell? ⟨b,1,none⟩=some v/\w.cell? ⟨b,2,none⟩=some x:=⟨bK h a,bK h d,bK h e⟩
theorem Lj (h:w.heap[b]?=some (.cells xs t (0,0)))(a:xs[0]?=some u)(d:xs[1]?=some v)(e:xs[2]?=some x)(f:xs[3]?=some y):w.cell? ⟨b,0,none⟩=some u/\w.cell? ⟨b,1,none⟩=some v/\w.cell? ⟨b,2,none⟩=some x/\w.cell? ⟨b,3,none⟩=some y:=⟨bK h a,bK h d,bK h e,bK h f⟩
theorem tX (h:w.heap[b]?=some (.cells xs t (0,0))):w.frozen? ⟨b,0,none⟩=false/\w.frozen? ⟨b,1,none⟩=false:=⟨nD h,nD h⟩
theorem cf2 (h:w.heap[b]?=some (.cells xs t (0,0)))(a:xs[0]?=some u)(d:xs[1]?=some v):w.cell? ⟨b,0,none⟩=some u/\w.cell? ⟨b,1,none⟩=some v/\w.frozen? ⟨b,0,none⟩=false/\w.frozen? ⟨b,1,none⟩=false:=⟨bK h a,bK h d,nD h,nD h⟩
theorem yM (h:w.heap[b]?=some (.cells xs t (0,0)))(a:xs[0]?=some u)(d:xs[1]?=some v)(e:xs[2]?=some x):w.cell? ⟨b,0,none⟩=some u/\w.cell? ⟨b,1,none⟩=some v/\w.cell? ⟨b,2,none⟩=some x/\w.frozen? ⟨b,0,none⟩=false/\w.frozen? ⟨b,1,none⟩=false/\w.frozen? ⟨b,2,none⟩=false:=⟨bK h a,bK h d,bK h e,nD h,nD h,nD h⟩
end
theorem rU {t:TypeId}{m:Nat×Nat}(h:w.heap[b]?=some (.cells xs t m))(u:Value):(w.setCell ⟨b,o,none⟩ u).heap[b]?=some (.cells (xs.setIfInBounds o u) t m):=by
 simp[World.setCell,Array.getElem?_modify,h]
section
variable {w:World} {rb g cap:Nat} {ws:List Rd.Wd} {st:Rd.St}
theorem Rdr.c0 (h:Rdr w rb g cap ws st):w.cell? ⟨rb,0,none⟩=some (.slice (some ⟨g,0,none⟩) ws.length cap):=bK h.rd rfl
theorem Rdr.c1 (h:Rdr w rb g cap ws st):w.cell? ⟨rb,1,none⟩=some (.int .i64 st.next):=bK h.rd rfl
theorem Rdr.c2 (h:Rdr w rb g cap ws st):w.cell? ⟨rb,2,none⟩=some (.int .i64 st.around):=bK h.rd rfl
theorem Rdr.c3 (h:Rdr w rb g cap ws st):w.cell? ⟨rb,3,none⟩=some (.int .i64 st.deepest):=bK h.rd rfl
theorem Rdr.c4 (h:Rdr w rb g cap ws st):w.cell? ⟨rb,4,none⟩=some (.int .i64 st.nodes):=bK h.rd rfl
theorem Rdr.fz (h:Rdr w rb g cap ws st)(o:Nat):w.frozen? ⟨rb,o,none⟩=false:=nD h.rd
theorem Rdr.alloc (h:Rdr w rb g cap ws st)(o:Obj):Rdr (w.alloc o) rb g cap ws st:=h.below ((Below.refl _ _).alloc (Nat.le_refl _) o)
theorem Rdr.drewN (h:Rdr w rb g cap ws st)(n:Nat):Rdr (w.drewN n) rb g cap ws st:=⟨h.rd,h.row,h.ne⟩
theorem Rdr.xW (h:Rdr w rb g cap ws st)(n:Nat){m:Int}(a:m=(n:Int)):Rdr (w.setCell ⟨rb,1,none⟩ (.int .i64 m)) rb g cap ws {st with next:=n}:=
 h.aT ((aY.refl _ _).setCell 1 _) (by subst a;rw[rU h.rd];rfl)
theorem Rdr.Eg (h:Rdr w rb g cap ws st)(n:Nat){m:Int}(a:m=(n:Int)):Rdr (w.setCell ⟨rb,2,none⟩ (.int .i64 m)) rb g cap ws {st with around:=n}:=
 h.aT ((aY.refl _ _).setCell 2 _) (by subst a;rw[rU h.rd];rfl)
theorem Rdr.oM (h:Rdr w rb g cap ws st)(n:Nat){m:Int}(a:m=(n:Int)):Rdr (w.setCell ⟨rb,3,none⟩ (.int .i64 m)) rb g cap ws {st with deepest:=n}:=
 h.aT ((aY.refl _ _).setCell 3 _) (by subst a;rw[rU h.rd];rfl)
theorem Rdr.Eh (h:Rdr w rb g cap ws st)(n:Nat){m:Int}(a:m=(n:Int)):Rdr (w.setCell ⟨rb,4,none⟩ (.int .i64 m)) rb g cap ws {st with nodes:=n}:=
 h.aT ((aY.refl _ _).setCell 4 _) (by subst a;rw[rU h.rd];rfl)
end
namespace Nm
def val (B:Int):List Int->Int
 | []=>0
 |d::r=>d+B*val B r
def dK (B:Int)(l:List Int):Prop:=∀d∈l,0<=d/\d<B
def Top (l:List Int):Prop:=∀(h:l≠[]),l.getLast h≠0
def at' (l:List Int)(i:Nat):Int:=l.getD i 0
theorem Sd (B:Int):∀l r,val B (l++r)=val B l+B^l.length*val B r:=by
 intro l r
 induction l with
 |nil=>simp[val]
 |cons d l a=>simp only[List.cons_append,val,List.length_cons,a,Int.pow_succ];grind
theorem De (B:Int)(l:List Int)(d:Int):val B (l++[d])=val B l+d*B^l.length:=by
 rw[Sd];simp only[val];grind
theorem yG (B:Int)(l:List Int)(i:Nat):val B (l.take (i+1))=val B (l.take i)+at' l i*B^i:=by
 rcases Nat.lt_or_ge i l.length with h|h
 ·rw[List.take_succ_eq_append_getElem h,De,List.length_take,Nat.min_eq_left (by omega)];unfold at';rw[List.getD_eq_getElem?_getD,List.getElem?_eq_getElem h];rfl
 ·rw[List.take_of_length_le (by omega),List.take_of_length_le h];unfold at';rw[List.getD_eq_getElem?_getD,List.getElem?_eq_none h];simp
variable {i:Nat}
theorem Ey (B:Int)(l:List Int)(h:l.length<=i):val B (l.take i)=val B l:=by
 rw[List.take_of_length_le h]
theorem aOO (B:Int):∀(l:List Int) (k:Nat) (x:Int),k<l.length->val B (l.set k x)=val B l+(x-at' l k)*B^k:=by
 intro l
 induction l with
 |nil=>intro k x h;simp at h
 |cons d l a=>
  intro k x h
  cases k with
  |zero=>simp[val,at'];grind
  |succ k=>
   have:=a k x (by simpa using h);simp only[List.set_cons_succ,val,this,Int.pow_succ,at',List.getD_cons_succ];grind
theorem dK.nil (B:Int):dK B []:=fun d h=>by cases h
variable {v d:Int}{s:List Int}
theorem dK.cons (a:0<=d)(b:d<v)(h:dK v s):dK v (d::s):=by
 intro x hx
 rcases List.mem_cons.1 hx with rfl|hx
 ·exact⟨a,b⟩
 ·exact h x hx
theorem dK.snoc (h:dK v s)(a:0<=d)(b:d<v):dK v (s++[d]):=by
 intro x hx
 rcases List.mem_append.1 hx with hx|hx
 ·exact h x hx
 ·rw[List.mem_singleton.1 hx];exact⟨a,b⟩
theorem dK.take {v:Int}{s:List Int}(h:dK v s)(n:Nat):dK v (s.take n):=fun d a=>h d (List.mem_of_mem_take a)
theorem dK.set {v:Int}{s:List Int}(h:dK v s)(k:Nat){x:Int}(b:0<=x)(e:x<v):dK v (s.set k x):=by
 intro d f
 rcases List.mem_or_eq_of_mem_set f with a|rfl
 ·exact h d a
 ·exact⟨b,e⟩
theorem dK.at' {B:Int}{s:List Int}(a:0<B)(h:dK B s)(i:Nat):0<=at' s i/\at' s i<B:=by
 unfold Nm.at';rw[List.getD_eq_getElem?_getD]
 cases b:s[i]? with
 |none=>exact⟨Int.le_refl _,a⟩
 |some x=>exact h x (List.mem_of_getElem? b)
theorem dK.mS (a:0<v)(n:Nat):dK v (List.replicate n 0):=by
 intro d b;rw[(List.mem_replicate.1 b).2];exact⟨Int.le_refl _,a⟩
theorem Ya (B:Int)(n:Nat):val B (List.replicate n 0)=0:=by
 induction n with
 |zero=>rfl
 |succ n a=>rw[List.replicate_succ,val,a];simp
variable {B:Int}
theorem jZ (a:0<B)(n:Nat):0<B^n:=Int.pow_pos a
theorem uF (b:0<B):∀{l},dK B l->0<=val B l:=by
 intro l
 induction l with
 |nil=>intro _;exact Int.le_refl _
 |cons d l f=>
  intro h;have a:=f (fun x e=>h x (List.mem_cons_of_mem _ e));have g:=h d List.mem_cons_self;have:=Int.mul_nonneg (Int.le_of_lt b) a;simp only[val];omega
theorem xF (a:0<B):∀{l},dK B l->val B l<B^l.length:=by
 intro l
 induction l with
 |nil=>intro _;simp[val]
 |cons d l e=>
  intro h;have f:=e (fun x b=>h x (List.mem_cons_of_mem _ b));have g:=h d List.mem_cons_self;have:B*(val B l+1)<=B*B^l.length:=Int.mul_le_mul_of_nonneg_left (by omega) (Int.le_of_lt a);rw[Int.mul_add,Int.mul_one,Int.mul_comm B (B^l.length)]at this;simp only[val,List.length_cons,Int.pow_succ];omega
def strip (l:List Int):List Int:=(l.reverse.dropWhile (·==0)).reverse
theorem Ma (l:List Int):strip (l++[0])=strip l:=by simp[strip]
theorem Ml (l:List Int)(h:d≠0):strip (l++[d])=l++[d]:=by simp[strip,h]
theorem Tk {p:List Int->Prop}(a:p [])(b:∀l d,p l->p (l++[d])):∀l,p l:=by
 intro l;rw[<-List.reverse_reverse l]
 induction l.reverse with
 |nil=>exact a
 |cons d r e=>rw[List.reverse_cons];exact b _ _ e
theorem Cy (B:Int):∀l,val B (strip l)=val B l:=by
 refine Tk rfl ?_;intro l d a
 by_cases h:d=0
 ·subst h;rw[Ma,a,De];simp
 ·rw[Ml l h]
theorem yH:∀l,(strip l).length<=l.length:=by
 refine Tk (Nat.le_refl _) ?_;intro l d a
 by_cases h:d=0
 ·subst h;rw[Ma];simp;omega
 ·rw[Ml l h];exact Nat.le_refl _
theorem Xn:∀l,strip l=l.take (strip l).length:=by
 refine Tk rfl ?_;intro l d a
 by_cases h:d=0
 ·subst h;rw[Ma,List.take_append_of_le_length (yH l)];exact a
 ·rw[Ml l h,List.take_length]
theorem dK.strip {v:Int}{s:List Int}(h:dK v s):dK v (strip s):=by
 rw[Xn];exact h.take _
theorem aOF:∀l,Top (strip l):=by
 refine Tk ?_ ?_
 ·intro h;exact absurd rfl h
 ·intro l d a
  by_cases h:d=0
  ·subst h;rw[Ma];exact a
  ·rw[Ml l h];intro _;simpa using h
theorem Top.nil:Top []:=fun h=>absurd rfl h
theorem aQk (h:d≠0):Top (s++[d]):=by intro _;simpa using h
structure Good (B:Int) (l:List Int):Prop where
 fB:dK B l
 top:Top l
theorem Good.nil (B:Int):Good B []:=⟨dK.nil B,Top.nil⟩
theorem Cz (h:dK v s):Good v (strip s):=⟨h.strip,aOF s⟩
theorem aEw (h:Good v s):s=[]\/∃r d,s=r++[d]/\dK v r/\1<=d/\d<v:=by
 rcases List.eq_nil_or_concat s with a|⟨r,d,a⟩
 ·exact Or.inl a
 ·refine Or.inr ⟨r,d,by rw[a];simp,fun x f=>h.fB x (by rw[a];simp[f]),?_⟩;have g:=h.fB d (by rw[a];simp);have b:=h.top (by rw[a];simp)
  have e:s.getLast (by rw[a];simp)=d:=by simp[a]
  rw[e]at b;omega
theorem Kn (a:0<v)(h:Good v s)(e:s≠[]):v^(s.length-1)<=val v s:=by
 rcases aEw h with rfl|⟨r,d,rfl,f,b,_⟩
 ·exact absurd rfl e
 ·rw[De];have g:=uF a f;have i:=Int.mul_le_mul_of_nonneg_right b (Int.le_of_lt (jZ a r.length));simp only[List.length_append,List.length_cons,List.length_nil,Nat.add_sub_cancel];omega
theorem Tq (b:0<v)(h:Good v s):val v s=0↔s=[]:=by
 constructor
 ·intro a
  by_cases d:s=[]
  ·exact d
  ·have e:=Kn b h d;have:=jZ b (s.length-1);omega
 ·intro a;rw[a];rfl
theorem tK (b:1<=B){m n:Nat}(h:m<=n):B^m<=B^n:=by
 obtain⟨k,rfl⟩:=Nat.exists_eq_add_of_le h;rw[Int.pow_add]
 have a:1<=B^k:=by have:=jZ (B:=B) (by omega) k;omega
 have:=Int.mul_le_mul_of_nonneg_left a (Int.le_of_lt (jZ (B:=B) (by omega) m));omega
variable {a b:List Int}
theorem Se (e:1<=v)(f:dK v a)(g:Good v b)(h:a.length<b.length):val v a<val v b:=by
 have i:=xF (by omega) f;have j:=Kn (by omega) g (by intro d;rw[d]at h;simp at h);have k:=tK e (show a.length<=b.length-1 by omega);omega
theorem aOM (q:1<=v)(j:dK v a)(l:dK v b)(i:Nat)(o:a.drop (i+1)=b.drop (i+1))(h:at' a i<at' b i)(k:i<a.length)(n:i<b.length):val v a<val v b:=by
 have d:val v a=val v (a.take (i+1))+v^(i+1)*val v (a.drop (i+1)):=by
  conv=>lhs;rw[<-List.take_append_drop (i+1) a,Sd,List.length_take,Nat.min_eq_left (by omega)]
 have e:val v b=val v (b.take (i+1))+v^(i+1)*val v (b.drop (i+1)):=by
  conv=>lhs;rw[<-List.take_append_drop (i+1) b,Sd,List.length_take,Nat.min_eq_left (by omega)]
 rw[d,e,o,yG,yG];have f:=xF (by omega) (j.take i);have p:=uF (by omega) (l.take i);rw[List.length_take,Nat.min_eq_left (by omega)]at f;have g:(at' a i+1)*v^i<=at' b i*v^i:=Int.mul_le_mul_of_nonneg_right (by omega) (Int.le_of_lt (jZ (by omega) i));rw[Int.add_mul,Int.one_mul]at g;omega
theorem aPo (b:2<=v)(h:Good v s){w:Nat}(hv:val v s<2^w):s.length<=w:=by
 by_cases a:s=[]
 ·subst a;simp
 ·have e:=Kn (by omega) h a
  have f:(2:Int)^(s.length-1)<=v^(s.length-1):=by
   generalize s.length-1=k
   induction k with
   |zero=>simp
   |succ k d=>
    rw[Int.pow_succ,Int.pow_succ];exact Int.mul_le_mul d b (by omega) (Int.le_of_lt (jZ (by omega) k))
  rcases Nat.lt_or_ge w s.length with h3|h3
  ·have g:=tK (B:=2) (by omega) (show w<=s.length-1 by omega);omega
  ·exact h3
variable {x:Int}
theorem aN6 {c:Int}{out:List Int}(f:out.length=i)(h:val v out+c*v^i=val v (a.take i)+val v (b.take i))(g:x=c+at' a i+at' b i):
  val v (out++[x%v])+x/v*v^(i+1)=val v (a.take (i+1))+val v (b.take (i+1)):=by
 rw[De,yG,yG,f,Int.pow_succ];have:=Int.emod_add_mul_ediv x v;generalize x%v=d at*;generalize x/v=e at*;grind
variable {l:Int}
theorem aNx {c:Int}{out:List Int}(e:out.length=i)(h:val v out+val v (b.take i)=val v (a.take i)+c*v^i)(f:d=at' a i-at' b i-c+l*v):
  val v (out++[d])+val v (b.take (i+1))=val v (a.take (i+1))+l*v^(i+1):=by
 rw[De,yG,yG,e,Int.pow_succ];grind
theorem aPu {c:Int}(e:0<v){out:List Int}(q:a.length=i)(n:out.length=i)(o:dK v out)(hc:0<=c)(l:val v b<=val v a)(d:b.length<=i)
  (h:val v out+val v (b.take i)=val v (a.take i)+c*v^i):c=0/\val v out=val v a-val v b:=by
 rw[Ey v a (by omega),Ey v b d]at h;have f:=xF e o;rw[n]at f;have k:=jZ e i
 have g:c*v^i<1*v^i:=by omega
 have p:=Int.lt_of_mul_lt_mul_right g (Int.le_of_lt k)
 have j:c=0:=by omega
 subst j;exact⟨rfl,by omega⟩
theorem aKu {c j:Int}{out:List Int}(a:i+k<out.length)(h:val v out+c*v^(i+k)=l+j*val v (b.take k)*v^i)(g:x=c+at' out (i+k)+j*at' b k):
  val v (out.set (i+k) (x%v))+x/v*v^(i+(k+1))=l+j*val v (b.take (k+1))*v^i:=by
 rw[aOO v out (i+k) (x%v) a,yG,<-Nat.add_assoc,Int.pow_succ];have:=Int.emod_add_mul_ediv x v;have f:v^(i+k)=v^i*v^k:=Int.pow_add v i k;generalize x%v=d at*;generalize x/v=e at*;generalize at' out (i+k)=o at*;rw[f]at h ⊢;generalize v^i=P at*;generalize v^k=Q at*;grind
theorem aIi {c a b:Int}(h:1<=v)(c0:0<=c)(c1:c<v)(j:0<=l)(o1:l<v)(a0:0<=a)(a1:a<v)(b0:0<=b)(b1:b<v)(i:x=c+l+a*b):0<=x/\0<=x/v/\x/v<v/\x<v*v:=by
 have e:a*b<=(v-1)*(v-1):=Int.mul_le_mul (by omega) (by omega) b0 (by omega)
 have f:(v-1)*(v-1)=v*v-2*v+1:=by grind
 have g:0<=a*b:=Int.mul_nonneg a0 b0
 have d:x<v*v:=by omega
 exact⟨by omega,Int.ediv_nonneg (by omega) (by omega),Int.ediv_lt_of_lt_mul (by omega) d,d⟩
def cmp (x y:Int):Int:=bif decide (x<y)then -1 else bif decide (x=y)then 0 else 1
variable {y:Int}
theorem jB (h:x<y):cmp x y=-1:=by rw[cmp,decide_eq_true h];rfl
theorem gV (h:y<x):cmp x y=1:=by rw[cmp,decide_eq_false (by omega),decide_eq_false (by omega)];rfl
theorem jA (h:x=y):cmp x y=0:=by rw[cmp,decide_eq_false (by omega),decide_eq_true h];rfl
theorem aPv (f:a.length=b.length)(hi:i<a.length)(e:a.drop (i+1)=b.drop (i+1))(h:at' a i=at' b i):a.drop i=b.drop i:=by
 have d:i<b.length:=by omega
 rw[List.drop_eq_getElem_cons hi,List.drop_eq_getElem_cons d,e];congr 1;unfold at' at h;rw[List.getD_eq_getElem?_getD,List.getD_eq_getElem?_getD,List.getElem?_eq_getElem hi,List.getElem?_eq_getElem d]at h;exact h
theorem Np (B:Int)(l:List Int)(i:Nat)(h:i<l.length):val B (l.drop i)=at' l i+B*val B (l.drop (i+1)):=by
 rw[List.drop_eq_getElem_cons h,val];unfold at';rw[List.getD_eq_getElem?_getD,List.getElem?_eq_getElem h];rfl
theorem Xh {a b q r:Int}(f:0<b)(h:a=q*b+r)(d:0<=r)(e:r<b):a/b=q/\a%b=r:=by
 subst h;refine⟨?_,?_⟩
 ·rw[Int.add_comm,Int.add_mul_ediv_right _ _ (by omega),Int.ediv_eq_zero_of_lt d e];omega
 ·rw[Int.add_comm,Int.add_mul_emod_self_right,Int.emod_eq_of_lt d e]
theorem aM7 {a b q r:Int}(d:0<b)(h:a=q*b+r)(f:0<=r)(g:r<b):(-a)/b=if r=0 then -q else -q-1:=by
 by_cases e:r=0
 ·rw[if_pos e];exact(Xh d (q:=-q) (r:=0) (by subst h e;grind) (by omega) d).1
 ·rw[if_neg e];exact(Xh d (q:=-q-1) (r:=b-r) (by subst h;grind) (by omega) (by omega)).1
end Nm
theorem hid {p:Prop}(h:p):Hid p:=h
def hX (B:Nat)(w:World)(a:List Int)(v:Value):Prop:=w.ownsRow B 3 1 v a.length (a.map (Value.int .i64))
abbrev Ints (w:World)(a:List Int)(v:Value):Prop:=hX 0 w a v
variable {n b:World}{i:List Value}
theorem aIq {w s:Nat}(h:n.ownsRow w e s z W i)(l:Below n.heap.size n b):b.ownsRow w e s z W i:=by
 obtain⟨k,f⟩:=h;refine⟨k,?_⟩
 rcases f with f|⟨g,a,d,hv,o,j,r⟩
 ·exact Or.inl f
 ·exact Or.inr ⟨g,a,d,hv,o,by rw[l.block g (eZ j)];exact j,r⟩
theorem aPL {w s a:Nat}(h:n.ownsRow w e s z a i)(o:k<=w):n.ownsRow k e s z a i:=by
 obtain⟨j,f⟩:=h;refine⟨j,?_⟩
 rcases f with f|⟨g,b,d,hv,p,l,r⟩
 ·exact Or.inl f
 ·exact Or.inr ⟨g,b,d,hv,by omega,l,r⟩
variable {s:List Int}
theorem hX.below {B:Nat}{v:Value}(h:hX B w s v)(a:Below w.heap.size w b):hX B b s v:=aIq h a
theorem hX.alloc {w:Nat}{n:World}{xs:List Int}{v:Value}(h:hX w n xs v)(o:Obj):hX w (n.alloc o) xs v:=h.below ((Below.refl _ _).alloc (Nat.le_refl _) o)
theorem hX.nil (B:Nat)(w:World):hX B w [] (.slice none 0 0):=⟨rfl,Or.inl ⟨rfl,rfl⟩⟩
theorem hX.shape {w:Nat}(h:hX w n s z):∃b a,z=.slice b s.length a/\s.length<=a:=by
 rcases h.2 with⟨h,e⟩|⟨g,a,d,h,_,_,hc,_⟩
 ·exact⟨none,0,by rw[h,e],by omega⟩
 ·exact⟨_,_,h,hc⟩
variable {a:Option Addr}{p:Nat}
theorem hX.place {w:Nat}(h:hX w n s (.slice a k p))(o:0<s.length):∃g,a=some ⟨g,0,none⟩/\∀j,j<s.length->n.cell? ⟨g,j,none⟩=some (.int .i64 (Nm.at' s j)):=by
 rcases h.2 with⟨_,l⟩|⟨g,b,d,h,_,e,hc,_,_,i⟩
 ·omega
 ·cases h;refine⟨g,rfl,fun j f=>bK e ?_⟩
  have:(s.map (Value.int .i64))[j]?=some (.int .i64 (Nm.at' s j)):=by
   simp[Nm.at',List.getD,List.getElem?_eq_getElem f]
  rw[<-i,List.getElem?_take_of_lt (by omega)]at this
  simpa using this
def pM (w:World)(z:Int)(v:Value):Prop:=∃a b,v=.agg #[.bool (decide (z<0)),b]/\Ints w a b/\Nm.Good 10000 a/\Nm.val 10000 a=z.natAbs
theorem pM.below {w b:World}{z:Int}{v:Value}(h:pM w z v)(i:Below w.heap.size w b):pM b z v:=by
 obtain⟨a,d,e,f,g⟩:=h;exact⟨a,d,e,f.below i,g⟩
theorem pM.alloc {n:World}{z:Int}{v:Value}(h:pM n z v)(o:Obj):pM (n.alloc o) z v:=h.below ((Below.refl _ _).alloc (Nat.le_refl _) o)
theorem lQ:(prog.info? 168).map (fun i=>(i.zero,i.size,i.bytes))=some (some (.int .u32 0),1,4):=by kernel_rfl
def cG (B:Nat)(w:World)(a:List Int)(v:Value):Prop:=w.ownsRow B 168 1 v a.length (a.map (Value.int .u32))
abbrev Lims (w:World)(a:List Int)(v:Value):Prop:=cG 0 w a v
theorem cG.below {B:Nat}{v:Value}(h:cG B w s v)(a:Below w.heap.size w b):cG B b s v:=aIq h a
theorem cG.alloc {w:Nat}{n:World}{xs:List Int}{v:Value}(h:cG w n xs v)(o:Obj):cG w (n.alloc o) xs v:=h.below ((Below.refl _ _).alloc (Nat.le_refl _) o)
theorem cG.nil (B:Nat)(w:World):cG B w [] (.slice none 0 0):=⟨rfl,Or.inl ⟨rfl,rfl⟩⟩
variable {w:Nat}
theorem cG.bU (h:cG w n s z)(a:k<=w):cG k n s z:=aPL h a
theorem cG.shape (h:cG w n s z):∃b a,z=.slice b s.length a/\s.length<=a:=by
 rcases h.2 with⟨h,e⟩|⟨g,a,d,h,_,_,hc,_⟩
 ·exact⟨none,0,by rw[h,e],by omega⟩
 ·exact⟨_,_,h,hc⟩
theorem cG.place (h:cG w n s (.slice a k p))(o:0<s.length):∃g,a=some ⟨g,0,none⟩/\∀j,j<s.length->n.cell? ⟨g,j,none⟩=some (.int .u32 (Nm.at' s j)):=by
 rcases h.2 with⟨_,l⟩|⟨g,b,d,h,_,e,hc,_,_,i⟩
 ·omega
 ·cases h;refine⟨g,rfl,fun j f=>bK e ?_⟩
  have:(s.map (Value.int .u32))[j]?=some (.int .u32 (Nm.at' s j)):=by
   simp[Nm.at',List.getD,List.getElem?_eq_getElem f]
  rw[<-i,List.getElem?_take_of_lt (by omega)]at this
  simpa using this
theorem cG.other {b:Nat}(h:cG b n s z){x:Array Value}{T:TypeId}{m:Nat×Nat}(i:n.heap[k]?=some (.cells x T m))(p:T≠168)(u:Value):cG b (n.setCell ⟨k,o,none⟩ u) s z:=by
 obtain⟨l,f⟩:=h;refine⟨l,?_⟩
 rcases f with f|⟨g,a,d,hv,q,j,r⟩
 ·exact Or.inl f
 ·refine Or.inr ⟨g,a,d,hv,q,?_,r⟩;rw[Below.heap_setCell _ _ _ _ ?_]
  ·exact j
  ·intro e;simp only at e;rw[e]at j;rw[j]at i;simp at i;exact p i.2.1.symm
def dQ (w:World)(G:Nat)(b:List Int):Prop:=∃a,w.heap[G]?=some (.cells a 168 (0,0))/\a.toList=b.map (Value.int .u32)
theorem dQ.cell {n:World}{G:Nat}{s:List Int}(h:dQ n G s)(j:Nat)(e:j<s.length):n.cell? ⟨G,j,none⟩=some (.int .u32 (Nm.at' s j)):=by
 obtain⟨a,b,d⟩:=h;refine bK b ?_
 have:(s.map (Value.int .u32))[j]?=some (.int .u32 (Nm.at' s j)):=by
  simp[Nm.at',List.getD,List.getElem?_eq_getElem e]
 rw[<-d]at this
 simpa using this
theorem dQ.frozen {n:World}{G:Nat}{s:List Int}(h:dQ n G s)(j:Nat):n.frozen? ⟨G,j,none⟩=false:=by
 obtain⟨a,b,d⟩:=h;exact nD b
theorem dQ.set {w:World}{G:Nat}{xs:List Int}(h:dQ w G xs)(j:Nat)(x:Int):dQ (w.setCell ⟨G,j,none⟩ (.int .u32 x)) G (xs.set j x):=by
 obtain⟨a,b,d⟩:=h;refine⟨_,rU b _,?_⟩;rw[Array.toList_setIfInBounds,d,List.map_set]
theorem dQ.lt {G:Nat}(h:dQ n G s):G<n.heap.size:=by
 obtain⟨a,b,d⟩:=h;exact eZ b
theorem dQ.drew {n:World}{G:Nat}{s:List Int}(h:dQ n G s):dQ n.drew G s:=h
theorem dQ.sO {G:Nat}(h:dQ n G s)(e:s.length<=100000000000):Lims n s (.slice (some ⟨G,0,none⟩) s.length s.length):=by
 obtain⟨a,d,b⟩:=h;refine⟨by simp,Or.inr ⟨G,s.length,a,rfl,Nat.zero_le _,d,Nat.le_refl _,by unfold maxLen;omega,?_,?_⟩⟩
 ·rw[<-Array.length_toList,b];simp
 ·rw[b];exact List.take_of_length_le (by simp)
theorem cG.nQ (h:cG w n s (.slice (some ⟨k,0,none⟩) p W))(j:Nat)(b:j<s.length):n.cell? ⟨k,j,none⟩=some (.int .u32 (Nm.at' s j)):=by
 obtain⟨d,a,hc⟩:=h.place (by omega);cases a;exact hc j b
theorem dQ.made (w:World)(n:Nat):dQ (w.alloc (.cells (madeCells #[.int .u32 0] n) 168)) w.heap.size (List.replicate n 0):=⟨madeCells #[.int .u32 0] n,by show(w.heap.push _)[w.heap.size]?=_;simp,by rw[toList_madeCells_one];simp⟩
theorem cG.Ao (h:cG w n s z){G:Nat}(j:G<w)(u:Value):cG w (n.setCell ⟨G,p,none⟩ u) s z:=by
 obtain⟨e,d⟩:=h;refine⟨e,?_⟩
 rcases d with d|⟨g,a,b,hv,f,i,r⟩
 ·exact Or.inl d
 ·exact Or.inr ⟨g,a,b,hv,f,by rw[Below.heap_setCell _ _ _ _ (by simp only;omega)];exact i,r⟩
theorem dQ.below {w:World}{G:Nat}(h:dQ w G s)(f:Below w.heap.size w b):dQ b G s:=by
 obtain⟨a,d,e⟩:=h;exact⟨a,by rw[f.block _ (eZ d)];exact d,e⟩
def cP (w:World)(p:List Int->Prop):Ending->World->Prop:=fun e a=>∃v b,e=.returned v/\p b/\cG w.heap.size a b v/\Below w.heap.size w a
def WhoAt (w:World)(z:Int)(v:Value):Prop:=∃a b,v=.agg #[.bool (decide (z<0)),b]/\Lims w a b/\Nm.Good 4294967296 a/\Nm.val 4294967296 a=z.natAbs
theorem WhoAt.below {w b:World}{z:Int}{v:Value}(h:WhoAt w z v)(i:Below w.heap.size w b):WhoAt b z v:=by
 obtain⟨a,d,e,f,g⟩:=h;exact⟨a,d,e,f.below i,g⟩
theorem WhoAt.alloc {n:World}{z:Int}{v:Value}(h:WhoAt n z v)(o:Obj):WhoAt (n.alloc o) z v:=h.below ((Below.refl _ _).alloc (Nat.le_refl _) o)
variable {v:Int}
theorem WhoAt.open (h:WhoAt n v z):∃b d a,z=.agg #[.bool (decide (v<0)),.slice d b.length a]/\Lims n b (.slice d b.length a)/\Nm.Good 4294967296 b/\Nm.val 4294967296 b=v.natAbs:=by
 obtain⟨b,j,f,e,g,i⟩:=h;obtain⟨d,a,rfl,_⟩:=e.shape;exact⟨b,d,a,f,e,g,i⟩
theorem WhoAt.other {n:World}{v:Int}{z:Value}(h:WhoAt n v z){w o:Nat}{k:Array Value}{e:TypeId}{m:Nat×Nat}(i:n.heap[w]?=some (.cells k e m))(j:e≠168)(u:Value):WhoAt (n.setCell ⟨w,o,none⟩ u) v z:=by
 obtain⟨a,b,d,f,g⟩:=h;exact⟨a,b,d,f.other i j u,g⟩
def bR (w:World)(z:Int):Ending->World->Prop:=fun e a=>∃v,e=.returned v/\WhoAt a z v/\Below w.heap.size w a
theorem yJ {z:Int}(a:Nm.Good 4294967296 s)(hv:Nm.val 4294967296 s=z.natAbs)(b:z.natAbs<2^w):s.length<=w:=by
 refine Nm.aPo (by decide) a ?_;rw[hv];have:((z.natAbs:Nat):Int)<((2^w:Nat):Int):=Int.ofNat_lt.2 b
 simpa using this
theorem wV (w:World)(o:Obj):(w.alloc o).heap[w.heap.size]?=some o:=by show(w.heap.push o)[w.heap.size]?=some o;simp
theorem aX {a:World}(h:Below w a b)(d:w<=b.heap.size)(o:Obj):Below w a (b.alloc o):=h.alloc d o
theorem cO {o:Obj}(d:k<n.heap.size)(h:n.heap[k]?=some o)(a:Below n.heap.size n b):b.heap[k]?=some o:=by rw[a.block k d];exact h
theorem vJ (w:World):Below w.heap.size w w.drew:=⟨rfl,rfl,rfl,Nat.le_refl _,fun _ _=>rfl⟩
theorem qY (h:Below n.drew.heap.size n.drew b):Below n.heap.size n b:=⟨h.os,h.tape,h.output,h.size,h.block⟩
def Bits (n:Nat)(z:Int):Prop:=z.natAbs<2^n
variable {x y:Int}
theorem pA (a:Bits w x)(b:Bits w y):Bits (w+1) (x+y):=by
 unfold Bits at*;rw[Nat.pow_succ];omega
theorem yI (a:Bits w x):Bits w (-x):=by
 unfold Bits at*
 rwa[Int.natAbs_neg]
variable {n:Nat}
theorem eG {m:Nat}(a:Bits n x)(h:n<=m):Bits m x:=Nat.lt_of_lt_of_le a (Nat.pow_le_pow_right (by decide) h)
theorem fW {m:Nat}(a:Bits w x)(b:Bits m y):Bits (w+m) (x*y):=by
 unfold Bits at*;rw[Int.natAbs_mul,Nat.pow_add];exact Nat.mul_lt_mul'' a b
theorem Hk {m:Nat}(b:Bits w y)(h:x.natAbs<=y.natAbs)(a:w<=m):Bits m x:=Nat.lt_of_lt_of_le (Nat.lt_of_le_of_lt h b) (Nat.pow_le_pow_right (by decide) a)
theorem Mx {m:Nat}(a:Bits w x)(b:Bits m y):Bits (max w m) x/\Bits (max w m) y:=⟨eG a (Nat.le_max_left _ _),eG b (Nat.le_max_right _ _)⟩
theorem aHR (a:Bits w x)(b:Bits w y):Bits (w+1) (x-y):=by
 rw[Int.sub_eq_add_neg];exact pA a (yI b)
theorem So (h:Bits w v):Bits w (v.natAbs:Int):=by
 unfold Bits at*
 simpa using h
theorem Yu (n:Int):Bits (Nat.log2 n.natAbs+1) n:=by
 unfold Bits;exact Nat.lt_log2_self
namespace Ab
def Bits (u:Nat)(z:Int):Prop:=z.natAbs<2^(10000000*u)
theorem eG {m:Nat}(a:Bits n x)(h:n<=m):Bits m x:=Nat.lt_of_lt_of_le a (Nat.pow_le_pow_right (by decide) (Nat.mul_le_mul_left _ h))
theorem yI (a:Bits w x):Bits w (-x):=by
 unfold Bits at*
 rwa[Int.natAbs_neg]
theorem So (h:Bits w v):Bits w (v.natAbs:Int):=by
 unfold Bits at*
 simpa using h
theorem pA {w:Nat}{x y:Int}(a:Bits w x)(b:Bits w y):Bits (w+1) (x+y):=by
 have h:Go.Proofs.YtkmojpfpfoaloaaGreatDoor.Bits (10000000*w+1) (x+y):=Go.Proofs.YtkmojpfpfoaloaaGreatDoor.pA a b;exact Go.Proofs.YtkmojpfpfoaloaaGreatDoor.eG h (by omega)
theorem aHR (a:Bits w x)(b:Bits w y):Bits (w+1) (x-y):=by
 rw[Int.sub_eq_add_neg];exact pA a (yI b)
theorem fW {w m:Nat}{x y:Int}(a:Bits w x)(b:Bits m y):Bits (w+m) (x*y):=by
 have h:Go.Proofs.YtkmojpfpfoaloaaGreatDoor.Bits (10000000*w+10000000*m) (x*y):=Go.Proofs.YtkmojpfpfoaloaaGreatDoor.fW a b;rw[<-Nat.mul_add]at h;exact h
theorem Hk {m:Nat}(b:Bits w y)(h:x.natAbs<=y.natAbs)(a:w<=m):Bits m x:=eG (Nat.lt_of_le_of_lt h b) a
theorem Mx {m:Nat}(a:Bits w x)(b:Bits m y):Bits (max w m) x/\Bits (max w m) y:=⟨eG a (Nat.le_max_left _ _),eG b (Nat.le_max_right _ _)⟩
theorem Yu (n:Int):Bits (Nat.log2 n.natAbs+1) n:=by
 have h:Go.Proofs.YtkmojpfpfoaloaaGreatDoor.Bits (Nat.log2 n.natAbs+1) n:=Go.Proofs.YtkmojpfpfoaloaaGreatDoor.Yu n;exact Go.Proofs.YtkmojpfpfoaloaaGreatDoor.eG h (by omega)
theorem Kr (h:Go.Proofs.YtkmojpfpfoaloaaGreatDoor.Bits n v)(a:n<=10000000*k):Bits k v:=Go.Proofs.YtkmojpfpfoaloaaGreatDoor.eG h a
def mag:Bool->World->Int->Value->Prop
 |false,w,z,x=>∃a,Ints w a x/\Nm.Good 10000 a/\Nm.val 10000 a=z.natAbs
 |true,w,z,x=>∃a,Lims w a x/\Nm.Good 4294967296 a/\Nm.val 4294967296 a=z.natAbs
variable {n:World}
theorem aQ5 {bt:List TypeId}(h:On bt n b){s:Nat}(l:bt.contains e=false)(q:n.ownsRow w e s z W i):b.ownsRow w e s z W i:=by
 obtain⟨k,j⟩:=q;refine⟨k,?_⟩
 rcases j with j|⟨g,d,f,hv,o,p,r⟩
 ·exact Or.inl j
 ·refine Or.inr ⟨g,d,f,hv,o,?_,r⟩
  rcases h.cD g _ p with a|⟨a,_⟩
  ·exact a
  ·simp only[Ph]at a;rw[l]at a;cases a
theorem aN0 {s:Nat}(d:n.ownsRow w e s z W i):One z:=by
 rcases d.2 with⟨rfl,_⟩|⟨g,a,b,rfl,_⟩<;>rfl
noncomputable def mkC (bt:List TypeId)(f:bt.contains 3=false)(g:bt.contains 168=false):fF where
 P:=prog
 bt:=bt
 fB:=mag
 bits:=Bits
 zP:=by
  intro k w W z x h d
  cases k with
  |false=>obtain⟨b,a,e⟩:=d;exact⟨b,aQ5 h f a,e⟩
  |true=>obtain⟨b,a,e⟩:=d;exact⟨b,aQ5 h g a,e⟩
 zQ:=by
  intro k w z x d
  cases k with
  |false=>obtain⟨b,a,_⟩:=d;exact aN0 a
  |true=>obtain⟨b,a,_⟩:=d;exact aN0 a
def Li:List TypeId:=[89,119,130,91,93,98,206,81,86,84,55]
noncomputable def Z:fF:=mkC Li (by decide) (by decide)
theorem mixed:Z.P.follows .mixedOrders=true:=by kernel_rfl
theorem Ys (k:Bool)(w:World):mag k w 0 (.slice none 0 0):=by
 cases k
 ·exact⟨[],hX.nil 0 w,(Nm.Good.nil _),by simp[Nm.val]⟩
 ·exact⟨[],cG.nil 0 w,(Nm.Good.nil _),by simp[Nm.val]⟩
def dL (k:Bool):List Tok->Option (List Int×Nat)
 | []=>some ([],0)
 |.num b z n::r=>bif k==b then(dL k r).map fun(a,m)=>(z::a,max n m)else none
 |.c (.bool false)::.c (.lit (.slice none 0 0))::r=>(dL k r).map fun(a,m)=>(0::a,m)
 |_=>none
def mO:List Nat->List Nat->Bool
 | [],[]=>true
 |a::r,b::t=>Nat.ble a b&&mO r t
 |_,_=>false
def bD (k:Bool)(w:World):List Int->List Value->Prop
 | [],[]=>True
 |z::b,x::y::a=>x=.bool (decide (z<0))/\mag k w z y/\bD k w b a
 |_,_=>False
theorem Fg {k:Bool}{w:World}:∀(ts:List Tok) (g:List Int) (n:Nat) (f:List Value),dL k ts=some (g,n)->RT Z w ts f->bD k w g f/\∀z∈g,Bits n z
 | [],g,n,f,h,r=>by
  simp[dL]at h;obtain⟨rfl,rfl⟩:=h
  cases f with
  |nil=>exact⟨trivial,fun z hz=>by cases hz⟩
  |cons=>exact r.elim
 |.num E z m::ts,g,n,f,h,r=>by
  simp only[dL]at h
  cases e:k==E with
  |false=>rw[e]at h;cases h
  |true=>
   rw[e]at h;simp only[cond_true]at h
   have:k=E:=by simpa using e
   subst this;obtain⟨⟨i,B⟩,A,j⟩:=cA h;simp only[Prod.mk.injEq]at j;obtain⟨rfl,rfl⟩:=j
   match f,r with
   |x::y::f,⟨p,q,F,C⟩=>
    obtain⟨s,u⟩:=Fg ts i B f A C;refine⟨⟨p,q,s⟩,fun D hz=>?_⟩;simp at hz
    rcases hz with rfl|hz
    ·exact eG F (Nat.le_max_left _ _)
    ·exact eG (u D hz) (Nat.le_max_right _ _)
 | [.c c],g,n,f,h,r=>by
  cases c<;>(try (simp[dL]at h;done))<;>(rename_i b;cases b<;>simp[dL]at h)
 |.c c::.num _ _ _::ts,g,n,f,h,r=>by
  cases c<;>(try (simp[dL]at h;done))<;>(rename_i b;cases b<;>simp[dL]at h)
 |.c c::.c d::ts,g,n,f,h,r=>by
  cases c<;>try (simp[dL]at h;done)
  case bool b=>
   cases b with
   |true=>simp[dL]at h
   |false=>
    cases d<;>try (simp[dL]at h;done)
    case lit v=>
     cases v<;>try (simp[dL]at h;done)
     case slice o l c=>
      cases o with
      |some a=>simp[dL]at h
      |none=>
       cases l with
       |succ l=>simp[dL]at h
       |zero=>
        cases c with
        |succ c=>simp[dL]at h
        |zero=>
         simp only[dL]at h;obtain⟨⟨i,B⟩,A,j⟩:=cA h;simp only[Prod.mk.injEq]at j;obtain⟨rfl,rfl⟩:=j
         match f,r with
         |x::y::f,⟨_,p,_,q,C⟩=>
          obtain⟨s,u⟩:=Fg ts i B f A C;have p:x=.bool false:=p;have q:y=.slice none 0 0:=q.1;subst p q;refine⟨⟨rfl,Ys k w,s⟩,fun D hz=>?_⟩;simp at hz
          rcases hz with rfl|hz
          ·unfold Bits;simp;exact Nat.pow_pos (by decide)
          ·exact u D hz
theorem Ta {k:Bool}{n:World}{w:Nat}:∀(a:List Int) (b:List Value),bD k n a b->(∀z∈a,Bits w z)->RT Z n (a.map fun z=>.num k z w) b
 | [],[],_,_=>trivial
 |z::a,x::y::b,⟨e,f,g⟩,d=>⟨e,f,d z (by simp),Ta a b g fun j i=>d j (by simp[i])⟩
 | [],_::_,h,_=>h.elim
 |_::_,[],h,_=>h.elim
 |_::_,[_],h,_=>h.elim
variable {f:FuncId}
theorem aMT {P:Program}{fn:Func}(hf:P.funcs[f]?=some fn)(hn:(fn.name == "runtime.NumGoroutine")=false)(hb:fn.body.isNone=false):Enters P f:=by
 intro xs w
 have hn':¬fn.name = "runtime.NumGoroutine":=by simpa using hn
 have hb':¬fn.body=none:=by intro e;rw[e]at hb;cases hb
 simp[callFunc,hf,hn',hb']
def aF (fn:Func):Code:=fn.body.getD .skip
structure Fn (f:FuncId) (fn:Func):Prop where
 en:Enters Z.P f
 at':Z.P.funcs[f]?=some fn
 body:fn.body=some (aF fn)
theorem bI {fn:Func}(hf:prog.funcs[f]?=some fn)(hn:(fn.name == "runtime.NumGoroutine")=false)(hb:fn.body.isNone=false):Fn f fn:=by
 refine⟨aMT hf hn hb,hf,?_⟩;unfold aF
 cases h:fn.body with
 |none=>rw[h]at hb;cases hb
 |some c=>rfl
theorem dT:bV Z (fun _=>none):=fun f fn h=>by cases h
def iT:VT->Option (Int×List Prop)
 |.one (.int .i64 n)=>bif decide (n.natAbs<1000000000000000000)then some (n,[])else none
 |.one (.sint .i64 n)=>some (n,[n.natAbs<1000000000000000000])
 |_=>none
def Bo (k:Bool)(F:List Int->Option (List Int)):TE:=fun ts=>
 (eW iT ts).bind fun a=>(F (a.map (·.1))).map fun out=>(.val (.agg (out.map fun z=>.num k z 1)),(a.map (·.2)).flatten)
def oC (k:Bool):Out->Option (List Int×List Prop)
 |.ret (.val (.agg ts))=>(dL k ts).map fun p=>(p.1,[])
 |.need p o=>(oC k o).map fun(a,q)=>(a,p++q)
 |_=>none
theorem gR {p:Prop}{a:List Prop}(h:p)(b:Holds a):Holds (p::a):=by
 intro q hq;simp only[List.mem_cons]at hq
 rcases hq with rfl|hq
 ·exact h
 ·exact b q hq
def Rl (a:List (Int×List Prop)):List VT:=(a.map (·.1)).map fun z=>.one (.sint .i64 z)
theorem aNn {n:World}:∀(ts:List VT) (e:List (Int×List Prop)) (d:List Value),eW iT ts=some e->Holds (e.map (·.2)).flatten->All2 (lG Z n) ts d->All2 (lG Z n) (Rl e) d/\∀x∈e,x.1.natAbs<1000000000000000000
 | [],e,d,h,_,r=>by
  simp[eW]at h;subst h
  cases d with
  |cons=>exact r.elim
  |nil=>exact⟨trivial,fun x z=>by cases z⟩
 |t::ts,e,d,h,j,r=>by
  unfold eW at h;obtain⟨x,b,p⟩:=aU h;obtain⟨i,s,rfl⟩:=cA p
  match d,r with
  |v::d,⟨k,A⟩=>
   obtain⟨l,o⟩:=aNn ts i d s (fun q u=>j q (by simp only[List.map_cons,List.flatten_cons,List.mem_append];exact Or.inr u)) A
   have f:lG Z n (.one (.sint .i64 x.1)) v/\x.1.natAbs<1000000000000000000:=by
    unfold iT at b;split at b
    ·rename_i a
     cases g:decide (a.natAbs<1000000000000000000)with
     |false=>rw[g]at b;cases b
     |true=>rw[g]at b;cases b;exact⟨⟨rfl,k.2⟩,by simpa using g⟩
    ·cases b;exact⟨⟨rfl,k.2⟩,j _ (by simp)⟩
    ·cases b
   refine⟨⟨f.1,l⟩,fun y hy=>?_⟩;simp at hy
   rcases hy with rfl|hy
   ·exact f.2
   ·exact o y hy
theorem aNX {k:Bool}{G:RV->Prop}:∀{o:Out} {b:List Int} {a:List Prop},oC k o=some (b,a)->Holds a->(∀ts,(dL k ts).map (·.1)=some b->G (.val (.agg ts)))->o.ok G
 |.ret (.val (.agg ts)),b,a,h,_,f=>by
  simp only[oC]at h;obtain⟨p,d,e⟩:=cA h;cases e;exact f ts (by rw[d];rfl)
 |.need p o,b,a,h,i,f=>by
  simp only[oC]at h;obtain⟨⟨z,q⟩,d,e⟩:=cA h;cases e;exact⟨fun x g=>i x (by simp[g]),aNX d (fun x g=>i x (by simp[g])) f⟩
 |.ret (.val (.one _)),_,_,h,_,_=>by cases h
 |.ret (.tup _),_,_,h,_,_=>by cases h
 |.br _ _ _,_,_,h,_,_=>by cases h
variable {k:Bool}{l:List (FuncId×TE)}
theorem Bu (D:cX Z l){P:FuncId}{fn:Func}(d:Fn P fn){F:List Int->Option (List Int)}
  (h:∀a out,F a=some out->∃q,((run Z (aE l) (fun _=>none) (aO Z (aE l)) (fun _=>false) 300 [.code (aF fn),.top fn] (start fn (a.map fun z=>.one (.sint .i64 z)))).bind outcome).bind (oC k)=some (out,q)/\((∀z∈a,z.natAbs<1000000000000000000)->Holds q))
  (S:∀a out,F a=some out->(∀z∈a,z.natAbs<1000000000000000000)->∀z∈out,Bits 1 z):bQ Z P (Bo k F):=by
 refine⟨d.en,fun ts r p b T w u n=>?_⟩;unfold Bo at b;obtain⟨g,J,L⟩:=aU b;obtain⟨out,C,M⟩:=cA L;cases M;obtain⟨H,I⟩:=aNn ts g u J T n;obtain⟨q,q1,q2⟩:=h _ out C;obtain⟨o,o1,o2⟩:=aU q1;obtain⟨tr,t1,t2⟩:=aU o1
 have j:∀z∈g.map (·.1),z.natAbs<1000000000000000000:=by
  intro z hz;obtain⟨x,X,rfl⟩:=List.mem_map.1 hz;exact I x X
 have R:At (eA 0 (Rl g)).2 0 (eA 0 (Rl g)).2:=fun i y Y=>by rw[Nat.zero_add];exact Y
 refine mC (w0:=w) (ψ:=fun _=>none) (φ:=fun _=>none) (s:=start fn (Rl g)) (vs:=(eA 0 (Rl g)).1) (dH D) dT (rD mixed (dH D)) d.at' d.body rfl (Hd _ 0 u R H) (Nh fn _ w) 300 t1 _ (fun _ _=>False) (fun _ _ h=>h.elim)
  (yD (G:=fun r=>∃ts,r=.val (.agg ts)/\(dL k ts).map (·.1)=some out) t2 (aNX o2 (q2 j) fun ts b=>⟨ts,rfl,b⟩)) ?_
 rintro r0 s φ v w'⟨hc,r',N,tk,rfl,O⟩ U W;obtain⟨⟨a,m⟩,E,B⟩:=cA O;simp only at B;subst B;obtain⟨A,e,r1⟩:=Ce N U;obtain⟨k1,_⟩:=Fg tk a m A E r1;exact⟨v,rfl,⟨A,e,Ta a A k1 (S _ a C j)⟩,RepF.below W hc⟩
theorem iQ (h:v.natAbs<1000000000000000000):Bits 1 v:=Kr (n:=60) (Nat.lt_of_lt_of_le h (by decide)) (by decide)
def bH (k:Bool):Nat->Nat->List AC
 |_,0=>[]
 |i,n+1=>.sg i::.dg k i::bH k (i+1) n
def Di (n:Nat):List AC:=List.replicate n .any
def ext (cs:List AC)(ty:TypeId):bO:=⟨cs,ty,false,true,false⟩
def Seg (C:fF)(φ:Nat->Option (Nat×Nat))(ν:List (Int×Nat))(w:World)(k o:Nat)(ty:TypeId)(cs:List AC):Prop:=∃b d a:List Value,w.heap[k]?=some (.cells (b++d++a).toArray ty (0,0))/\b.length=o/\All2 (relC C φ ν w) cs d
variable {φ:Nat->Option (Nat×Nat)}
theorem rI {T:fF}{s:AS}(H:s.dirty=[])(f:∀b B,look s.boxes b=some B->B.own=false/\B.ro=true/\B.tip=false/\∃k o,φ b=some (k,o)/\Seg T φ s.nums n k o B.ty B.cs)(y:∀b,s.next<=b->φ b=none)(v:∀b k o,φ b=some (k,o)->k<n.heap.size):RepW T n φ φ s n:=by
 refine⟨fun b B h=>?_,fun b B k o h z=>?_,fun b u B r k o I g d l p=>?_,fun b B h A=>?_,y,v,fun k _ _=>rfl,On.refl _ _,fun b x e=>e,fun b B k o g d=>(by rw[(f b B g).1]at d;cases d)⟩
 ·obtain⟨_,_,_,k,o,g,j,F,i,d,l,p⟩:=f b B h;exact⟨k,o,j,F,i,g,d,l,p⟩
 ·have:=(f b B h).1;rw[z]at this;cases this
 ·obtain⟨_,D,q,_⟩:=f b B g;obtain⟨_,E,J,_⟩:=f u r d;exact Or.inr ⟨D,E,fun⟨a,_⟩=>(by rw[q]at a;cases a),fun a=>(by rw[q]at a;cases a)⟩
 ·have:=(f b B h).2.2.1;rw[A]at this;cases this
theorem rY {sp:Spec}{a:FuncId->Option Func}{P:FuncId}{fn:Func}(F:Fn P fn){s:AS}{vs:List AV}{args:List Value}(b:SpecOk Z n φ sp)(e:bV Z a)(l:s.tmps=vs.map .val++List.replicate (fn.ntmps-vs.length) .gC)(hv:All2 (dM Z φ s.nums n) vs args)(p:RepW Z n φ φ s n)
   {X:Tr} (o:run Z sp a (aO Z sp) (fun _=>false) w [.code (aF fn),.top fn] s=some X) (G:AT->AS->Prop) (g:X.ok G fun _ _=>False) {R:Ending->World->Prop} (k:∀r i d v j,G r i->relT Z d i.nums j r v->RepW Z n φ d i j->R (.returned v) j):Calls prog P args.toArray n R:=
 mC (C:=Z) b e (rD mixed b) F.at' F.body l hv p w o G (fun _ _=>False) (fun _ _ h=>h.elim) g k
theorem tU {k:Bool}{φ:Nat->Option (Nat×Nat)}{w:World}{n:Nat}:∀(a:List Int) (d:List Value) (i:Nat) (ν:List (Int×Nat)),bD k w a d->(∀z∈a,Bits n z)->(∀(j:Nat) (z:Int),a[j]?=some z->ν[i+j]?=some (z,n))->All2 (relC Z φ ν w) (bH k i a.length) d
 | [],[],_,_,_,_,_=>trivial
 |z::a,x::y::d,i,ν,⟨o,p,q⟩,l,b=>by
  have g:=b 0 z rfl;refine⟨⟨z,n,g,o⟩,⟨z,n,g,p,l z (by simp)⟩,tU a d (i+1) ν q (fun f e=>l f (by simp[e])) fun j f e=>?_⟩;rw[show i+1+j=i+(j+1) by omega];exact b (j+1) f (by simpa using e)
 | [],_::_,_,_,h,_,_=>h.elim
 |_::_,[],_,_,h,_,_=>h.elim
 |_::_,[_],_,_,h,_,_=>h.elim
def fJ (a b:Spec):Spec:=fun f d ν id e g=>match a f d ν id e g with|some x=>some x|none=>b f d ν id e g
theorem Oa {T:fF}{q:Nat->Option (Nat×Nat)}{a b:Spec}(l:SpecOk T n q a)(o:SpecOk T n q b):SpecOk T n q (fJ a b):=by
 intro f d ν id j k i r p g h;unfold fJ at h
 cases e:a f d ν id j k with
 |some x=>rw[e]at h;cases h;exact l f d ν id j k i r p g e
 |none=>rw[e]at h;exact o f d ν id j k i r p g h
theorem Mp {k:Bool}{n:World}:∀(b:List Int) (a:List Value),bD k n b a->a.length=2*b.length
 | [],[],_=>rfl
 |_::b,_::_::a,⟨_,_,h⟩=>by
  have:=Mp b a h;simp only[List.length_cons];omega
 | [],_::_,h=>h.elim
 |_::_,[],h=>h.elim
 |_::_,[_],h=>h.elim
def Eo (t:Bool):List Int->List Int->Option (List Int)
 | [],[]=>some []
 |a::x,b::y=>(Eo t x y).map ((bif t then a else b)::·)
 |_,_=>none
theorem aOV {t:Bool}:∀{x y z:List Int},Eo t x y=some z->z=bif t then x else y
 | [],[],z,h=>by cases h;cases t<;>rfl
 |a::x,b::y,z,h=>by
  simp only[Eo]at h;obtain⟨r,d,rfl⟩:=cA h;have:=aOV d
  cases t<;>simp_all
 | [],_::_,_,h=>by cases h
 |_::_,[],_,h=>by cases h
inductive G where
 |ns (zs:List Int)
 |i (k:IntKind) (n:Int)
 |b (t:Bool)
inductive RG where
 |one (g:G)
 |tup (gs:List G)
def gT (k:Bool):VT->Option (G×Nat)
 |.agg ts=>(dL k ts).map fun(d,n)=>(.ns d,n)
 |.one (.int a n)=>some (.i a n,0)
 |.one (.sint a n)=>some (.i a n,0)
 |.one (.bool t)=>some (.b t,0)
 |.one (.sbool t)=>some (.b t,0)
 |_=>none
def oQ (k:Bool)(a:Nat):G->VT
 |.ns e=>.agg (e.map fun z=>.num k z a)
 |.i d n=>.one (.sint d n)
 |.b t=>.one (.sbool t)
def dY (k:Bool):List G->List Nat->List VT
 |g::r,n::ns=>oQ k n g::dY k r ns
 |_,_=>[]
def wG (k:Bool)(n:Nat):RG->RV
 |.one g=>.val (oQ k n g)
 |.tup a=>.tup (a.map (oQ k n))
def GB (n:Nat):G->Prop
 |.ns a=>∀z∈a,Bits n z
 |_=>True
def pL:List G->List Nat->Prop
 | [],[]=>True
 |g::r,n::ns=>GB n g/\pL r ns
 |_,_=>False
def RGB (n:Nat):RG->Prop
 |.one g=>GB n g
 |.tup a=>∀g∈a,GB n g
theorem GB.mono {n m:Nat}{g:G}(h:GB n g)(a:n<=m):GB m g:=by
 cases g with
 |ns d=>exact fun z b=>eG (h z b) a
 |_=>trivial
theorem Lg {t:VT}{g:G}(h:gT k t=some (g,w))(r:lG Z n t z):GB w g/\∀m,GB m g->lG Z n (oQ k m g) z:=by
 unfold gT at h;split at h
 ·rename_i ts;obtain⟨⟨b,m⟩,d,f⟩:=cA h;cases f;obtain⟨a,e,r⟩:=r;obtain⟨k1,j⟩:=Fg ts b w a d r;exact⟨j,fun m i=>⟨a,e,Ta b a k1 i⟩⟩
 ·cases h;exact⟨trivial,fun _ _=>⟨rfl,r.2⟩⟩
 ·cases h;exact⟨trivial,fun _ _=>⟨rfl,r.2⟩⟩
 ·cases h;exact⟨trivial,fun _ _=>⟨rfl,r.2⟩⟩
 ·cases h;exact⟨trivial,fun _ _=>⟨rfl,r.2⟩⟩
 ·cases h
theorem Mv {k:Bool}{w:World}:∀(ts:List VT) (d:List (G×Nat)) (a:List Nat) (b:List Value),eW (gT k) ts=some d->mO (d.map (·.2)) a=true->All2 (lG Z w) ts b->All2 (lG Z w) (dY k (d.map (·.1)) a) b/\pL (d.map (·.1)) (d.map (·.2))/\pL (d.map (·.1)) a
 | [],d,a,b,h,e,r=>by
  simp[eW]at h;subst h
  cases b with
  |cons=>exact r.elim
  |nil=>
   cases a with
   |nil=>exact⟨trivial,trivial,trivial⟩
   |cons=>cases e
 |t::ts,d,a,b,h,e,r=>by
  unfold eW at h;obtain⟨x,o,p⟩:=aU h;obtain⟨f,q,rfl⟩:=cA p
  match a,b,e,r with
  |n::ns,v::b,e,⟨u,y⟩=>
   simp only[List.map_cons,mO,Bool.and_eq_true]at e;obtain⟨i,j,l⟩:=Mv ts f ns b q e.2 y;obtain⟨k1,s⟩:=Lg o u;have g:=k1.mono (Nat.le_of_ble_eq_true e.1);exact⟨⟨s n g,i⟩,⟨k1,j⟩,⟨g,l⟩⟩
def Wh (t:Bool):G->G->Option G
 |.ns x,.ns y=>(Eo t x y).map .ns
 |.i k n,.i a m=>if k=a then some (.i k (bif t then n else m))else none
 |.b x,.b y=>some (.b (bif t then x else y))
 |_,_=>none
def Dw (t:Bool):List G->List G->Option (List G)
 | [],[]=>some []
 |a::x,b::y=>(Wh t a b).bind fun c=>(Dw t x y).map (c::·)
 |_,_=>none
def Dv (t:Bool):RG->RG->Option RG
 |.one a,.one b=>(Wh t a b).map .one
 |.tup a,.tup b=>(Dw t a b).map .tup
 |_,_=>none
theorem aQ1 {t:Bool}{a b c:G}(h:Wh t a b=some c):c=bif t then a else b:=by
 unfold Wh at h;split at h
 ·obtain⟨z,d,rfl⟩:=cA h;have:=aOV d;subst this
  cases t<;>rfl
 ·split at h
  ·rename_i e;subst e;cases h;cases t<;>rfl
  ·cases h
 ·cases h;cases t<;>rfl
 ·cases h
theorem aNC {t:Bool}:∀{a b c:List G},Dw t a b=some c->c=bif t then a else b
 | [],[],c,h=>by cases h;cases t<;>rfl
 |a::x,b::y,c,h=>by
  simp only[Dw]at h;obtain⟨z,d,e⟩:=aU h;obtain⟨r,f,rfl⟩:=cA e;have g:=aQ1 d;have i:=aNC f
  cases t<;>simp_all
 | [],_::_,_,h=>by cases h
 |_::_,[],_,h=>by cases h
theorem aNB {t:Bool}{a b c:RG}(h:Dv t a b=some c):c=bif t then a else b:=by
 unfold Dv at h;split at h
 ·obtain⟨z,d,rfl⟩:=cA h;have:=aQ1 d;subst this
  cases t<;>rfl
 ·obtain⟨z,d,rfl⟩:=cA h;have:=aNC d;subst this
  cases t<;>rfl
 ·cases h
def pI (k:Bool):Out->Option (List Prop×RG)
 |.ret (.val v)=>(gT k v).map fun g=>([],.one g.1)
 |.ret (.tup e)=>(eW (gT k) e).map fun d=>([],.tup (d.map (·.1)))
 |.br t x y=>(pI k x).bind fun a=>(pI k y).bind fun b=>(Dv t a.2 b.2).map fun c=>(a.1.map (fun p=>t=true->p)++b.1.map (fun p=>t=false->p),c)
 |.need p o=>(pI k o).map fun a=>(p++a.1,a.2)
theorem Zi {k:Bool}{w:Nat}{n:World}:∀{b:List VT} {a:List (G×Nat)} {d:List Value},eW (gT k) b=some a->(∀g∈a.map (·.1),GB w g)->All2 (lG Z n) b d->All2 (lG Z n) ((a.map (·.1)).map (oQ k w)) d
 | [],a,[],h,_,_=>by simp[eW]at h;subst h;trivial
 |v::b,a,x::d,h,e,⟨o,p⟩=>by
  unfold eW at h;obtain⟨y,i,j⟩:=aU h;obtain⟨q,l,rfl⟩:=cA j;exact⟨(Lg i o).2 w (e _ (by simp)),Zi l (fun g f=>e g (by simp at f ⊢;exact Or.inr f)) p⟩
 | [],_,_::_,_,_,h=>h.elim
 |_::_,_,[],_,_,h=>h.elim
theorem Ob {k:Bool}{n:Nat}:∀{o:Out} {l:List Prop} {out:RG},pI k o=some (l,out)->Holds l->RGB n out->o.ok fun C=>∀w v,RRV Z w C v->RRV Z w (wG k n out) v
 |.ret (.val t),l,out,h,_,d=>by
  simp only[pI]at h;obtain⟨⟨g,m⟩,f,i⟩:=cA h;cases i;intro w v hv;exact(Lg f hv).2 n d
 |.ret (.tup vs),l,out,h,_,d=>by
  simp only[pI]at h;obtain⟨E,f,i⟩:=cA h;cases i;rintro w v⟨D,e,hv⟩;exact⟨D,e,Zi f d hv⟩
 |.br t x y,l,out,h,r,d=>by
  simp only[pI]at h;obtain⟨⟨p1,a⟩,f,i⟩:=aU h;obtain⟨⟨F,b⟩,u,z⟩:=aU i;obtain⟨c,A,B⟩:=cA z;cases B;have s:=aNB A;refine⟨fun e=>?_,fun e=>?_⟩
  ·subst e;subst s;exact Ob f (fun q j=>r (true=true->q) (List.mem_append_left _ (List.mem_map.2 ⟨q,j,rfl⟩)) rfl) d
  ·subst e;subst s;exact Ob u (fun q j=>r (false=false->q) (List.mem_append_right _ (List.mem_map.2 ⟨q,j,rfl⟩)) rfl) d
 |.need p o,l,out,h,r,d=>by
  simp only[pI]at h;obtain⟨⟨p1,a⟩,f,i⟩:=cA h;cases i;exact⟨fun q j=>r q (by simp[j]),Ob f (fun q j=>r q (by simp[j])) d⟩
def gZ (k:Bool)(F:List G->Option RG)(nd:List G->List Prop)(d:List Nat->Nat)(b:List Nat):TE:=fun ts=>
 (eW (gT k) ts).bind fun a=>bif mO (a.map (·.2)) b then(F (a.map (·.1))).map fun out=>(wG k (d (a.map (·.2))) out,nd (a.map (·.1)))else none
variable {F:List G->Option RG}{nd:List G->List Prop}{d:List Nat}
theorem Dg (o:Enters Z.P f){u:List Nat->Nat}(b:∀a ns out,F a=some out->Holds (nd a)->pL a ns->pL a d->RGB (u ns) out)
  (h:∀a out,F a=some out->Holds (nd a)->pL a d->∀w (l:List Value),All2 (lG Z w) (dY k a d) l->Calls Z.P f l.toArray w fun e s=>∃v,e=.returned v/\(∀n,RGB n out->RRV Z s (wG k n out) v)/\Below w.heap.size w s):bQ Z f (gZ k F nd u d):=by
 refine⟨o,fun ts r p j z w l q=>?_⟩;unfold gZ at j;obtain⟨A,D,i⟩:=aU j
 cases g:mO (A.map (·.2)) d with
 |false=>rw[g]at i;cases i
 |true=>
  rw[g]at i;simp only[cond_true]at i;obtain⟨out,y,E⟩:=cA i;cases E;obtain⟨B,C,x⟩:=Mv ts A d l D g q;refine(h _ out y z x w l B).mono ?_;rintro e s⟨v,rfl,hv,H⟩;exact⟨v,rfl,hv _ (b _ _ out y z C x),H⟩
theorem wM (U:cX Z l){j:FuncId->Option Func}(H:bV Z j){fn:Func}(A:Fn f fn){S:List Nat->Nat}(B:∀a ns out,F a=some out->Holds (nd a)->pL a ns->pL a d->RGB (S ns) out)
  (h:∀a out,F a=some out->∃O,((run Z (aE l) j (aO Z (aE l)) (fun _=>false) 2000 [.code (aF fn),.top fn] (start fn (dY k a d))).bind outcome).bind (pI k)=some (O,out)/\(Holds (nd a)->pL a d->Holds O)):bQ Z f (gZ k F nd S d):=by
 refine Dg A.en B fun a out hF L I w R M=>?_
 obtain⟨O,W,X⟩:=h a out hF;obtain⟨o,Y,h4⟩:=aU W;obtain⟨tr,h5,h6⟩:=aU Y
 have hA:At (eA 0 (dY k a d)).2 0 (eA 0 (dY k a d)).2:=fun i y hy=>by rw[Nat.zero_add];exact hy
 have N:∀n,RGB n out->Calls Z.P f R.toArray w fun e E=>∃v,e=.returned v/\RRV Z E (wG k n out) v/\Below w.heap.size w E:=by
  intro n C;refine mC (w0:=w) (ψ:=fun _=>none) (φ:=fun _=>none) (s:=start fn (dY k a d)) (vs:=(eA 0 (dY k a d)).1) (dH U) H (rD mixed (dH U)) A.at' A.body rfl (Hd _ 0 R hA M) (Nh fn _ w) 2000 h5 _ (fun _ _=>False) (fun _ _ h=>h.elim) (yD h6 (Ob (n:=n) h4 (X L I) C)) ?_;rintro r0 s φ v E⟨hc,r',h7,h8⟩ hr hw;exact⟨v,rfl,h8 E v (Ce h7 hr),RepF.below hw hc⟩
 -- one bound that will do,then all
 obtain⟨n0,J⟩:=someB out;refine(N n0 J).mono ?_;rintro e E⟨v,rfl,hv,hb⟩;exact⟨v,rfl,fun n C=>anyB hv C,hb⟩
where
 someB (out:RG):∃n,RGB n out:=by
  have one:∀p:List Int,∃n,∀z∈p,Bits n z:=by
   intro p
   induction p with
   |nil=>exact⟨0,fun z hz=>by cases hz⟩
   |cons z p D=>
    obtain⟨n,C⟩:=D;refine⟨max (Nat.log2 z.natAbs+1) n,fun y hy=>?_⟩;simp at hy
    rcases hy with rfl|hy
    ·exact eG (Yu _) (Nat.le_max_left _ _)
    ·exact eG (C y hy) (Nat.le_max_right _ _)
  have T:∀g:G,∃n,GB n g:=by
   intro g
   cases g with
   |ns p=>exact one p
   |_=>exact⟨0,trivial⟩
  cases out with
  |one g=>exact T g
  |tup a=>
   induction a with
   |nil=>exact⟨0,fun g hg=>by cases hg⟩
   |cons g a D=>
    obtain⟨n,C⟩:=D;obtain⟨m,u⟩:=T g;refine⟨max m n,fun y hy=>?_⟩;simp at hy
    rcases hy with rfl|hy
    ·exact u.mono (Nat.le_max_left _ _)
    ·exact(C y hy).mono (Nat.le_max_right _ _)
 oneB {k:Bool} {w:World} {g:G} {n m:Nat} {v:Value} (h:lG Z w (oQ k n g) v) (u:GB m g):lG Z w (oQ k m g) v:=by
  cases g with
  |ns p=>
   obtain⟨q,e,r⟩:=h
   have:dL k (p.map fun z=>.num k z n)=some (p,(dL k (p.map fun z=>.num k z n)).elim 0 (·.2)):=by
    clear r u
    induction p with
    |nil=>rfl
    |cons z p D=>
     simp only[List.map_cons,dL,beq_self_eq_true,cond_true];rw[D];rfl
   exact⟨q,e,Ta p q (Fg _ _ _ q this r).1 u⟩
  |i kd n=>exact h
  |b t=>exact h
 anyB {k:Bool} {w:World} {out:RG} {n m:Nat} {v:Value} (h:RRV Z w (wG k n out) v) (u:RGB m out):RRV Z w (wG k m out) v:=by
  cases out with
  |one g=>exact oneB h u
  |tup a=>
   obtain⟨q,e,r⟩:=h;refine⟨q,e,?_⟩;clear e
   induction a generalizing q with
   |nil=>exact r
   |cons g a D=>
    match q,r with
    |x::q,⟨r1,r2⟩=>exact⟨oneB r1 (u g (by simp)),D (fun y hy=>u y (by simp[hy])) q r2⟩
end Ab
end Go.Proofs.YtkmojpfpfoaloaaGreatDoor
