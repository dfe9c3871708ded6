import Derived.Test.YthhffdeihoofiaaGreatDoorCFu01
import Derived.Test.YthhffdeihoofiaaGreatDoorProg
import Derived.WalkSmall
import Derived.BigQuiet
import Derived.Lib.OthersKept
import Derived.Deep.LoopGhost
import Derived.Deep.OwnRows
import Derived.Deep.RegionWith
import Derived.Deep.RegionHeld3
set_option linter.all false
set_option maxRecDepth 100000
set_option maxHeartbeats 2000000
namespace Go.Proofs.YthhffdeihoofiaaGreatDoor
open Nat (lt_of_lt_of_le lt_or_ge min_eq_left le_max_left le_max_right zero_add)
open List (length_cons length_take getD_eq_getElem?_getD getElem?_eq_getElem take_of_length_le length_append map_cons)
open Int (le_of_lt emod_eq_of_lt)
open Go.Proofs.Tryz
open Go.RowKit
structure bE (rb:Nat) (w w':World):Prop where
 os:w'.os=w.os
 tape:w'.tape=w.tape
 output:w'.output=w.output
 size:w.heap.size<=w'.heap.size
 block:∀k,k<w.heap.size->k≠rb->w'.heap[k]?=w.heap[k]?
theorem bE.refl (rb:Nat)(w:World):bE rb w w:=⟨rfl,rfl,rfl,Nat.le_refl _,fun _ _ _=>rfl⟩
theorem bE.trans {rb:Nat}{a b c:World}(h:bE rb a b)(k:bE rb b c):bE rb a c:=
 ⟨k.os.trans h.os,k.tape.trans h.tape,k.output.trans h.output,Nat.le_trans h.size k.size,fun i hi d=>(k.block i (lt_of_lt_of_le hi h.size) d).trans (h.block i hi d)⟩
variable {rb:Nat}{w b:World}
theorem bE.eF (h:Below w.heap.size w b):bE rb w b:=⟨h.os,h.tape,h.output,h.size,fun k a _=>h.block k a⟩
theorem bE.drewN {rb:Nat}{a w:World}(h:bE rb a w)(n:Nat):bE rb a (w.drewN n):=⟨h.os,h.tape,h.output,h.size,h.block⟩
theorem bE.alloc {rb:Nat}{a w:World}(h:bE rb a w)(o:Obj):bE rb a (w.alloc o):=
 h.trans (bE.eF ((Below.refl _ _).alloc (Nat.le_refl _) o))
theorem bE.setCell {rb:Nat}{a w:World}(h:bE rb a w)(o:Nat)(u:Value):bE rb a (w.setCell ⟨rb,o,none⟩ u):=
 h.trans ⟨rfl,rfl,rfl,by simp[World.setCell],fun k _ d=>Below.heap_setCell _ _ _ _ d⟩
structure Rdr (w:World) (rb g cap:Nat) (ws:List Rd.Wd) (st:Rd.St):Prop where
 rd:w.heap[rb]?=some (.cells #[.slice (some ⟨g,0,none⟩) ws.length cap,.int .i64 st.next,.int .i64 st.around,.int .i64 st.deepest,.int .i64 st.nodes] 125 (0,0))
 row:∃cur,w.heap[g]?=some (.cells cur 121 (0,0))/\cur.toList.take (ws.length*3)=Rd.eC ws
 ne:g≠rb
variable {k:Nat}
theorem fQ {o:Obj}(h:w.heap[k]?=some o):k<w.heap.size:=by
 rcases lt_or_ge k w.heap.size with h1|h1
 ·exact h1
 ·rw[Array.getElem?_eq_none h1]at h;cases h
variable {g cap:Nat}{ws:List Rd.Wd}{st:Rd.St}
theorem Rdr.lt (h:Rdr w rb g cap ws st):rb<w.heap.size:=fQ h.rd
theorem Rdr.aS {a:Rd.St}(h:Rdr w rb g cap ws st)(i:bE rb w b)
  (j:b.heap[rb]?=some (.cells #[.slice (some ⟨g,0,none⟩) ws.length cap,.int .i64 a.next,.int .i64 a.around,.int .i64 a.deepest,.int .i64 a.nodes] 125 (0,0))):Rdr b rb g cap ws a:=by
 obtain⟨d,e,f⟩:=h.row;exact⟨j,⟨d,by rw[i.block g (fQ e) h.ne];exact e,f⟩,h.ne⟩
theorem Rdr.below (h:Rdr w rb g cap ws st)(a:Below w.heap.size w b):Rdr b rb g cap ws st:=
 h.aS (bE.eF a) (by rw[a.block rb h.lt];exact h.rd)
variable {b o:Nat}{xs:Array Value}
theorem bH {t:TypeId}{v:Value}(h:w.heap[b]?=some (.cells xs t (0,0)))(hv:xs[o]?=some v):w.cell? ⟨b,o,none⟩=some v:=by
 simp[World.cell?,h,hv]
theorem kN {t:TypeId}(h:w.heap[b]?=some (.cells xs t (0,0))):w.frozen? ⟨b,o,none⟩=false:=by
 simp[World.frozen?,h]
section
variable {w:World} {b:Nat} {xs:Array Value} {t:TypeId} {u v x y:Value}
theorem kP (h:w.heap[b]?=some (.cells xs t (0,0)))(a:xs[0]?=some u)(d:xs[1]?=some v):w.cell? ⟨b,0,none⟩=some u/\w.cell? ⟨b,1,none⟩=some v:=⟨bH h a,bH h d⟩
theorem qT (h:w.heap[b]?=some (.cells xs t (0,0)))(a:xs[0]?=some u)(d:xs[1]?=some v)(e:xs[2]?=some x):w.cell? ⟨b,0,none⟩=some u/\w.cell? ⟨b,1,none⟩=some v/\w.cell? ⟨b,2,none⟩=some x:=⟨bH h a,bH h d,bH h e⟩
theorem cl4 (h:w.heap[b]?=some (.cells xs t (0,0)))(a:xs[0]?=some u)(d:xs[1]?=some v)(e:xs[2]?=some x)(f:xs[3]?=some y):w.cell? ⟨b,0,none⟩=some u/\w.cell? ⟨b,1,none⟩=some v/\w.cell? ⟨b,2,none⟩=some x/\w.cell? ⟨b,3,none⟩=some y:=⟨bH h a,bH h d,bH h e,bH h f⟩
theorem Ei (h:w.heap[b]?=some (.cells xs t (0,0))):w.frozen? ⟨b,0,none⟩=false/\w.frozen? ⟨b,1,none⟩=false:=⟨kN h,kN h⟩
theorem cf2 (h:w.heap[b]?=some (.cells xs t (0,0)))(a:xs[0]?=some u)(d:xs[1]?=some v):w.cell? ⟨b,0,none⟩=some u/\w.cell? ⟨b,1,none⟩=some v/\w.frozen? ⟨b,0,none⟩=false/\w.frozen? ⟨b,1,none⟩=false:=⟨bH h a,bH h d,kN h,kN h⟩
theorem Ea (h:w.heap[b]?=some (.cells xs t (0,0)))(a:xs[0]?=some u)(d:xs[1]?=some v)(e:xs[2]?=some x):w.cell? ⟨b,0,none⟩=some u/\w.cell? ⟨b,1,none⟩=some v/\w.cell? ⟨b,2,none⟩=some x/\w.frozen? ⟨b,0,none⟩=false/\w.frozen? ⟨b,1,none⟩=false/\w.frozen? ⟨b,2,none⟩=false:=⟨bH h a,bH h d,bH h e,kN h,kN h,kN h⟩
end
theorem sH {t:TypeId}{m:Nat×Nat}(h:w.heap[b]?=some (.cells xs t m))(u:Value):(w.setCell ⟨b,o,none⟩ u).heap[b]?=some (.cells (xs.setIfInBounds o u) t m):=by
 simp[World.setCell,Array.getElem?_modify,h]
section
variable {w:World} {rb g cap:Nat} {ws:List Rd.Wd} {st:Rd.St}
theorem Rdr.c0 (h:Rdr w rb g cap ws st):w.cell? ⟨rb,0,none⟩=some (.slice (some ⟨g,0,none⟩) ws.length cap):=bH h.rd rfl
theorem Rdr.c1 (h:Rdr w rb g cap ws st):w.cell? ⟨rb,1,none⟩=some (.int .i64 st.next):=bH h.rd rfl
theorem Rdr.c2 (h:Rdr w rb g cap ws st):w.cell? ⟨rb,2,none⟩=some (.int .i64 st.around):=bH h.rd rfl
theorem Rdr.c3 (h:Rdr w rb g cap ws st):w.cell? ⟨rb,3,none⟩=some (.int .i64 st.deepest):=bH h.rd rfl
theorem Rdr.c4 (h:Rdr w rb g cap ws st):w.cell? ⟨rb,4,none⟩=some (.int .i64 st.nodes):=bH h.rd rfl
theorem Rdr.fz (h:Rdr w rb g cap ws st)(o:Nat):w.frozen? ⟨rb,o,none⟩=false:=kN h.rd
theorem Rdr.alloc (h:Rdr w rb g cap ws st)(o:Obj):Rdr (w.alloc o) rb g cap ws st:=h.below ((Below.refl _ _).alloc (Nat.le_refl _) o)
theorem Rdr.drewN (h:Rdr w rb g cap ws st)(n:Nat):Rdr (w.drewN n) rb g cap ws st:=⟨h.rd,h.row,h.ne⟩
theorem Rdr.yL (h:Rdr w rb g cap ws st)(n:Nat){m:Int}(a:m=(n:Int)):Rdr (w.setCell ⟨rb,1,none⟩ (.int .i64 m)) rb g cap ws {st with next:=n}:=
 h.aS ((bE.refl _ _).setCell 1 _) (by subst a;rw[sH h.rd];rfl)
theorem Rdr.Fa (h:Rdr w rb g cap ws st)(n:Nat){m:Int}(a:m=(n:Int)):Rdr (w.setCell ⟨rb,2,none⟩ (.int .i64 m)) rb g cap ws {st with around:=n}:=
 h.aS ((bE.refl _ _).setCell 2 _) (by subst a;rw[sH h.rd];rfl)
theorem Rdr.tQ (h:Rdr w rb g cap ws st)(n:Nat){m:Int}(a:m=(n:Int)):Rdr (w.setCell ⟨rb,3,none⟩ (.int .i64 m)) rb g cap ws {st with deepest:=n}:=
 h.aS ((bE.refl _ _).setCell 3 _) (by subst a;rw[sH h.rd];rfl)
theorem Rdr.Fb (h:Rdr w rb g cap ws st)(n:Nat){m:Int}(a:m=(n:Int)):Rdr (w.setCell ⟨rb,4,none⟩ (.int .i64 m)) rb g cap ws {st with nodes:=n}:=
 h.aS ((bE.refl _ _).setCell 4 _) (by subst a;rw[sH h.rd];rfl)
end
namespace Nm
def val (B:Int):List Int->Int
 | []=>0
 |d::r=>d+B*val B r
def dE (B:Int)(l:LN):Prop:=∀d∈l,0<=d/\d<B
def Top (l:LN):Prop:=∀(h:l≠[]),l.getLast h≠0
def at' (l:LN)(i:Nat):Int:=l.getD i 0
theorem Ue (B:Int):∀l r,val B (l++r)=val B l+B^l.length*val B r:=by
 intro l r
 induction l with
 |nil=>simp[val]
 |cons d l a=>simp only[List.cons_append,val,length_cons,a,Int.pow_succ];grind
theorem Ds (B:Int)(l:LN)(d:Int):val B (l++[d])=val B l+d*B^l.length:=by
 rw[Ue];simp only[val];grind
theorem yY (B:Int)(l:LN)(i:Nat):val B (l.take (i+1))=val B (l.take i)+at' l i*B^i:=by
 rcases lt_or_ge i l.length with h|h
 ·rw[List.take_succ_eq_append_getElem h,Ds,length_take,min_eq_left (by omega)];unfold at';rw[getD_eq_getElem?_getD,getElem?_eq_getElem h];rfl
 ·rw[take_of_length_le (by omega),take_of_length_le h];unfold at';rw[getD_eq_getElem?_getD,List.getElem?_eq_none h];simp
variable {i:Nat}
theorem Fl (B:Int)(l:LN)(h:l.length<=i):val B (l.take i)=val B l:=by
 rw[take_of_length_le h]
theorem aO6 (B:Int):∀(l:LN) (k:Nat) (x:Int),k<l.length->val B (l.set k x)=val B l+(x-at' l k)*B^k:=by
 intro l
 induction l with
 |nil=>intro k x h;simp at h
 |cons d l a=>
  intro k x h
  cases k with
  |zero=>simp[val,at'];grind
  |succ k=>
   have:=a k x (by simpa using h);simp only[List.set_cons_succ,val,this,Int.pow_succ,at',List.getD_cons_succ];grind
theorem dE.nil (B:Int):dE B []:=fun d h=>by cases h
variable {v d:Int}{s:LN}
theorem dE.cons (a:0<=d)(b:d<v)(h:dE v s):dE v (d::s):=by grind [dE]
theorem dE.snoc (h:dE v s)(a:0<=d)(b:d<v):dE v (s++[d]):=by grind [dE]
theorem dE.take {v:Int}{s:LN}(h:dE v s)(n:Nat):dE v (s.take n):=fun d a=>h d (List.mem_of_mem_take a)
theorem dE.set {v:Int}{s:LN}(h:dE v s)(k:Nat){x:Int}(a:0<=x)(b:x<v):dE v (s.set k x):=by grind [dE]
theorem dE.at' {B:Int}{s:LN}(a:0<B)(h:dE B s)(i:Nat):0<=at' s i/\at' s i<B:=by
 unfold Nm.at';rw[getD_eq_getElem?_getD]
 cases b:s[i]? with
 |none=>exact⟨Int.le_refl _,a⟩
 |some x=>exact h x (List.mem_of_getElem? b)
theorem dE.mB (a:0<v)(n:Nat):dE v (List.replicate n 0):=by grind [dE]
theorem Zu (B:Int)(n:Nat):val B (List.replicate n 0)=0:=by
 induction n with
 |zero=>rfl
 |succ n a=>rw[List.replicate_succ,val,a];simp
variable {B:Int}
theorem jZ (a:0<B)(n:Nat):0<B^n:=Int.pow_pos a
theorem rS (b:0<B):∀{l},dE B l->0<=val B l:=by
 intro l
 induction l with
 |nil=>intro _;exact Int.le_refl _
 |cons d l f=>
  intro h;have a:=f (fun x e=>h x (List.mem_cons_of_mem _ e));have g:=h d List.mem_cons_self;have:=Int.mul_nonneg (le_of_lt b) a;simp only[val];omega
theorem xU (a:0<B):∀{l},dE B l->val B l<B^l.length:=by
 intro l
 induction l with
 |nil=>intro _;simp[val]
 |cons d l e=>
  intro h;have f:=e (fun x b=>h x (List.mem_cons_of_mem _ b));have g:=h d List.mem_cons_self;have:B*(val B l+1)<=B*B^l.length:=Int.mul_le_mul_of_nonneg_left (by omega) (le_of_lt a);rw[Int.mul_add,Int.mul_one,Int.mul_comm B (B^l.length)]at this;simp only[val,length_cons,Int.pow_succ];omega
def strip (l:LN):LN:=(l.reverse.dropWhile (·==0)).reverse
theorem Nq (l:LN):strip (l++[0])=strip l:=by simp[strip]
theorem Nx (l:LN)(h:d≠0):strip (l++[d])=l++[d]:=by simp[strip,h]
theorem Vj {p:List Int->Prop}(a:p [])(b:∀l d,p l->p (l++[d])):∀l,p l:=by
 intro l;rw[<-List.reverse_reverse l]
 induction l.reverse with
 |nil=>exact a
 |cons d r e=>rw[List.reverse_cons];exact b _ _ e
theorem Cn (B:Int):∀l,val B (strip l)=val B l:=by
 refine Vj rfl ?_;intro l d a
 by_cases h:d=0
 ·subst h;rw[Nq,a,Ds];simp
 ·rw[Nx l h]
theorem xI:∀l,(strip l).length<=l.length:=by
 refine Vj (Nat.le_refl _) ?_;intro l d a
 by_cases h:d=0
 ·subst h;rw[Nq];simp;omega
 ·rw[Nx l h];exact Nat.le_refl _
theorem Zk:∀l,strip l=l.take (strip l).length:=by
 refine Vj rfl ?_;intro l d a
 by_cases h:d=0
 ·subst h;rw[Nq,List.take_append_of_le_length (xI l)];exact a
 ·rw[Nx l h,List.take_length]
theorem dE.strip {v:Int}{s:LN}(h:dE v s):dE v (strip s):=by
 rw[Zk];exact h.take _
theorem aOX:∀l,Top (strip l):=by
 refine Vj ?_ ?_
 ·intro h;exact absurd rfl h
 ·intro l d a
  by_cases h:d=0
  ·subst h;rw[Nq];exact a
  ·rw[Nx l h];intro _;simpa using h
theorem Top.nil:Top []:=fun h=>absurd rfl h
theorem aQM (h:d≠0):Top (s++[d]):=by intro _;simpa using h
structure Good (B:Int) (l:LN):Prop where
 eU:dE B l
 top:Top l
theorem Good.nil (B:Int):Good B []:=⟨dE.nil B,Top.nil⟩
theorem Cq (h:dE v s):Good v (strip s):=⟨h.strip,aOX s⟩
theorem aEx (h:Good v s):s=[]\/∃r d,s=r++[d]/\dE v r/\1<=d/\d<v:=by
 rcases List.eq_nil_or_concat s with a|⟨r,d,a⟩
 ·exact Or.inl a
 ·refine Or.inr ⟨r,d,by rw[a];simp,fun x f=>h.eU x (by rw[a];simp[f]),?_⟩;have g:=h.eU d (by rw[a];simp);have b:=h.top (by rw[a];simp)
  have e:s.getLast (by rw[a];simp)=d:=by simp[a]
  rw[e]at b;omega
theorem Mc (a:0<v)(h:Good v s)(e:s≠[]):v^(s.length-1)<=val v s:=by
 rcases aEx h with rfl|⟨r,d,rfl,f,b,_⟩
 ·exact absurd rfl e
 ·rw[Ds];have g:=rS a f;have i:=Int.mul_le_mul_of_nonneg_right b (le_of_lt (jZ a r.length));simp only[length_append,length_cons,List.length_nil,Nat.add_sub_cancel];omega
theorem Fx (b:0<v)(h:Good v s):val v s=0↔s=[]:=by
 constructor
 ·intro a
  by_cases d:s=[]
  ·exact d
  ·have e:=Mc b h d;have:=jZ b (s.length-1);omega
 ·intro a;rw[a];rfl
theorem uB (b:1<=B){m n:Nat}(h:m<=n):B^m<=B^n:=by
 obtain⟨k,rfl⟩:=Nat.exists_eq_add_of_le h;rw[Int.pow_add]
 have a:1<=B^k:=by have:=jZ (B:=B) (by omega) k;omega
 have:=Int.mul_le_mul_of_nonneg_left a (le_of_lt (jZ (B:=B) (by omega) m));omega
variable {a b:LN}
theorem Uf (e:1<=v)(f:dE v a)(g:Good v b)(h:a.length<b.length):val v a<val v b:=by
 have i:=xU (by omega) f;have j:=Mc (by omega) g (by intro d;rw[d]at h;simp at h);have k:=uB e (show a.length<=b.length-1 by omega);omega
theorem aO4 (q:1<=v)(j:dE v a)(l:dE v b)(i:Nat)(o:a.drop (i+1)=b.drop (i+1))(h:at' a i<at' b i)(k:i<a.length)(n:i<b.length):val v a<val v b:=by
 have d:val v a=val v (a.take (i+1))+v^(i+1)*val v (a.drop (i+1)):=by
  conv=>lhs;rw[<-List.take_append_drop (i+1) a,Ue,length_take,min_eq_left (by omega)]
 have e:val v b=val v (b.take (i+1))+v^(i+1)*val v (b.drop (i+1)):=by
  conv=>lhs;rw[<-List.take_append_drop (i+1) b,Ue,length_take,min_eq_left (by omega)]
 rw[d,e,o,yY,yY];have f:=xU (by omega) (j.take i);have p:=rS (by omega) (l.take i);rw[length_take,min_eq_left (by omega)]at f;have g:(at' a i+1)*v^i<=at' b i*v^i:=Int.mul_le_mul_of_nonneg_right (by omega) (le_of_lt (jZ (by omega) i));rw[Int.add_mul,Int.one_mul]at g;omega
theorem aPM (b:2<=v)(h:Good v s){w:Nat}(hv:val v s<2^w):s.length<=w:=by
 by_cases a:s=[]
 ·subst a;simp
 ·have e:=Mc (by omega) h a
  have f:(2:Int)^(s.length-1)<=v^(s.length-1):=by
   generalize s.length-1=k
   induction k with
   |zero=>simp
   |succ k d=>
    rw[Int.pow_succ,Int.pow_succ];exact Int.mul_le_mul d b (by omega) (le_of_lt (jZ (by omega) k))
  rcases lt_or_ge w s.length with h3|h3
  ·have g:=uB (B:=2) (by omega) (show w<=s.length-1 by omega);omega
  ·exact h3
variable {x:Int}
theorem aOe {c:Int}{out:LN}(f:out.length=i)(h:val v out+c*v^i=val v (a.take i)+val v (b.take i))(g:x=c+at' a i+at' b i):
  val v (out++[x%v])+x/v*v^(i+1)=val v (a.take (i+1))+val v (b.take (i+1)):=by
 rw[Ds,yY,yY,f,Int.pow_succ];have:=Int.emod_add_mul_ediv x v;generalize x%v=d at*;generalize x/v=e at*;grind
variable {r:Int}
theorem aNF {c:Int}{out:LN}(e:out.length=i)(h:val v out+val v (b.take i)=val v (a.take i)+c*v^i)(f:d=at' a i-at' b i-c+r*v):
  val v (out++[d])+val v (b.take (i+1))=val v (a.take (i+1))+r*v^(i+1):=by
 rw[Ds,yY,yY,e,Int.pow_succ];grind
theorem aPT {c:Int}(e:0<v){out:LN}(q:a.length=i)(n:out.length=i)(o:dE v out)(hc:0<=c)(l:val v b<=val v a)(d:b.length<=i)
  (h:val v out+val v (b.take i)=val v (a.take i)+c*v^i):c=0/\val v out=val v a-val v b:=by
 rw[Fl v a (by omega),Fl v b d]at h;have f:=xU e o;rw[n]at f;have k:=jZ e i
 have g:c*v^i<1*v^i:=by omega
 have p:=Int.lt_of_mul_lt_mul_right g (le_of_lt k)
 have j:c=0:=by omega
 subst j;exact⟨rfl,by omega⟩
theorem aKF {c y:Int}{out:LN}(a:i+k<out.length)(h:val v out+c*v^(i+k)=r+y*val v (b.take k)*v^i)(g:x=c+at' out (i+k)+y*at' b k):
  val v (out.set (i+k) (x%v))+x/v*v^(i+(k+1))=r+y*val v (b.take (k+1))*v^i:=by
 rw[aO6 v out (i+k) (x%v) a,yY,<-Nat.add_assoc,Int.pow_succ];have:=Int.emod_add_mul_ediv x v;have f:v^(i+k)=v^i*v^k:=Int.pow_add v i k;generalize x%v=d at*;generalize x/v=e at*;generalize at' out (i+k)=o at*;rw[f]at h ⊢;generalize v^i=P at*;generalize v^k=Q at*;grind
theorem aIq {c a b:Int}(h:1<=v)(c0:0<=c)(c1:c<v)(j:0<=r)(o1:r<v)(a0:0<=a)(a1:a<v)(b0:0<=b)(b1:b<v)(i:x=c+r+a*b):0<=x/\0<=x/v/\x/v<v/\x<v*v:=by
 have e:a*b<=(v-1)*(v-1):=Int.mul_le_mul (by omega) (by omega) b0 (by omega)
 have f:(v-1)*(v-1)=v*v-2*v+1:=by grind
 have g:0<=a*b:=Int.mul_nonneg a0 b0
 have d:x<v*v:=by omega
 exact⟨by omega,Int.ediv_nonneg (by omega) (by omega),Int.ediv_lt_of_lt_mul (by omega) d,d⟩
def cmp (x y:Int):Int:=bif decide (x<y)then -1 else bif decide (x=y)then 0 else 1
variable {z:Int}
theorem iV (h:x<z):cmp x z=-1:=by rw[cmp,decide_eq_true h];rfl
theorem gX (h:z<x):cmp x z=1:=by grind [cmp]
theorem iU (h:x=z):cmp x z=0:=by grind [cmp]
theorem aPU (f:a.length=b.length)(hi:i<a.length)(e:a.drop (i+1)=b.drop (i+1))(h:at' a i=at' b i):a.drop i=b.drop i:=by
 have d:i<b.length:=by omega
 rw[List.drop_eq_getElem_cons hi,List.drop_eq_getElem_cons d,e];congr 1;unfold at' at h;rw[getD_eq_getElem?_getD,getD_eq_getElem?_getD,getElem?_eq_getElem hi,getElem?_eq_getElem d]at h;exact h
theorem Lu (B:Int)(l:LN)(i:Nat)(h:i<l.length):val B (l.drop i)=at' l i+B*val B (l.drop (i+1)):=by
 rw[List.drop_eq_getElem_cons h,val];unfold at';rw[getD_eq_getElem?_getD,getElem?_eq_getElem h];rfl
theorem Ty {a b q:Int}(f:0<b)(h:a=q*b+r)(d:0<=r)(e:r<b):a/b=q/\a%b=r:=by
 subst h;refine⟨?_,?_⟩
 ·rw[Int.add_comm,Int.add_mul_ediv_right _ _ (by omega),Int.ediv_eq_zero_of_lt d e];omega
 ·rw[Int.add_comm,Int.add_mul_emod_self_right,emod_eq_of_lt d e]
theorem aNd {a b q:Int}(d:0<b)(h:a=q*b+r)(f:0<=r)(g:r<b):(-a)/b=if r=0 then -q else -q-1:=by
 by_cases e:r=0
 ·rw[if_pos e];exact(Ty d (q:=-q) (r:=0) (by subst h e;grind) (by omega) d).1
 ·rw[if_neg e];exact(Ty d (q:=-q-1) (r:=b-r) (by subst h;grind) (by omega) (by omega)).1
end Nm
theorem hid {p:Prop}(h:p):Hid p:=h
def iD (B:Nat)(w:World)(a:LN)(v:Value):Prop:=w.ownsRow B 3 1 v a.length (a.map (Value.int .i64))
abbrev Ints (w:World)(a:LN)(v:Value):Prop:=iD 0 w a v
variable {n b:World}{e:Nat}{x:Value}{i:LB}
theorem aIy {w s:Nat}(h:n.ownsRow w e s x o i)(l:Below n.heap.size n b):b.ownsRow w e s x o i:=by
 obtain⟨k,f⟩:=h;refine⟨k,?_⟩
 rcases f with f|⟨g,a,d,hv,p,j,r⟩
 ·exact Or.inl f
 ·exact Or.inr ⟨g,a,d,hv,p,by rw[l.block g (fQ j)];exact j,r⟩
theorem aQb {w s a:Nat}(h:n.ownsRow w e s x a i)(o:k<=w):n.ownsRow k e s x a i:=by
 obtain⟨j,f⟩:=h;refine⟨j,?_⟩
 rcases f with f|⟨g,b,d,hv,p,l,r⟩
 ·exact Or.inl f
 ·exact Or.inr ⟨g,b,d,hv,by omega,l,r⟩
variable {B:Nat}{s:LN}
theorem iD.below {v:Value}(h:iD B w s v)(a:Below w.heap.size w b):iD B b s v:=aIy h a
theorem iD.alloc {B:Nat}{w:World}{xs:LN}{v:Value}(h:iD B w xs v)(o:Obj):iD B (w.alloc o) xs v:=h.below ((Below.refl _ _).alloc (Nat.le_refl _) o)
theorem iD.nil (B:Nat)(w:World):iD B w [] (.slice none 0 0):=⟨rfl,Or.inl ⟨rfl,rfl⟩⟩
theorem iD.shape {w:Nat}(h:iD w n s x):∃b a,x=.slice b s.length a/\s.length<=a:=by
 rcases h.2 with⟨h,e⟩|⟨g,a,d,h,_,_,hc,_⟩
 ·exact⟨none,0,by rw[h,e],by omega⟩
 ·exact⟨_,_,h,hc⟩
variable {a:Option Addr}{p:Nat}
theorem iD.place {w:Nat}(h:iD w n s (.slice a k p))(o:0<s.length):∃g,a=some ⟨g,0,none⟩/\∀j,j<s.length->n.cell? ⟨g,j,none⟩=some (.int .i64 (Nm.at' s j)):=by
 rcases h.2 with⟨_,l⟩|⟨g,b,d,h,_,e,hc,_,_,i⟩
 ·omega
 ·cases h;refine⟨g,rfl,fun j f=>bH e ?_⟩
  have:(s.map (Value.int .i64))[j]?=some (.int .i64 (Nm.at' s j)):=by
   simp[Nm.at',List.getD,getElem?_eq_getElem f]
  rw[<-i,List.getElem?_take_of_lt (by omega)]at this
  simpa using this
def pY (w:World)(z:Int)(v:Value):Prop:=∃a b,v=.agg #[.bool (decide (z<0)),b]/\Ints w a b/\Nm.Good 10000 a/\Nm.val 10000 a=z.natAbs
theorem pY.below {w b:World}{z:Int}{v:Value}(h:pY w z v)(i:Below w.heap.size w b):pY b z v:=by
 obtain⟨a,d,e,f,g⟩:=h;exact⟨a,d,e,f.below i,g⟩
theorem pY.alloc {w:World}{z:Int}{v:Value}(h:pY w z v)(o:Obj):pY (w.alloc o) z v:=h.below ((Below.refl _ _).alloc (Nat.le_refl _) o)
theorem kR:(prog.info? 81).map (fun i=>(i.zero,i.size,i.bytes))=some (some (.int .u32 0),1,4):=by kernel_rfl
def cE (B:Nat)(w:World)(a:LN)(v:Value):Prop:=w.ownsRow B 81 1 v a.length (a.map (Value.int .u32))
abbrev Lims (w:World)(a:LN)(v:Value):Prop:=cE 0 w a v
theorem cE.below {v:Value}(h:cE B w s v)(a:Below w.heap.size w b):cE B b s v:=aIy h a
theorem cE.alloc {B:Nat}{w:World}{xs:LN}{v:Value}(h:cE B w xs v)(o:Obj):cE B (w.alloc o) xs v:=h.below ((Below.refl _ _).alloc (Nat.le_refl _) o)
theorem cE.nil (B:Nat)(w:World):cE B w [] (.slice none 0 0):=⟨rfl,Or.inl ⟨rfl,rfl⟩⟩
variable {w:Nat}
theorem cE.bO (h:cE w n s x)(a:k<=w):cE k n s x:=aQb h a
theorem cE.shape (h:cE w n s x):∃b a,x=.slice b s.length a/\s.length<=a:=by
 rcases h.2 with⟨h,e⟩|⟨g,a,d,h,_,_,hc,_⟩
 ·exact⟨none,0,by rw[h,e],by omega⟩
 ·exact⟨_,_,h,hc⟩
theorem cE.place (h:cE w n s (.slice a k p))(o:0<s.length):∃g,a=some ⟨g,0,none⟩/\∀j,j<s.length->n.cell? ⟨g,j,none⟩=some (.int .u32 (Nm.at' s j)):=by
 rcases h.2 with⟨_,l⟩|⟨g,b,d,h,_,e,hc,_,_,i⟩
 ·omega
 ·cases h;refine⟨g,rfl,fun j f=>bH e ?_⟩
  have:(s.map (Value.int .u32))[j]?=some (.int .u32 (Nm.at' s j)):=by
   simp[Nm.at',List.getD,getElem?_eq_getElem f]
  rw[<-i,List.getElem?_take_of_lt (by omega)]at this
  simpa using this
theorem cE.other {b:Nat}(a:cE b n s x){z:Array Value}{h:TypeId}{m:Nat×Nat}(j:n.heap[k]?=some (.cells z h m))(q:h≠81)(u:Value):cE b (n.setCell ⟨k,o,none⟩ u) s x:=by
 obtain⟨p,i⟩:=a;refine⟨p,?_⟩
 rcases i with i|⟨g,d,f,hv,y,l,r⟩
 ·exact Or.inl i
 ·refine Or.inr ⟨g,d,f,hv,y,?_,r⟩;rw[Below.heap_setCell _ _ _ _ ?_]
  ·exact l
  ·intro e;simp only at e;rw[e]at l;rw[l]at j;simp at j;exact q j.2.1.symm
def dR (w:World)(G:Nat)(b:LN):Prop:=∃a,w.heap[G]?=some (.cells a 81 (0,0))/\a.toList=b.map (Value.int .u32)
theorem dR.cell {n:World}{G:Nat}{s:LN}(h:dR n G s)(j:Nat)(e:j<s.length):n.cell? ⟨G,j,none⟩=some (.int .u32 (Nm.at' s j)):=by
 obtain⟨a,b,d⟩:=h;refine bH b ?_
 have:(s.map (Value.int .u32))[j]?=some (.int .u32 (Nm.at' s j)):=by
  simp[Nm.at',List.getD,getElem?_eq_getElem e]
 rw[<-d]at this
 simpa using this
theorem dR.frozen {n:World}{G:Nat}{s:LN}(h:dR n G s)(j:Nat):n.frozen? ⟨G,j,none⟩=false:=by
 obtain⟨a,b,d⟩:=h;exact kN b
theorem dR.set {w:World}{G:Nat}{xs:LN}(h:dR w G xs)(j:Nat)(x:Int):dR (w.setCell ⟨G,j,none⟩ (.int .u32 x)) G (xs.set j x):=by
 obtain⟨a,b,d⟩:=h;refine⟨_,sH b _,?_⟩;rw[Array.toList_setIfInBounds,d,List.map_set]
theorem dR.lt {G:Nat}(h:dR n G s):G<n.heap.size:=by
 obtain⟨a,b,d⟩:=h;exact fQ b
theorem dR.drew {n:World}{G:Nat}{s:LN}(h:dR n G s):dR n.drew G s:=h
theorem dR.rA {G:Nat}(h:dR n G s)(e:s.length<=100000000000):Lims n s (.slice (some ⟨G,0,none⟩) s.length s.length):=by
 obtain⟨a,d,b⟩:=h;refine⟨by simp,Or.inr ⟨G,s.length,a,rfl,Nat.zero_le _,d,Nat.le_refl _,by unfold maxLen;omega,?_,?_⟩⟩
 ·rw[<-Array.length_toList,b];simp
 ·rw[b];exact take_of_length_le (by simp)
theorem cE.oB (h:cE w n s (.slice (some ⟨k,0,none⟩) p o))(j:Nat)(b:j<s.length):n.cell? ⟨k,j,none⟩=some (.int .u32 (Nm.at' s j)):=by
 obtain⟨d,a,hc⟩:=h.place (by omega);cases a;exact hc j b
theorem dR.made (w:World)(n:Nat):dR (w.alloc (.cells (madeCells #[.int .u32 0] n) 81)) w.heap.size (List.replicate n 0):=⟨madeCells #[.int .u32 0] n,by show(w.heap.push _)[w.heap.size]?=_;simp,by rw[toList_madeCells_one];simp⟩
theorem cE.Bb (h:cE w n s x){G:Nat}(j:G<w)(u:Value):cE w (n.setCell ⟨G,p,none⟩ u) s x:=by
 obtain⟨e,d⟩:=h;refine⟨e,?_⟩
 rcases d with d|⟨g,a,b,hv,f,i,r⟩
 ·exact Or.inl d
 ·exact Or.inr ⟨g,a,b,hv,f,by rw[Below.heap_setCell _ _ _ _ (by simp only;omega)];exact i,r⟩
theorem dR.below {w:World}{G:Nat}(h:dR w G s)(f:Below w.heap.size w b):dR b G s:=by
 obtain⟨a,d,e⟩:=h;exact⟨a,by rw[f.block _ (fQ d)];exact d,e⟩
def cR (w:World)(p:List Int->Prop):NN:=fun e a=>∃v b,e=.returned v/\p b/\cE w.heap.size a b v/\Below w.heap.size w a
def WhoAt (w:World)(z:Int)(v:Value):Prop:=∃a b,v=.agg #[.bool (decide (z<0)),b]/\Lims w a b/\Nm.Good 4294967296 a/\Nm.val 4294967296 a=z.natAbs
theorem WhoAt.below {w b:World}{z:Int}{v:Value}(h:WhoAt w z v)(i:Below w.heap.size w b):WhoAt b z v:=by
 obtain⟨a,d,e,f,g⟩:=h;exact⟨a,d,e,f.below i,g⟩
theorem WhoAt.alloc {w:World}{z:Int}{v:Value}(h:WhoAt w z v)(o:Obj):WhoAt (w.alloc o) z v:=h.below ((Below.refl _ _).alloc (Nat.le_refl _) o)
variable {v:Int}
theorem WhoAt.open (h:WhoAt n v x):∃b d a,x=.agg #[.bool (decide (v<0)),.slice d b.length a]/\Lims n b (.slice d b.length a)/\Nm.Good 4294967296 b/\Nm.val 4294967296 b=v.natAbs:=by
 obtain⟨b,j,f,e,g,i⟩:=h;obtain⟨d,a,rfl,_⟩:=e.shape;exact⟨b,d,a,f,e,g,i⟩
theorem WhoAt.other {n:World}{v:Int}{x:Value}(a:WhoAt n v x){w o:Nat}{k:Array Value}{h:TypeId}{m:Nat×Nat}(i:n.heap[w]?=some (.cells k h m))(j:h≠81)(u:Value):WhoAt (n.setCell ⟨w,o,none⟩ u) v x:=by
 obtain⟨b,d,e,f,g⟩:=a;exact⟨b,d,e,f.other i j u,g⟩
def bR (w:World)(z:Int):NN:=fun e a=>∃v,e=.returned v/\WhoAt a z v/\Below w.heap.size w a
variable {z:Int}
theorem xN (a:Nm.Good 4294967296 s)(hv:Nm.val 4294967296 s=z.natAbs)(b:z.natAbs<2^w):s.length<=w:=by
 refine Nm.aPM (by decide) a ?_;rw[hv];have:((z.natAbs:Nat):Int)<((2^w:Nat):Int):=Int.ofNat_lt.2 b
 simpa using this
theorem vN (w:World)(o:Obj):(w.alloc o).heap[w.heap.size]?=some o:=by show(w.heap.push o)[w.heap.size]?=some o;simp
theorem aW {a:World}(h:Below w a b)(d:w<=b.heap.size)(o:Obj):Below w a (b.alloc o):=h.alloc d o
theorem cP {o:Obj}(d:k<n.heap.size)(h:n.heap[k]?=some o)(a:Below n.heap.size n b):b.heap[k]?=some o:=by rw[a.block k d];exact h
theorem vZ (w:World):Below w.heap.size w w.drew:=⟨rfl,rfl,rfl,Nat.le_refl _,fun _ _=>rfl⟩
theorem rL (h:Below n.drew.heap.size n.drew b):Below n.heap.size n b:=⟨h.os,h.tape,h.output,h.size,h.block⟩
def Bits (n:Nat)(z:Int):Prop:=z.natAbs<2^n
variable {x:Int}
theorem pM (a:Bits w x)(b:Bits w z):Bits (w+1) (x+z):=by
 unfold Bits at*;rw[Nat.pow_succ];omega
theorem yX (a:Bits w x):Bits w (-x):=by
 unfold Bits at*
 rwa[Int.natAbs_neg]
variable {n:Nat}
theorem eJ {m:Nat}(a:Bits n x)(h:n<=m):Bits m x:=lt_of_lt_of_le a (Nat.pow_le_pow_right (by decide) h)
theorem fY {m:Nat}(a:Bits w x)(b:Bits m z):Bits (w+m) (x*z):=by
 unfold Bits at*;rw[Int.natAbs_mul,Nat.pow_add];exact Nat.mul_lt_mul'' a b
theorem Iq {m:Nat}(b:Bits w z)(h:x.natAbs<=z.natAbs)(a:w<=m):Bits m x:=lt_of_lt_of_le (Nat.lt_of_le_of_lt h b) (Nat.pow_le_pow_right (by decide) a)
theorem Oj {m:Nat}(a:Bits w x)(b:Bits m z):Bits (max w m) x/\Bits (max w m) z:=⟨eJ a (le_max_left _ _),eJ b (le_max_right _ _)⟩
theorem aHX (a:Bits w x)(b:Bits w z):Bits (w+1) (x-z):=by
 rw[Int.sub_eq_add_neg];exact pM a (yX b)
theorem Ul (h:Bits w v):Bits w (v.natAbs:Int):=by
 unfold Bits at*
 simpa using h
theorem aGL (n:Int):Bits (Nat.log2 n.natAbs+1) n:=by
 unfold Bits;exact Nat.lt_log2_self
namespace Ab
def Bits (u:Nat)(z:Int):Prop:=z.natAbs<2^(10000000*u)
theorem eJ {m:Nat}(a:Bits n x)(h:n<=m):Bits m x:=lt_of_lt_of_le a (Nat.pow_le_pow_right (by decide) (Nat.mul_le_mul_left _ h))
theorem yX (a:Bits w x):Bits w (-x):=by
 unfold Bits at*
 rwa[Int.natAbs_neg]
theorem Ul (h:Bits w v):Bits w (v.natAbs:Int):=by
 unfold Bits at*
 simpa using h
theorem pM {w:Nat}{x z:Int}(a:Bits w x)(b:Bits w z):Bits (w+1) (x+z):=by
 have h:Go.Proofs.YthhffdeihoofiaaGreatDoor.Bits (10000000*w+1) (x+z):=Go.Proofs.YthhffdeihoofiaaGreatDoor.pM a b;exact Go.Proofs.YthhffdeihoofiaaGreatDoor.eJ h (by omega)
theorem aHX (a:Bits w x)(b:Bits w z):Bits (w+1) (x-z):=by
 rw[Int.sub_eq_add_neg];exact pM a (yX b)
theorem fY {w m:Nat}{x z:Int}(a:Bits w x)(b:Bits m z):Bits (w+m) (x*z):=by
 have h:Go.Proofs.YthhffdeihoofiaaGreatDoor.Bits (10000000*w+10000000*m) (x*z):=Go.Proofs.YthhffdeihoofiaaGreatDoor.fY a b;rw[<-Nat.mul_add]at h;exact h
theorem Iq {m:Nat}(b:Bits w z)(h:x.natAbs<=z.natAbs)(a:w<=m):Bits m x:=eJ (Nat.lt_of_le_of_lt h b) a
theorem Oj {m:Nat}(a:Bits w x)(b:Bits m z):Bits (max w m) x/\Bits (max w m) z:=⟨eJ a (le_max_left _ _),eJ b (le_max_right _ _)⟩
theorem aGL (n:Int):Bits (Nat.log2 n.natAbs+1) n:=by
 have h:Go.Proofs.YthhffdeihoofiaaGreatDoor.Bits (Nat.log2 n.natAbs+1) n:=Go.Proofs.YthhffdeihoofiaaGreatDoor.aGL n;exact Go.Proofs.YthhffdeihoofiaaGreatDoor.eJ h (by omega)
theorem Dn (h:Go.Proofs.YthhffdeihoofiaaGreatDoor.Bits n v)(a:n<=10000000*k):Bits k v:=Go.Proofs.YthhffdeihoofiaaGreatDoor.eJ h a
def Yf:Bool->World->Int->Value->Prop
 |false,w,z,x=>∃a,Ints w a x/\Nm.Good 10000 a/\Nm.val 10000 a=z.natAbs
 |true,w,z,x=>∃a,Lims w a x/\Nm.Good 4294967296 a/\Nm.val 4294967296 a=z.natAbs
variable {n:World}{x:Value}
theorem aRB {bt:List TypeId}(h:On bt n b){s:Nat}(l:bt.contains e=false)(u:n.ownsRow w e s x o i):b.ownsRow w e s x o i:=by
 obtain⟨k,j⟩:=u;refine⟨k,?_⟩
 rcases j with j|⟨g,d,f,hv,p,q,r⟩
 ·exact Or.inl j
 ·refine Or.inr ⟨g,d,f,hv,p,?_,r⟩
  rcases h.bV g _ q with a|⟨a,_⟩
  ·exact a
  ·simp only[Qr]at a;rw[l]at a;cases a
theorem aN8 {s:Nat}(d:n.ownsRow w e s x o i):One x:=by
 rcases d.2 with⟨rfl,_⟩|⟨g,a,b,rfl,_⟩<;>rfl
noncomputable def mkC (bt:List TypeId)(f:bt.contains 3=false)(g:bt.contains 81=false):fG where
 P:=prog
 bt:=bt
 eU:=Yf
 bits:=Bits
 Af:=by
  intro k w W z x h d
  cases k with
  |false=>obtain⟨b,a,e⟩:=d;exact⟨b,aRB h f a,e⟩
  |true=>obtain⟨b,a,e⟩:=d;exact⟨b,aRB h g a,e⟩
 Ag:=by
  intro k w z x d
  cases k with
  |false=>obtain⟨b,a,_⟩:=d;exact aN8 a
  |true=>obtain⟨b,a,_⟩:=d;exact aN8 a
def Ja:List TypeId:=[78,56,94,74,184,186,190,232,140,145,143,76,103,110]
noncomputable def Z:fG:=mkC Ja (by decide) (by decide)
theorem mixed:Z.P.follows .mixedOrders=true:=by kernel_rfl
theorem aHc (k:Bool)(w:World):Yf k w 0 (.slice none 0 0):=by
 cases k
 ·exact⟨[],iD.nil 0 w,(Nm.Good.nil _),by simp[Nm.val]⟩
 ·exact⟨[],cE.nil 0 w,(Nm.Good.nil _),by simp[Nm.val]⟩
def dV (k:Bool):List Tok->Option (List Int×Nat)
 | []=>some ([],0)
 |.num b z n::r=>bif k==b then(dV k r).map fun(a,m)=>(z::a,max n m)else none
 |.c (.bool false)::.c (.lit (.slice none 0 0))::r=>(dV k r).map fun(a,m)=>(0::a,m)
 |_=>none
def mX:List Nat->List Nat->Bool
 | [],[]=>true
 |a::r,b::t=>Nat.ble a b&&mX r t
 |_,_=>false
def aU (k:Bool)(w:World):List Int->List Value->Prop
 | [],[]=>True
 |z::zs,x::y::a=>x=.bool (decide (z<0))/\Yf k w z y/\aU k w zs a
 |_,_=>False
theorem Fw {k:Bool}{w:World}:∀(ts:List Tok) (g:LN) (n:Nat) (f:LB),dV k ts=some (g,n)->RT Z w ts f->aU k w g f/\∀z∈g,Bits n z
 | [],g,n,f,h,r=>by
  simp[dV]at h;obtain⟨rfl,rfl⟩:=h
  cases f with
  |nil=>exact⟨trivial,fun z hz=>by cases hz⟩
  |cons=>exact r.elim
 |.num E z m::ts,g,n,f,h,r=>by
  simp only[dV]at h
  cases e:k==E with
  |false=>rw[e]at h;cases h
  |true=>
   rw[e]at h;simp only[cond_true]at h
   have:k=E:=by simpa using e
   subst this;obtain⟨⟨i,B⟩,A,j⟩:=cA h;simp only[Prod.mk.injEq]at j;obtain⟨rfl,rfl⟩:=j
   match f,r with
   |x::y::f,⟨p,q,F,C⟩=>
    obtain⟨s,u⟩:=Fw ts i B f A C;refine⟨⟨p,q,s⟩,fun D hz=>?_⟩;simp at hz
    rcases hz with rfl|hz
    ·exact eJ F (le_max_left _ _)
    ·exact eJ (u D hz) (le_max_right _ _)
 | [.c c],g,n,f,h,r=>by
  cases c<;>(try (simp[dV]at h;done))<;>(rename_i b;cases b<;>simp[dV]at h)
 |.c c::.num _ _ _::ts,g,n,f,h,r=>by
  cases c<;>(try (simp[dV]at h;done))<;>(rename_i b;cases b<;>simp[dV]at h)
 |.c c::.c d::ts,g,n,f,h,r=>by
  cases c<;>try (simp[dV]at h;done)
  case bool b=>
   cases b with
   |true=>simp[dV]at h
   |false=>
    cases d<;>try (simp[dV]at h;done)
    case lit v=>
     cases v<;>try (simp[dV]at h;done)
     case slice o l c=>
      cases o with
      |some a=>simp[dV]at h
      |none=>
       cases l with
       |succ l=>simp[dV]at h
       |zero=>
        cases c with
        |succ c=>simp[dV]at h
        |zero=>
         simp only[dV]at h;obtain⟨⟨i,B⟩,A,j⟩:=cA h;simp only[Prod.mk.injEq]at j;obtain⟨rfl,rfl⟩:=j
         match f,r with
         |x::y::f,⟨_,p,_,q,C⟩=>
          obtain⟨s,u⟩:=Fw ts i B f A C;have p:x=.bool false:=p;have q:y=.slice none 0 0:=q.1;subst p q;refine⟨⟨rfl,aHc k w,s⟩,fun D hz=>?_⟩;simp at hz
          rcases hz with rfl|hz
          ·unfold Bits;simp;exact Nat.pow_pos (by decide)
          ·exact u D hz
theorem Vb {k:Bool}{n:World}{w:Nat}:∀(a:LN) (b:LB),aU k n a b->(∀z∈a,Bits w z)->RT Z n (a.map fun z=>.num k z w) b
 | [],[],_,_=>trivial
 |z::a,x::y::b,⟨e,f,g⟩,d=>⟨e,f,d z (by simp),Vb a b g fun j i=>d j (by simp[i])⟩
 | [],_::_,h,_=>h.elim
 |_::_,[],h,_=>h.elim
 |_::_,[_],h,_=>h.elim
theorem aMY {P:Program}{f:FuncId}{fn:Func}(hf:P.funcs[f]?=some fn)(hn:(fn.name == "runtime.NumGoroutine")=false)(hb:fn.body.isNone=false):Enters P f:=by
 intro xs w
 have hn':¬fn.name = "runtime.NumGoroutine":=by simpa using hn
 have hb':¬fn.body=none:=by intro e;rw[e]at hb;cases hb
 simp[callFunc,hf,hn',hb']
def aE (fn:Func):Code:=fn.body.getD .skip
structure Fn (f:FuncId) (fn:Func):Prop where
 en:Enters Z.P f
 at':Z.P.funcs[f]?=some fn
 body:fn.body=some (aE fn)
theorem bF {f:FuncId}{fn:Func}(hf:prog.funcs[f]?=some fn)(hn:(fn.name == "runtime.NumGoroutine")=false)(hb:fn.body.isNone=false):Fn f fn:=by
 refine⟨aMY hf hn hb,hf,?_⟩;unfold aE
 cases h:fn.body with
 |none=>rw[h]at hb;cases hb
 |some c=>rfl
theorem dG:bU Z (fun _=>none):=fun f fn h=>by cases h
def iT:VT->Option (Int×List Prop)
 |.one (.int .i64 n)=>bif decide (n.natAbs<1000000000000000000)then some (n,[])else none
 |.one (.sint .i64 n)=>some (n,[n.natAbs<1000000000000000000])
 |_=>none
def Cd (k:Bool)(F:List Int->Option (List Int)):TE:=fun ts=>
 (fB iT ts).bind fun a=>(F (a.map (·.1))).map fun out=>(.val (.agg (out.map fun z=>.num k z 1)),(a.map (·.2)).flatten)
def oQ (k:Bool):Out->Option (List Int×List Prop)
 |.ret (.val (.agg ts))=>(dV k ts).map fun p=>(p.1,[])
 |.need p o=>(oQ k o).map fun(a,q)=>(a,p++q)
 |_=>none
theorem fH {p:Prop}{a:List Prop}(h:p)(b:Holds a):Holds (p::a):=by
 intro q hq;simp only[List.mem_cons]at hq
 rcases hq with rfl|hq
 ·exact h
 ·exact b q hq
def Th (a:List (Int×List Prop)):List VT:=(a.map (·.1)).map fun z=>.one (.sint .i64 z)
theorem aNv {n:World}:∀(ts:List VT) (e:List (Int×List Prop)) (d:LB),fB iT ts=some e->Holds (e.map (·.2)).flatten->All2 (lJ Z n) ts d->All2 (lJ Z n) (Th e) d/\∀x∈e,x.1.natAbs<1000000000000000000
 | [],e,d,h,_,r=>by
  simp[fB]at h;subst h
  cases d with
  |cons=>exact r.elim
  |nil=>exact⟨trivial,fun x z=>by cases z⟩
 |t::ts,e,d,h,j,r=>by
  unfold fB at h;obtain⟨x,b,p⟩:=aT h;obtain⟨i,s,rfl⟩:=cA p
  match d,r with
  |v::d,⟨k,A⟩=>
   obtain⟨l,o⟩:=aNv ts i d s (fun q u=>j q (by simp only[map_cons,List.flatten_cons,List.mem_append];exact Or.inr u)) A
   have f:lJ Z n (.one (.sint .i64 x.1)) v/\x.1.natAbs<1000000000000000000:=by
    unfold iT at b;split at b
    ·rename_i a
     cases g:decide (a.natAbs<1000000000000000000)with
     |false=>rw[g]at b;cases b
     |true=>rw[g]at b;cases b;exact⟨⟨rfl,k.2⟩,by simpa using g⟩
    ·cases b;exact⟨⟨rfl,k.2⟩,j _ (by simp)⟩
    ·cases b
   refine⟨⟨f.1,l⟩,fun y hy=>?_⟩;simp at hy
   rcases hy with rfl|hy
   ·exact f.2
   ·exact o y hy
theorem aN5 {k:Bool}{G:RV->Prop}:∀{o:Out} {b:LN} {a:List Prop},oQ k o=some (b,a)->Holds a->(∀ts,(dV k ts).map (·.1)=some b->G (.val (.agg ts)))->o.ok G
 |.ret (.val (.agg ts)),b,a,h,_,f=>by
  simp only[oQ]at h;obtain⟨p,d,e⟩:=cA h;cases e;exact f ts (by rw[d];rfl)
 |.need p o,b,a,h,i,f=>by
  simp only[oQ]at h;obtain⟨⟨z,q⟩,d,e⟩:=cA h;cases e;exact⟨fun x g=>i x (by simp[g]),aN5 d (fun x g=>i x (by simp[g])) f⟩
 |.ret (.val (.one _)),_,_,h,_,_=>by cases h
 |.ret (.tup _),_,_,h,_,_=>by cases h
 |.br _ _ _,_,_,h,_,_=>by cases h
variable {k:Bool}{l:List (FuncId×TE)}{M:FuncId}
theorem Cj (D:cG Z l){fn:Func}(d:Fn M fn){F:List Int->Option (List Int)}
  (h:∀a out,F a=some out->∃q,((run Z (aD l) (fun _=>none) (aK Z (aD l)) (fun _=>false) 300 [.code (aE fn),.top fn] (start fn (a.map fun z=>.one (.sint .i64 z)))).bind outcome).bind (oQ k)=some (out,q)/\((∀z∈a,z.natAbs<1000000000000000000)->Holds q))
  (S:∀a out,F a=some out->(∀z∈a,z.natAbs<1000000000000000000)->∀z∈out,Bits 1 z):bI Z M (Cd k F):=by
 refine⟨d.en,fun ts r p b T w u n=>?_⟩;unfold Cd at b;obtain⟨g,J,L⟩:=aT b;obtain⟨out,C,N⟩:=cA L;cases N;obtain⟨H,I⟩:=aNv ts g u J T n;obtain⟨q,q1,q2⟩:=h _ out C;obtain⟨o,o1,o2⟩:=aT q1;obtain⟨tr,t1,t2⟩:=aT o1
 have j:∀z∈g.map (·.1),z.natAbs<1000000000000000000:=by
  intro z hz;obtain⟨x,X,rfl⟩:=List.mem_map.1 hz;exact I x X
 have R:At (eG 0 (Th g)).2 0 (eG 0 (Th g)).2:=fun i y Y=>by rw[zero_add];exact Y
 refine mL (w0:=w) (ψ:=fun _=>none) (φ:=fun _=>none) (s:=start fn (Th g)) (vs:=(eG 0 (Th g)).1) (cZ D) dG (pN mixed (cZ D)) d.at' d.body rfl (Ij _ 0 u R H) (Ox fn _ w) 300 t1 _ (fun _ _=>False) (fun _ _ h=>h.elim)
  (yU (G:=fun r=>∃ts,r=.val (.agg ts)/\(dV k ts).map (·.1)=some out) t2 (aN5 o2 (q2 j) fun ts b=>⟨ts,rfl,b⟩)) ?_
 rintro r0 s φ v w'⟨hc,r',O,tk,rfl,P⟩ U W;obtain⟨⟨a,m⟩,E,B⟩:=cA P;simp only at B;subst B;obtain⟨A,e,r1⟩:=Ct O U;obtain⟨k1,_⟩:=Fw tk a m A E r1;exact⟨v,rfl,⟨A,e,Vb a A k1 (S _ a C j)⟩,RepF.below W hc⟩
theorem iI (h:v.natAbs<1000000000000000000):Bits 1 v:=Dn (n:=60) (lt_of_lt_of_le h (by decide)) (by decide)
def bJ (k:Bool):Nat->Nat->List AC
 |_,0=>[]
 |i,n+1=>.sg i::.dg k i::bJ k (i+1) n
def Dx (n:Nat):List AC:=List.replicate n .any
def ext (cs:List AC)(ty:TypeId):bQ:=⟨cs,ty,false,true,false⟩
def Seg (C:fG)(φ:LI)(ν:LV)(w:World)(k o:Nat)(ty:TypeId)(cs:List AC):Prop:=∃b d a:LB,w.heap[k]?=some (.cells (b++d++a).toArray ty (0,0))/\b.length=o/\All2 (relC C φ ν w) cs d
variable {L:fG}{φ:LI}
theorem sN {s:AS}(H:s.dirty=[])(f:∀b B,look s.boxes b=some B->B.own=false/\B.ro=true/\B.tip=false/\∃k o,φ b=some (k,o)/\Seg L φ s.nums n k o B.ty B.cs)(y:∀b,s.next<=b->φ b=none)(v:∀b k o,φ b=some (k,o)->k<n.heap.size):RepW L n φ φ s n:=by
 refine⟨fun b B h=>?_,fun b B k o h z=>?_,fun b u B r k o I g d l p=>?_,fun b B h A=>?_,y,v,fun k _ _=>rfl,On.refl _ _,fun b x e=>e,fun b B k o g d=>(by rw[(f b B g).1]at d;cases d)⟩
 ·obtain⟨_,_,_,k,o,g,j,F,i,d,l,p⟩:=f b B h;exact⟨k,o,j,F,i,g,d,l,p⟩
 ·have:=(f b B h).1;rw[z]at this;cases this
 ·obtain⟨_,D,q,_⟩:=f b B g;obtain⟨_,E,J,_⟩:=f u r d;exact Or.inr ⟨D,E,fun⟨a,_⟩=>(by rw[q]at a;cases a),fun a=>(by rw[q]at a;cases a)⟩
 ·have:=(f b B h).2.2.1;rw[A]at this;cases this
variable {R:NN}
theorem uD {sp:Spec}{a:FF}{fn:Func}(F:Fn M fn){s:AS}{vs:List AV}{args:LB}(b:SpecOk Z n φ sp)(e:bU Z a)(l:s.tmps=vs.map .val++List.replicate (fn.ntmps-vs.length) .fX)(hv:All2 (dW Z φ s.nums n) vs args)(p:RepW Z n φ φ s n)
   {X:Tr} (o:run Z sp a (aK Z sp) (fun _=>false) w [.code (aE fn),.top fn] s=some X) (G:AT->AS->Prop) (g:X.ok G fun _ _=>False)  (k:∀r i d v j,G r i->relT Z d i.nums j r v->RepW Z n φ d i j->R (.returned v) j):Calls prog M args.toArray n R:=
 mL (C:=Z) b e (pN mixed b) F.at' F.body l hv p w o G (fun _ _=>False) (fun _ _ h=>h.elim) g k
theorem sL {k:Bool}{φ:LI}{w:World}{n:Nat}:∀(a:LN) (d:LB) (i:Nat) (ν:LV),aU k w a d->(∀z∈a,Bits n z)->(∀(j:Nat) (z:Int),a[j]?=some z->ν[i+j]?=some (z,n))->All2 (relC Z φ ν w) (bJ k i a.length) d
 | [],[],_,_,_,_,_=>trivial
 |z::a,x::y::d,i,ν,⟨o,p,q⟩,l,b=>by
  have g:=b 0 z rfl;refine⟨⟨z,n,g,o⟩,⟨z,n,g,p,l z (by simp)⟩,sL a d (i+1) ν q (fun f e=>l f (by simp[e])) fun j f e=>?_⟩;rw[show i+1+j=i+(j+1) by omega];exact b (j+1) f (by simpa using e)
 | [],_::_,_,_,h,_,_=>h.elim
 |_::_,[],_,_,h,_,_=>h.elim
 |_::_,[_],_,_,h,_,_=>h.elim
def eS (a b:Spec):Spec:=fun f d ν id e g=>match a f d ν id e g with|some x=>some x|none=>b f d ν id e g
variable {q:LI}
theorem Pq {a b:Spec}(l:SpecOk L n q a)(o:SpecOk L n q b):SpecOk L n q (eS a b):=by
 intro f d ν id j k i r p g h;unfold eS at h
 cases e:a f d ν id j k with
 |some x=>rw[e]at h;cases h;exact l f d ν id j k i r p g e
 |none=>rw[e]at h;exact o f d ν id j k i r p g h
theorem Gb {k:Bool}{n:World}:∀(b:LN) (a:LB),aU k n b a->a.length=2*b.length
 | [],[],_=>rfl
 |_::b,_::_::a,⟨_,_,h⟩=>by
  have:=Gb b a h;simp only[length_cons];omega
 | [],_::_,h=>h.elim
 |_::_,[],h=>h.elim
 |_::_,[_],h=>h.elim
def Fh (t:Bool):List Int->List Int->Option (List Int)
 | [],[]=>some []
 |a::x,b::y=>(Fh t x y).map ((bif t then a else b)::·)
 |_,_=>none
theorem aPf {t:Bool}:∀{x y z:LN},Fh t x y=some z->z=bif t then x else y
 | [],[],z,h=>by cases h;cases t<;>rfl
 |a::x,b::y,z,h=>by
  simp only[Fh]at h;obtain⟨r,d,rfl⟩:=cA h;have:=aPf d
  cases t<;>simp_all
 | [],_::_,_,h=>by cases h
 |_::_,[],_,h=>by cases h
inductive G where
 |ns (zs:LN)
 |i (k:IntKind) (n:Int)
 |b (t:Bool)
inductive RG where
 |one (g:G)
 |tup (gs:List G)
def gT (k:Bool):VT->Option (G×Nat)
 |.agg ts=>(dV k ts).map fun(d,n)=>(.ns d,n)
 |.one (.int a n)=>some (.i a n,0)
 |.one (.sint a n)=>some (.i a n,0)
 |.one (.bool t)=>some (.b t,0)
 |.one (.sbool t)=>some (.b t,0)
 |_=>none
def pB (k:Bool)(a:Nat):G->VT
 |.ns e=>.agg (e.map fun z=>.num k z a)
 |.i d n=>.one (.sint d n)
 |.b t=>.one (.sbool t)
def dZ (k:Bool):List G->List Nat->List VT
 |g::r,n::ns=>pB k n g::dZ k r ns
 |_,_=>[]
def wR (k:Bool)(n:Nat):RG->RV
 |.one g=>.val (pB k n g)
 |.tup a=>.tup (a.map (pB k n))
def GB (n:Nat):G->Prop
 |.ns a=>∀z∈a,Bits n z
 |_=>True
def pX:List G->List Nat->Prop
 | [],[]=>True
 |g::r,n::ns=>GB n g/\pX r ns
 |_,_=>False
def RGB (n:Nat):RG->Prop
 |.one g=>GB n g
 |.tup a=>∀g∈a,GB n g
theorem GB.mono {n m:Nat}{g:G}(h:GB n g)(a:n<=m):GB m g:=by
 cases g with
 |ns zs=>exact fun z b=>eJ (h z b) a
 |_=>trivial
theorem Mq {t:VT}{g:G}(h:gT k t=some (g,w))(r:lJ Z n t x):GB w g/\∀m,GB m g->lJ Z n (pB k m g) x:=by
 unfold gT at h;split at h
 ·rename_i ts;obtain⟨⟨b,m⟩,d,f⟩:=cA h;cases f;obtain⟨a,e,r⟩:=r;obtain⟨k1,j⟩:=Fw ts b w a d r;exact⟨j,fun m i=>⟨a,e,Vb b a k1 i⟩⟩
 ·cases h;exact⟨trivial,fun _ _=>⟨rfl,r.2⟩⟩
 ·cases h;exact⟨trivial,fun _ _=>⟨rfl,r.2⟩⟩
 ·cases h;exact⟨trivial,fun _ _=>⟨rfl,r.2⟩⟩
 ·cases h;exact⟨trivial,fun _ _=>⟨rfl,r.2⟩⟩
 ·cases h
theorem Oi {k:Bool}{w:World}:∀(ts:List VT) (d:List (G×Nat)) (a:PH) (b:LB),fB (gT k) ts=some d->mX (d.map (·.2)) a=true->All2 (lJ Z w) ts b->All2 (lJ Z w) (dZ k (d.map (·.1)) a) b/\pX (d.map (·.1)) (d.map (·.2))/\pX (d.map (·.1)) a
 | [],d,a,b,h,e,r=>by
  simp[fB]at h;subst h
  cases b with
  |cons=>exact r.elim
  |nil=>
   cases a with
   |nil=>exact⟨trivial,trivial,trivial⟩
   |cons=>cases e
 |t::ts,d,a,b,h,e,r=>by
  unfold fB at h;obtain⟨x,o,p⟩:=aT h;obtain⟨f,q,rfl⟩:=cA p
  match a,b,e,r with
  |n::ns,v::b,e,⟨u,y⟩=>
   simp only[map_cons,mX,Bool.and_eq_true]at e;obtain⟨i,j,l⟩:=Oi ts f ns b q e.2 y;obtain⟨k1,s⟩:=Mq o u;have g:=k1.mono (Nat.le_of_ble_eq_true e.1);exact⟨⟨s n g,i⟩,⟨k1,j⟩,⟨g,l⟩⟩
def Yh (t:Bool):G->G->Option G
 |.ns x,.ns y=>(Fh t x y).map .ns
 |.i k n,.i a m=>if k=a then some (.i k (bif t then n else m))else none
 |.b x,.b y=>some (.b (bif t then x else y))
 |_,_=>none
def Eo (t:Bool):List G->List G->Option (List G)
 | [],[]=>some []
 |a::x,b::y=>(Yh t a b).bind fun c=>(Eo t x y).map (c::·)
 |_,_=>none
def En (t:Bool):RG->RG->Option RG
 |.one a,.one b=>(Yh t a b).map .one
 |.tup a,.tup b=>(Eo t a b).map .tup
 |_,_=>none
theorem aRw {t:Bool}{a b c:G}(h:Yh t a b=some c):c=bif t then a else b:=by
 unfold Yh at h;split at h
 ·obtain⟨z,d,rfl⟩:=cA h;have:=aPf d;subst this
  cases t<;>rfl
 ·split at h
  ·rename_i e;subst e;cases h;cases t<;>rfl
  ·cases h
 ·cases h;cases t<;>rfl
 ·cases h
theorem aNL {t:Bool}:∀{a b c:List G},Eo t a b=some c->c=bif t then a else b
 | [],[],c,h=>by cases h;cases t<;>rfl
 |a::x,b::y,c,h=>by
  simp only[Eo]at h;obtain⟨z,d,e⟩:=aT h;obtain⟨r,f,rfl⟩:=cA e;have g:=aRw d;have i:=aNL f
  cases t<;>simp_all
 | [],_::_,_,h=>by cases h
 |_::_,[],_,h=>by cases h
theorem aNK {t:Bool}{a b c:RG}(h:En t a b=some c):c=bif t then a else b:=by
 unfold En at h;split at h
 ·obtain⟨z,d,rfl⟩:=cA h;have:=aRw d;subst this
  cases t<;>rfl
 ·obtain⟨z,d,rfl⟩:=cA h;have:=aNL d;subst this
  cases t<;>rfl
 ·cases h
def pU (k:Bool):Out->Option (List Prop×RG)
 |.ret (.val v)=>(gT k v).map fun g=>([],.one g.1)
 |.ret (.tup e)=>(fB (gT k) e).map fun d=>([],.tup (d.map (·.1)))
 |.br t x y=>(pU k x).bind fun a=>(pU k y).bind fun b=>(En t a.2 b.2).map fun c=>(a.1.map (fun p=>t=true->p)++b.1.map (fun p=>t=false->p),c)
 |.need p o=>(pU k o).map fun a=>(p++a.1,a.2)
theorem aHk {k:Bool}{w:Nat}{n:World}:∀{b:List VT} {a:List (G×Nat)} {d:LB},fB (gT k) b=some a->(∀g∈a.map (·.1),GB w g)->All2 (lJ Z n) b d->All2 (lJ Z n) ((a.map (·.1)).map (pB k w)) d
 | [],a,[],h,_,_=>by simp[fB]at h;subst h;trivial
 |v::b,a,x::d,h,e,⟨o,p⟩=>by
  unfold fB at h;obtain⟨y,i,j⟩:=aT h;obtain⟨q,l,rfl⟩:=cA j;exact⟨(Mq i o).2 w (e _ (by simp)),aHk l (fun g f=>e g (by simp at f ⊢;exact Or.inr f)) p⟩
 | [],_,_::_,_,_,h=>h.elim
 |_::_,_,[],_,_,h=>h.elim
theorem Pr {k:Bool}{n:Nat}:∀{o:Out} {l:List Prop} {out:RG},pU k o=some (l,out)->Holds l->RGB n out->o.ok fun C=>∀w v,RRV Z w C v->RRV Z w (wR k n out) v
 |.ret (.val t),l,out,h,_,d=>by
  simp only[pU]at h;obtain⟨⟨g,m⟩,f,i⟩:=cA h;cases i;intro w v hv;exact(Mq f hv).2 n d
 |.ret (.tup vs),l,out,h,_,d=>by
  simp only[pU]at h;obtain⟨E,f,i⟩:=cA h;cases i;rintro w v⟨D,e,hv⟩;exact⟨D,e,aHk f d hv⟩
 |.br t x y,l,out,h,r,d=>by
  simp only[pU]at h;obtain⟨⟨p1,a⟩,f,i⟩:=aT h;obtain⟨⟨F,b⟩,u,z⟩:=aT i;obtain⟨c,A,B⟩:=cA z;cases B;have s:=aNK A;refine⟨fun e=>?_,fun e=>?_⟩
  ·subst e;subst s;exact Pr f (fun q j=>r (true=true->q) (List.mem_append_left _ (List.mem_map.2 ⟨q,j,rfl⟩)) rfl) d
  ·subst e;subst s;exact Pr u (fun q j=>r (false=false->q) (List.mem_append_right _ (List.mem_map.2 ⟨q,j,rfl⟩)) rfl) d
 |.need p o,l,out,h,r,d=>by
  simp only[pU]at h;obtain⟨⟨p1,a⟩,f,i⟩:=cA h;cases i;exact⟨fun q j=>r q (by simp[j]),Pr f (fun q j=>r q (by simp[j])) d⟩
def gZ (k:Bool)(F:List G->Option RG)(nd:List G->List Prop)(d:List Nat->Nat)(b:PH):TE:=fun ts=>
 (fB (gT k) ts).bind fun a=>bif mX (a.map (·.2)) b then(F (a.map (·.1))).map fun out=>(wR k (d (a.map (·.2))) out,nd (a.map (·.1)))else none
variable {F:List G->Option RG}{nd:List G->List Prop}{f:PH}
theorem Dv (l:Enters Z.P M){s:List Nat->Nat}(b:∀a ns out,F a=some out->Holds (nd a)->pX a ns->pX a f->RGB (s ns) out)
  (h:∀a out,F a=some out->Holds (nd a)->pX a f->∀w (j:LB),All2 (lJ Z w) (dZ k a f) j->Calls Z.P M j.toArray w fun e q=>∃v,e=.returned v/\(∀n,RGB n out->RRV Z q (wR k n out) v)/\Below w.heap.size w q):bI Z M (gZ k F nd s f):=by
 refine⟨l,fun ts r p i y w j o=>?_⟩;unfold gZ at i;obtain⟨z,C,g⟩:=aT i
 cases d:mX (z.map (·.2)) f with
 |false=>rw[d]at g;cases g
 |true=>
  rw[d]at g;simp only[cond_true]at g;obtain⟨out,x,D⟩:=cA g;cases D;obtain⟨A,B,u⟩:=Oi ts z f j C d o;refine(h _ out x y u w j A).mono ?_;rintro e q⟨v,rfl,hv,E⟩;exact⟨v,rfl,hv _ (b _ _ out x y B u),E⟩
theorem wW (U:cG Z l){d:FF}(E:bU Z d){fn:Func}(u:Fn M fn){S:List Nat->Nat}(A:∀a ns out,F a=some out->Holds (nd a)->pX a ns->pX a f->RGB (S ns) out)
  (h:∀a out,F a=some out->∃O,((run Z (aD l) d (aK Z (aD l)) (fun _=>false) 2000 [.code (aE fn),.top fn] (start fn (dZ k a f))).bind outcome).bind (pU k)=some (O,out)/\(Holds (nd a)->pX a f->Holds O)):bI Z M (gZ k F nd S f):=by
 refine Dv u.en A fun a out hF J H w R L=>?_
 obtain⟨O,W,X⟩:=h a out hF;obtain⟨o,Y,h4⟩:=aT W;obtain⟨tr,h5,h6⟩:=aT Y
 have hA:At (eG 0 (dZ k a f)).2 0 (eG 0 (dZ k a f)).2:=fun i y hy=>by rw[zero_add];exact hy
 have N:∀n,RGB n out->Calls Z.P M R.toArray w fun e D=>∃v,e=.returned v/\RRV Z D (wR k n out) v/\Below w.heap.size w D:=by
  intro n B;refine mL (w0:=w) (ψ:=fun _=>none) (φ:=fun _=>none) (s:=start fn (dZ k a f)) (vs:=(eG 0 (dZ k a f)).1) (cZ U) E (pN mixed (cZ U)) u.at' u.body rfl (Ij _ 0 R hA L) (Ox fn _ w) 2000 h5 _ (fun _ _=>False) (fun _ _ h=>h.elim) (yU h6 (Pr (n:=n) h4 (X J H) B)) ?_;rintro r0 s φ v D⟨hc,r',h7,h8⟩ hr hw;exact⟨v,rfl,h8 D v (Ct h7 hr),RepF.below hw hc⟩
 -- one bound that will do,then all
 obtain⟨n0,I⟩:=someB out;refine(N n0 I).mono ?_;rintro e D⟨v,rfl,hv,hb⟩;exact⟨v,rfl,fun n B=>anyB hv B,hb⟩
where
 someB (out:RG):∃n,RGB n out:=by
  have one:∀j:LN,∃n,∀z∈j,Bits n z:=by
   intro j
   induction j with
   |nil=>exact⟨0,fun z hz=>by cases hz⟩
   |cons z j C=>
    obtain⟨n,B⟩:=C;refine⟨max (Nat.log2 z.natAbs+1) n,fun y hy=>?_⟩;simp at hy
    rcases hy with rfl|hy
    ·exact eJ (aGL _) (le_max_left _ _)
    ·exact eJ (B y hy) (le_max_right _ _)
  have T:∀g:G,∃n,GB n g:=by
   intro g
   cases g with
   |ns j=>exact one j
   |_=>exact⟨0,trivial⟩
  cases out with
  |one g=>exact T g
  |tup a=>
   induction a with
   |nil=>exact⟨0,fun g hg=>by cases hg⟩
   |cons g a C=>
    obtain⟨n,B⟩:=C;obtain⟨m,q⟩:=T g;refine⟨max m n,fun y hy=>?_⟩;simp at hy
    rcases hy with rfl|hy
    ·exact q.mono (le_max_left _ _)
    ·exact(B y hy).mono (le_max_right _ _)
 oneB {k:Bool} {w:World} {g:G} {n m:Nat} {v:Value} (h:lJ Z w (pB k n g) v) (q:GB m g):lJ Z w (pB k m g) v:=by
  cases g with
  |ns j=>
   obtain⟨p,e,r⟩:=h
   have:dV k (j.map fun z=>.num k z n)=some (j,(dV k (j.map fun z=>.num k z n)).elim 0 (·.2)):=by
    clear r q
    induction j with
    |nil=>rfl
    |cons z j C=>
     simp only[map_cons,dV,beq_self_eq_true,cond_true];rw[C];rfl
   exact⟨p,e,Vb j p (Fw _ _ _ p this r).1 q⟩
  |i kd n=>exact h
  |b t=>exact h
 anyB {k:Bool} {w:World} {out:RG} {n m:Nat} {v:Value} (h:RRV Z w (wR k n out) v) (q:RGB m out):RRV Z w (wR k m out) v:=by
  cases out with
  |one g=>exact oneB h q
  |tup a=>
   obtain⟨p,e,r⟩:=h;refine⟨p,e,?_⟩;clear e
   induction a generalizing p with
   |nil=>exact r
   |cons g a C=>
    match p,r with
    |x::p,⟨r1,r2⟩=>exact⟨oneB r1 (q g (by simp)),C (fun y hy=>q y (by simp[hy])) p r2⟩
def kY:Code->List (K (List AT))->Option (Code×List (K (List AT)))
 |.seq a b,d=>match kY a (.code b::d)with|some r=>some r|none=>kY b d
 |.block id b,d=>kY b (.bV id::d)
 |.loop b,d=>some (b,d)
 |.cond _ a b,d=>match kY a d with|some r=>some r|none=>kY b d
 |_,_=>none
def pH (c:Code)(fn:Func):Code:=((kY c [.top fn]).map (·.1)).getD .skip
def tA (c:Code)(fn:Func):List (K (List AT)):=((kY c [.top fn]).map (·.2)).getD []
def nY:List (K (List AT))->Bool
 |.code (.loop _)::_=>true
 |_=>false
def iX:List (K (List AT))->Bool
 |.lp _ _::_=>true
 |_=>false
def tD (a:PH):AC->Bool
 |.sg _=>false
 |.dg _ _=>false
 |.ptr b _=>a.contains b
 |.slc b _ _ _=>a.contains b
 |.dsl b _ _ _=>a.contains b
 |_=>true
def rn (ν:LV)(a:PH):Nat->List AC->Option (List AC×List (Int×Nat))
 |_,[]=>some ([],[])
 |base,.sg i::.dg k j::r=>bif i==j then(ν[i]?).bind fun zn=>(rn ν a (base+1) r).map fun p=>(.sg base::.dg k base::p.1,zn::p.2)else none
 |base,c::r=>bif tD a c then(rn ν a base r).map fun p=>(c::p.1,p.2)else none
def wk:AC->AC
 |.int k n=>.sint k n
 |.bool b=>.sbool b
 |c=>c
def Yl (ν:LV)(a:PH)(base:Nat):AT->Option (AT×List (Int×Nat))
 |.val (.one c)=>bif tD a c then some (.val (.one c),[])else none
 |.val (.agg cs)=>(rn ν a base cs).map fun p=>(.val (.agg p.1),p.2)
 |_=>none
def wkT:AT->AT
 |.val (.one c)=>.val (.one (wk c))
 |t=>t
def Sl (a:List (Nat×bQ))(ν:LV)(d:PH):Nat->List Nat->Option (List (Nat×bQ)×List (Int×Nat))
 |_,[]=>some ([],[])
 |base,b::r=>(look a b).bind fun B=>(rn ν d base B.cs).bind fun p=>(Sl a ν d (base+p.2.length) r).map fun q=>((b,{B with cs:=p.1})::q.1,p.2++q.2)
def Kt (ν:LV)(a b:PH):Nat->Nat->List AT->Option (List AT×List (Int×Nat))
 |_,_,[]=>some ([],[])
 |base,i,t::r=>
  bif b.contains i then(Yl ν a base t).bind fun p=>(Kt ν a b (base+p.2.length) (i+1) r).map fun q=>(p.1::q.1,p.2++q.2)
  else bif b.contains (1000+i)then(Yl ν a base (wkT t)).bind fun p=>(Kt ν a b (base+p.2.length) (i+1) r).map fun q=>(p.1::q.1,p.2++q.2)
  else(Kt ν a b base (i+1) r).map fun q=>(.top::q.1,q.2)
def norm (a f:PH)(e:Nat)(s:AS):Option AS:=
 (Sl s.boxes s.nums a 0 a).bind fun p=>(Kt s.nums a f p.2.length 0 s.tmps).bind fun q=>
  bif a.all (fun b=>Nat.blt b e)&&s.dirty.all (fun d=>a.contains d||(match look s.boxes d with|some B=>B.own|none=>false))then some ⟨q.1,p.1,e,p.2++q.2,s.dirty.filter fun d=>a.contains d⟩else none
def rst (a:PH)(φ:LI):LI:=fun b=>bif a.contains b then φ b else none
section
variable {C:fG} {φ:LI} {w:World}{ν:LV}
theorem aJK {c:AC}(h:tD f c=true){g:LV}(r:relC C φ ν w c x):relC C (rst f φ) g w c x:=by
 cases c<;>simp only[tD]at h<;>simp only[relC]at r ⊢<;>try exact r
 ·obtain⟨k,o,b,d⟩:=r;exact⟨k,o,by unfold rst;rw[h];exact b,d⟩
 ·obtain⟨k,o,a,e,m,b,d⟩:=r;exact⟨k,o,a,e,m,by unfold rst;rw[h];exact b,d⟩
 ·obtain⟨k,a,b,d⟩:=r;exact⟨k,a,by unfold rst;rw[h];exact b,d⟩
 ·cases h
 ·cases h
theorem Xx {ν D:LV}{f:PH}:∀(cs:List AC) (base:Nat) (a:List AC) (ns:LV) (g:LB),rn ν f base cs=some (a,ns)->At D base ns->All2 (relC C φ ν w) cs g->All2 (relC C (rst f φ) D w) a g
 | [],_,a,ns,[],h,_,_=>by simp[rn]at h;rw[h.1];trivial
 | [],_,_,_,_::_,_,_,h=>h.elim
 |_::_,_,_,_,[],_,_,h=>h.elim
 | [c],base,a,ns,[x],h,l,⟨o,_⟩=>by
  have:rn ν f base [c]=bif tD f c then some ([c],[])else none:=by cases c<;>simp[rn,tD]
  rw[this]at h
  cases hc:tD f c with
  |false=>rw[hc]at h;cases h
  |true=>rw[hc]at h;cases h;exact⟨aJK hc o,trivial⟩
 | [c],_,_,_,_::_::_,_,_,h=>h.2.elim
 |_::_::_,_,_,_,[_],_,_,h=>h.2.elim
 |c::d::r,base,a,ns,x::y::g,h,l,⟨o,B,A⟩=>by
  by_cases hc:tD f c=true
  ·have e:rn ν f base (c::d::r)=(rn ν f base (d::r)).map fun p=>(c::p.1,p.2):=by
    cases c<;>first|(simp[tD]at hc;done)|(simp only[rn,hc,cond_true])
   rw[e]at h;obtain⟨p,q,s⟩:=cA h;cases s;exact⟨aJK hc o,Xx (d::r) base p.1 p.2 (y::g) q l ⟨B,A⟩⟩
  ·cases c<;>try (simp only[rn]at h;simp[hc]at h;done)
   case sg i=>
    cases d<;>try (simp[rn,tD]at h;done)
    case dg k j=>
     simp only[rn]at h
     cases b:i==j with
     |false=>rw[b]at h;cases h
     |true=>
      rw[b]at h;simp only[cond_true]at h
      have:i=j:=by simpa using b
      subst this;obtain⟨⟨z,n⟩,q,s⟩:=aT h;obtain⟨p,F,H⟩:=cA s;cases H;obtain⟨L,I,u,E⟩:=o;obtain⟨M,J,f1,f2,f3⟩:=B;rw[q]at u f1;cases u;cases f1;have v:=l 0 (z,n) rfl;exact⟨⟨z,n,v,E⟩,⟨z,n,v,f2,f3⟩,Xx r (base+1) p.1 p.2 g F l.tail A⟩
theorem aWy {c:AC}(r:relC C φ ν w c x):relC C φ ν w (wk c) x:=by cases c<;>exact r
theorem aTZ {t:AT}(r:relT C φ ν w t x):relT C φ ν w (wkT t) x:=by
 cases t with
 |val v=>cases v with
  |one c=>exact aWy r
  |agg cs=>exact r
 |_=>exact r
theorem aRH {d:LV}{t a:AT}{base:Nat}{ns:LV}(h:Yl ν f base t=some (a,ns))(j:At d base ns)(r:relT C φ ν w t x):relT C (rst f φ) d w a x:=by
 unfold Yl at h;split at h
 ·rename_i c
  cases hc:tD f c with
  |false=>rw[hc]at h;cases h
  |true=>rw[hc]at h;cases h;exact aJK hc r
 ·obtain⟨p,g,i⟩:=cA h;cases i;obtain⟨b,e,k⟩:=r;exact⟨b,e,Xx _ _ _ _ b g j k⟩
 ·cases h
theorem Xb {ν v:LV}{f n:PH}:∀(ts:List AT) (base i:Nat) (a:List AT) (ns:LV) (b:LB),Kt ν f n base i ts=some (a,ns)->At v base ns->All2 (relT C φ ν w) ts b->All2 (relT C (rst f φ) v w) a b
 | [],_,_,a,ns,[],h,_,_=>by simp[Kt]at h;rw[h.1];trivial
 | [],_,_,_,_,_::_,_,_,h=>h.elim
 |_::_,_,_,_,_,[],_,_,h=>h.elim
 |t::r,base,i,a,ns,x::b,h,g,⟨u,l⟩=>by
  simp only[Kt]at h
  cases o:n.contains i with
  |false=>
   rw[o]at h;simp only[cond_false]at h
   cases s:n.contains (1000+i)with
   |false=>
    rw[s]at h;simp only[cond_false]at h;obtain⟨q,d,e⟩:=cA h;cases e;exact⟨trivial,Xb r base (i+1) q.1 q.2 b d g l⟩
   |true=>
    rw[s]at h;simp only[cond_true]at h;obtain⟨p,d,e⟩:=aT h;obtain⟨q,j,k⟩:=cA e;cases k;exact⟨aRH d g.left (aTZ u),Xb r (base+p.2.length) (i+1) q.1 q.2 b j g.right l⟩
  |true=>
   rw[o]at h;simp only[cond_true]at h;obtain⟨p,d,e⟩:=aT h;obtain⟨q,j,k⟩:=cA e;cases k;exact⟨aRH d g.left u,Xb r (base+p.2.length) (i+1) q.1 q.2 b j g.right l⟩
theorem aRy {k:List (Nat×bQ)}{ν μ:LV}{f:PH}:∀(l:PH) (base:Nat) (e:List (Nat×bQ)) (ns:LV),Sl k ν f base l=some (e,ns)->At μ base ns->∀b g,look e b=some g->b∈l/\∃B a j,look k b=some B/\g={B with cs:=g.cs}/\rn ν f a B.cs=some (g.cs,j)/\At μ a j
 | [],base,e,ns,h,_,b,g,d=>by simp[Sl]at h;rw[h.1]at d;simp[look]at d
 |c::l,base,e,ns,h,n,b,g,d=>by
  simp only[Sl]at h;obtain⟨B,s,u⟩:=aT h;obtain⟨p,v,x⟩:=aT u;obtain⟨q,y,z⟩:=cA x;cases z;simp only[look]at d
  cases i:(c==b)with
  |true=>
   rw[i]at d;simp only[cond_true,Option.some.injEq]at d
   have:c=b:=by simpa using i
   subst this;subst d;exact⟨by simp,B,base,p.2,s,rfl,v,n.left⟩
  |false=>
   rw[i]at d;simp only[cond_false]at d;obtain⟨o,r⟩:=aRy l (base+p.2.length) q.1 q.2 y n.right b g d;exact⟨by simp[o],r⟩
end
theorem Qc {ν:LV}{f:PH}:∀{cs:List AC} {base:Nat} {a:List AC} {ns:LV},rn ν f base cs=some (a,ns)->a.length=cs.length
 | [],_,_,_,h=>by simp[rn]at h;rw[h.1]
 | [c],base,a,ns,h=>by
  have:rn ν f base [c]=bif tD f c then some ([c],[])else none:=by cases c<;>simp[rn,tD]
  rw[this]at h
  cases hc:tD f c with
  |false=>rw[hc]at h;cases h
  |true=>rw[hc]at h;cases h;rfl
 |c::d::r,base,a,ns,h=>by
  by_cases hc:tD f c=true
  ·have e:rn ν f base (c::d::r)=(rn ν f base (d::r)).map fun p=>(c::p.1,p.2):=by
    cases c<;>first|(simp[tD]at hc;done)|(simp only[rn,hc,cond_true])
   rw[e]at h;obtain⟨p,l,g⟩:=cA h;cases g;simp[Qc l]
  ·cases c<;>try (simp only[rn]at h;simp[hc]at h;done)
   case sg i=>
    cases d<;>try (simp[rn,tD]at h;done)
    case dg k j=>
     simp only[rn]at h
     cases b:i==j with
     |false=>rw[b]at h;cases h
     |true=>
      rw[b]at h;simp only[cond_true]at h;obtain⟨zn,l,g⟩:=aT h;obtain⟨p,n,o⟩:=cA g;cases o;simp[Qc n]
variable {w:World}{ψ:LI}{kt:PH}{s:AS}
theorem aKK {C:fG}{w0:World}{N:Nat}{s':AS}(h:norm f kt N s=some s')(Y:∀b x,ψ b=some x->f.contains b=true)(u:RepW C w0 ψ φ s w):RepW C w0 ψ (rst f φ) s' w:=by
 unfold norm at h;obtain⟨p,h1,h2⟩:=aT h;obtain⟨q,h3,M⟩:=aT h2
 cases hc:(f.all (fun b=>Nat.blt b N)&&s.dirty.all (fun d=>f.contains d||(match look s.boxes d with|some B=>B.own|none=>false)))with
 |false=>rw[hc]at M;cases M
 |true=>
  rw[hc]at M;cases M;simp only[Bool.and_eq_true,List.all_eq_true]at hc;obtain⟨c1,c2⟩:=hc
  have A1:At (p.2++q.2) 0 p.2:=fun i y X=>by rw[zero_add];exact sK _ _ i y X
  have A2:At (p.2++q.2) p.2.length q.2:=fun i y X=>by
   rw[List.getElem?_append_right (by omega)]
   simpa using X
  have g:∀b x,rst f φ b=some x->f.contains b=true/\φ b=some x:=by
   intro b x a;unfold rst at a
   cases n:f.contains b with
   |false=>rw[n]at a;cases a
   |true=>rw[n]at a;exact⟨rfl,a⟩
  have l:=fun b r a=>aRy (μ:=p.2++q.2) f 0 p.1 p.2 h1 A1 b r a
  refine⟨?_,?_,?_,?_,?_,?_,?_,u.on,?_,fun b r k o a I hr n=>?_⟩
  rotate_right
  ·obtain⟨m,B,base,ns,v,j,H,_⟩:=l b r a;have l1:=Qc H;rw[j]at I hr;obtain⟨A,E⟩:=u.qH b B k o v I hr (g _ _ n).2;refine⟨A,?_⟩;rw[l1,j];exact E
  ·intro b r a;obtain⟨m,B,base,ns,v,j,H,g4⟩:=l b r a;obtain⟨k,o,ab,ys,L,k1,k2,k3,k4⟩:=u.box b B v;refine⟨k,o,ab,ys,L,?_,?_,k3,Xx _ _ _ _ ys H g4 k4⟩
   ·unfold rst;rw[show f.contains b=true by simpa using m];exact k1
   ·rw[j];exact k2
  ·intro b r k o a I n;obtain⟨m,B,base,ns,v,j,_⟩:=l b r a;rw[j]at I;exact u.own b B k o v I (g _ _ n).2
  ·intro b b' B r k o o' a T n U;obtain⟨m,D,base,ns,v,j,H,_⟩:=l b B a;obtain⟨m',D',O,az,P,F,S,_⟩:=l b' r T;have l1:=Qc H;have l2:=Qc S
   rcases u.inj b b' D D' k o o' v P (g _ _ n).2 (g _ _ U).2 with e|⟨A,E,e3,e4⟩
   ·exact Or.inl e
   ·refine Or.inr ⟨by rw[j];exact A,by rw[F];exact E,by rw[j,F];exact e3,?_⟩;intro J
    have z:D.tip=true:=by rw[j]at J;exact J
    have:=e4 z;rw[l1,l2];exact this
  ·intro b r a J;obtain⟨m,B,base,ns,v,j,_⟩:=l b r a
   have z:B.tip=true:=by rw[j]at J;exact J
   obtain⟨A,E⟩:=u.tip b B v z;rw[j];exact⟨A,E⟩
  ·intro b a;unfold rst
   cases n:f.contains b with
   |false=>rfl
   |true=>
    have:=c1 b (by simpa using n)
    have aq:b<N:=by simpa[Nat.blt_eq]using this
    have a:N<=b:=a;omega
  ·intro b k o a;exact u.lt b k o (g _ _ a).2
  ·intro k n hd;refine u.low k n ?_;intro b a o e;have hc2:=c2 b a;simp only[Bool.or_eq_true]at hc2
   rcases hc2 with hc2|hc2
   ·refine hd b ?_ o ?_
    ·exact List.mem_filter.2 ⟨a,hc2⟩
    ·unfold rst;rw[hc2];exact e
   ·cases W:look s.boxes b with
    |none=>rw[W]at hc2;cases hc2
    |some B=>
     rw[W]at hc2;have:=u.own b B k o W hc2 e;omega
  ·intro b x a;unfold rst;rw[Y b x a];exact u.base b x a
variable {u:PH}{a:Act}
theorem aNV {C:fG}{w0:World}{k:Nat}{l:AS}(h:norm f u k s=some l)(j:∀b x,ψ b=some x->f.contains b=true)(g:Rep C w0 ψ φ s a w):Rep C w0 ψ (rst f φ) l a w:=by
 refine⟨aKK h j g.wd,g.defers,?_⟩;unfold norm at h;obtain⟨p,v,n⟩:=aT h;obtain⟨q,o,e⟩:=aT n
 cases hc:(f.all (fun b=>Nat.blt b k)&&s.dirty.all (fun d=>f.contains d||(match look s.boxes d with|some B=>B.own|none=>false)))with
 |false=>rw[hc]at e;cases e
 |true=>
  rw[hc]at e;cases e;exact Xb _ _ _ _ _ _ o (fun i y r=>by rw[List.getElem?_append_right (by omega)];simpa using r) g.tmps
def noFr {F:Type}:List (K F)->Bool
 | []=>true
 |.fr _ _ _::_=>false
 |_::ks=>noFr ks
theorem SR.any {C:fG}{φ I:LI}{ν g:LV}{w b:World}:∀{ks:List (K (List AT))} {e:List (K Act)},noFr ks=true->SR C φ ν w ks e->SR C I g b ks e
 | [],[],_,_=>trivial
 |.code _::_,.code _::_,h,⟨a,d⟩=>⟨a,SR.any (by simpa[noFr]using h) d⟩
 |.bV _::_,.bV _::_,h,⟨a,d⟩=>⟨a,SR.any (by simpa[noFr]using h) d⟩
 |.lp _ _::_,.lp _ _::_,h,⟨a,d,f⟩=>⟨a,d,SR.any (by simpa[noFr]using h) f⟩
 |.ops _ _::_,.ops _ _::_,h,⟨a,d,f⟩=>⟨a,d,SR.any (by simpa[noFr]using h) f⟩
 |.top _::_,.top _::_,h,⟨a,d⟩=>⟨a,SR.any (by simpa[noFr]using h) d⟩
 |.fr _ _ _::_,_,h,_=>by simp[noFr]at h
section
variable {C:fG} {w0:World} {ψ:LI} {sp:Spec} {bodies:FF} {draw:Array Oper->AS->Option (AS×List Prop)} {R:NN}
end
def oZ (ν:LV):List AC->List AC×List Prop
 |.bool false::.dg k i::r=>match ν[i]? with
  |some zn=>(.sg i::.dg k i::(oZ ν r).1,(0<=zn.1)::(oZ ν r).2)
  |none=>(.bool false::.dg k i::(oZ ν r).1,(oZ ν r).2)
 |c::r=>(c::(oZ ν r).1,(oZ ν r).2)
 | []=>([],[])
theorem Ww {L:fG}{φ:LI}{ν:LV}{n:World}:∀(cs:List AC) (g:LB),Holds (oZ ν cs).2->All2 (relC L φ ν n) cs g->All2 (relC L φ ν n) (oZ ν cs).1 g
 | [],[],_,h=>h
 | [],_::_,_,h=>h.elim
 |_::_,[],_,h=>h.elim
 | [c],[x],a,⟨f,l⟩=>by
  have e:oZ ν [c]=([c],[]):=by cases c<;>(try rfl);rename_i b;cases b<;>rfl
  rw[e];exact⟨f,trivial⟩
 | [c],_::_::_,_,h=>h.2.elim
 |_::_::_,[_],_,h=>h.2.elim
 |c::d::r,x::y::g,a,⟨f,l,o⟩=>by
  by_cases j:∃k i,c=.bool false/\d=.dg k i
  ·obtain⟨k,i,rfl,rfl⟩:=j;simp only[oZ]at a ⊢
   cases hi:ν[i]? with
   |none=>
    rw[hi]at a;simp only at a ⊢;exact⟨f,l,Ww r g a o⟩
   |some zn=>
    rw[hi]at a;simp only at a ⊢;have s:0<=zn.1:=a _ (by simp);refine⟨⟨zn.1,zn.2,hi,?_⟩,l,Ww r g (fun q p=>a q (by simp[p])) o⟩;have f:x=.bool false:=f;rw[f,decide_eq_false (by omega)]
  ·have e:oZ ν (c::d::r)=(c::(oZ ν (d::r)).1,(oZ ν (d::r)).2):=by
    cases c<;>try rfl
    rename_i b
    cases b<;>try rfl
    cases d<;>try rfl
    exact absurd ⟨_,_,rfl,rfl⟩ j
   rw[e]at a ⊢;exact⟨f,Ww (d::r) (y::g) a ⟨l,o⟩⟩
theorem Wc {ν:LV}:∀(cs:List AC),(oZ ν cs).1.length=cs.length
 | []=>rfl
 | [c]=>by
  have e:oZ ν [c]=([c],[]):=by cases c<;>(try rfl);rename_i b;cases b<;>rfl
  rw[e]
 |c::d::r=>by
  by_cases a:∃k i,c=.bool false/\d=.dg k i
  ·obtain⟨k,i,rfl,rfl⟩:=a;simp only[oZ]
   cases ν[i]?<;>simp[Wc r]
  ·have e:oZ ν (c::d::r)=(c::(oZ ν (d::r)).1,(oZ ν (d::r)).2):=by
    cases c<;>try rfl
    rename_i b
    cases b<;>try rfl
    cases d<;>try rfl
    exact absurd ⟨_,_,rfl,rfl⟩ a
   rw[e];have:=Wc (d::r) (ν:=ν);simp only[length_cons]at this ⊢;omega
def rI (ν:LV):List (Nat×bQ)->List (Nat×bQ)×List Prop
 | []=>([],[])
 |(b,B)::r=>((b,{B with cs:=(oZ ν B.cs).1})::(rI ν r).1,(oZ ν B.cs).2++(rI ν r).2)
def Tc (s:AS):AS:={s with boxes:=(rI s.nums s.boxes).1}
theorem aKB {ν:LV}:∀(l:List (Nat×bQ)) (b:Nat) (a:bQ),look (rI ν l).1 b=some a->∃B,look l b=some B/\a={B with cs:=(oZ ν B.cs).1}/\(Holds (rI ν l).2->Holds (oZ ν B.cs).2)
 | [],b,a,h=>by simp[rI,look]at h
 |(c,D)::l,b,a,h=>by
  simp only[rI,look]at h ⊢
  cases hc:(c==b)with
  |true=>
   rw[hc]at h;simp only[cond_true,Option.some.injEq]at h;exact⟨D,by rw[cond_true],h.symm,fun d q e=>d q (by simp[e])⟩
  |false=>
   rw[hc]at h;simp only[cond_false]at h;obtain⟨B,f,g,i⟩:=aKB l b a h;exact⟨B,by rw[cond_false];exact f,g,fun d=>i fun q e=>d q (by simp[e])⟩
theorem aTF (S:Holds (rI s.nums s.boxes).2)(f:Rep L n q φ s a w):Rep L n q φ (Tc s) a w:=by
 have r:=fun b g h=>aKB (ν:=s.nums) s.boxes b g h
 refine⟨⟨?_,?_,?_,?_,f.wd.fresh,f.wd.lt,f.wd.low,f.wd.on,f.wd.base,?_⟩,f.defers,f.tmps⟩
 ·intro b g j;obtain⟨B,i,d,R⟩:=r b g j;obtain⟨k,o,J,Y,E,k1,T,U,W⟩:=f.wd.box b B i;exact⟨k,o,J,Y,E,k1,by rw[d];exact T,U,by rw[d];exact Ww _ _ (R S) W⟩
 ·intro b g k o j y x;obtain⟨B,i,d,_⟩:=r b g j;rw[d]at y;exact f.wd.own b B k o i y x
 ·intro b M B g k o X j H x I;obtain⟨D,i,d,_⟩:=r b B j;obtain⟨N,F,l,_⟩:=r M g H
  rcases f.wd.inj b M D N k o X i F x I with e|⟨u,v,O,P⟩
  ·exact Or.inl e
  ·refine Or.inr ⟨by rw[d];exact u,by rw[l];exact v,by rw[d,l];exact O,?_⟩;intro A
   have p:D.tip=true:=by rw[d]at A;exact A
   have:=P p;rw[d,l];simp only[Wc];exact this
 ·intro b g j A;obtain⟨B,i,d,_⟩:=r b g j
  have p:B.tip=true:=by rw[d]at A;exact A
  obtain⟨u,v⟩:=f.wd.tip b B i p;rw[d];exact⟨u,v⟩
 ·intro b g k o j y z x;obtain⟨B,i,d,_⟩:=r b g j;rw[d]at y z;obtain⟨u,v⟩:=f.wd.qH b B k o i y z x;refine⟨u,?_⟩;rw[d];simp only[Wc];exact v
def mQ:List (Int×Nat)->List Nat->List (Int×Nat)
 |(z,_)::r,N::a=>(z,N)::mQ r a
 |l,_=>l
def oW:List (Int×Nat)->List Nat->List Prop
 |(z,_)::r,N::a=>Bits N z::oW r a
 |_,_=>[]
def Ev (a:PH)(s:AS):AS:={s with nums:=mQ s.nums a}
theorem aRG:∀(l:LV) (e:PH) (i:Nat) (z:Int) (n:Nat),l[i]?=some (z,n)->Bits n z->Holds (oW l e)->∃m,(mQ l e)[i]?=some (z,m)/\Bits m z
 | [],_,i,z,n,h,_,_=>by simp at h
 |(y,k)::r,[],i,z,n,h,a,_=>⟨n,by simpa[mQ]using h,a⟩
 |(y,k)::r,N::d,0,z,n,h,a,b=>by
  simp at h;obtain⟨rfl,rfl⟩:=h;exact⟨N,by simp[mQ],b _ (by simp[oW])⟩
 |(y,k)::r,N::d,i+1,z,n,h,a,b=>by
  obtain⟨m,f,g⟩:=aRG r d i z n (by simpa using h) a (fun q j=>b q (by simp[oW,j]));exact⟨m,by simpa[mQ]using f,g⟩
theorem aOm:∀(l:LV) (d:PH) (i:Nat) (z:Int) (n:Nat),l[i]?=some (z,n)->∃m,(mQ l d)[i]?=some (z,m)
 | [],_,i,z,n,h=>by simp at h
 |(y,k)::r,[],i,z,n,h=>⟨n,by simpa[mQ]using h⟩
 |(y,k)::r,N::a,0,z,n,h=>by
  simp at h;obtain⟨rfl,rfl⟩:=h;exact⟨N,by simp[mQ]⟩
 |(y,k)::r,N::a,i+1,z,n,h=>by
  obtain⟨m,b⟩:=aOm r a i z n (by simpa using h);exact⟨m,by simpa[mQ]using b⟩
variable {ν:LV}
theorem Ws (i:Holds (oW ν f))(c:AC)(x:Value)(r:relC Z φ ν n c x):relC Z φ (mQ ν f) n c x:=by
 cases c<;>try exact r
 ·obtain⟨z,a,b,d⟩:=r;obtain⟨m,e⟩:=aOm ν f _ z a b;exact⟨z,m,e,d⟩
 ·obtain⟨z,a,b,d,e⟩:=r;obtain⟨m,g,h⟩:=aRG ν f _ z a b e i;exact⟨z,m,g,d,h⟩
theorem aHx (a:Holds (oW ν f))(v:AV)(x:Value)(r:dW Z φ ν n v x):dW Z φ (mQ ν f) n v x:=by
 cases v with
 |one c=>exact Ws a c x r
 |agg cs=>obtain⟨b,e,h⟩:=r;exact⟨b,e,h.mono (Ws a)⟩
theorem aQo (a:Holds (oW ν f))(t:AT)(x:Value)(r:relT Z φ ν n t x):relT Z φ (mQ ν f) n t x:=by
 cases t with
 |top=>trivial
 |fX=>exact r
 |val v=>exact aHx a v x r
 |tup d=>obtain⟨b,e,h⟩:=r;exact⟨b,e,h.mono (aHx a)⟩
 |nF c v=>
  simp only[relT]at r ⊢
  cases c with
  |true=>simp only[if_true]at r ⊢;exact aHx a v x r
  |false=>simpa using r
theorem aOl (h:Holds (oW s.nums f))(d:Rep Z n q φ s a w):Rep Z n q φ (Ev f s) a w:=by
 refine⟨⟨?_,d.wd.own,d.wd.inj,d.wd.tip,d.wd.fresh,d.wd.lt,d.wd.low,d.wd.on,d.wd.base,d.wd.qH⟩,d.defers,d.tmps.mono (aQo h)⟩;intro b B i;obtain⟨k,o,g,r,e,k1,j,l,p⟩:=d.wd.box b B i;exact⟨k,o,g,r,e,k1,j,l,p.mono (Ws h)⟩
def turnS (d e:PH)(f:Nat)(a:PH)(s:AS):Option (AS×List Prop):=
 (norm d e f (Tc s)).map fun b=>(Ev a b,(rI s.nums s.boxes).2++oW b.nums a)
theorem aLe {d:World}{i:LI}{w:Nat}{v:PH}{k:AS}{p:List Prop}(h:turnS f u w v s=some (k,p))(j:Holds p)(g:∀b x,i b=some x->f.contains b=true)(r:Rep Z n i φ s a d):Rep Z n i (rst f φ) k a d:=by
 unfold turnS at h;obtain⟨t,l,o⟩:=cA h;cases o;exact aOl (fun q e=>j q (by simp[e])) (aNV l g (aTF (fun q e=>j q (by simp[e])) r))
inductive LT where
 |ret (g:RG)
 |again (ks:List (K (List AT))) (s:AS)
 |br (t:Bool) (a b:LT)
 |need (p:List Prop) (o:LT)
def LT.ok (P:RG->Prop)(Q:List (K (List AT))->AS->Prop):LT->Prop
 |.ret g=>P g
 |.again d s=>Q d s
 |.br t a b=>(t=true->a.ok P Q)/\(t=false->b.ok P Q)
 |.need p o=>Holds p/\o.ok P Q
def Br (k:Bool):RV->Option RG
 |.val v=>(gT k v).map fun g=>.one g.1
 |.tup b=>(fB (gT k) b).map fun a=>.tup (a.map (·.1))
def iZ (k:Bool)(d e:PH)(f:Nat)(g:PH):Tr->Option LT
 |.ret r s=>bif clean s then((rvOf s.nums r).bind (Br k)).map .ret else none
 |.br t a b=>(iZ k d e f g a).bind fun x=>(iZ k d e f g b).map fun y=>.br t x y
 |.need p t=>(iZ k d e f g t).map (.need p)
 |.stop h s=>(turnS d e f g s).map fun x=>match x.2 with| []=>.again h x.1|p::i=>.need (p::i) (.again h x.1)
def isL (k:Bool)(P:RG->Prop)(r:AT)(s:AS):Prop:=clean s=true/\∃a g,rvOf s.nums r=some a/\Br k a=some g/\P g
def isN (b e:PH)(f:Nat)(g:PH)(Q:List (K (List AT))->AS->Prop)(d:List (K (List AT)))(s:AS):Prop:=∃a p,turnS b e f g s=some (a,p)/\Holds p/\Q d a
theorem Ps {k:Bool}{f n:PH}{w:Nat}{o:PH}{P:RG->Prop}{Q:List (K (List AT))->AS->Prop}:∀{v:Tr} {lt:LT},iZ k f n w o v=some lt->lt.ok P Q->v.ok (isL k P) (isN f n w o Q)
 |.ret r s,lt,h,d=>by
  simp only[iZ]at h
  cases hc:clean s with
  |false=>rw[hc]at h;cases h
  |true=>
   rw[hc]at h;simp only[cond_true]at h;obtain⟨g,i,rfl⟩:=cA h;obtain⟨A,j,l⟩:=aT i;exact⟨hc,A,g,j,l,d⟩
 |.br t a b,lt,h,d=>by
  simp only[iZ]at h;obtain⟨x,i,j⟩:=aT h;obtain⟨y,l,rfl⟩:=cA j;exact⟨fun e=>Ps i (d.1 e),fun e=>Ps l (d.2 e)⟩
 |.need p t,lt,h,d=>by
  simp only[iZ]at h;obtain⟨x,i,rfl⟩:=cA h;exact⟨d.1,Ps i d.2⟩
 |.stop B s,lt,h,d=>by
  simp only[iZ]at h;obtain⟨⟨u,q⟩,i,j⟩:=cA h
  cases q with
  |nil=>
   simp only at j;subst j;exact⟨u,[],i,gG,d⟩
  |cons p z=>
   simp only at j;subst j;exact⟨u,p::z,i,d.1,d.2⟩
variable {rb:PH}
theorem Sd {sp:Spec}{i:FF}(l:SpecOk Z n q sp)(B:bU Z i){P:RG->Prop}(hG:∀r s φ v g,isL k P r s->relT Z φ s.nums g r v->RepW Z n q φ s g->R (.returned v) g){b:Code}{j:List (K (List AT))}(C:noFr j=true){w:Nat}(H:∀b x,q b=some x->f.contains b=true)(I:Nat->AS->Prop)
  (hI:∀m s,I m s->∀e,∃d lt,(run Z sp i (aK Z sp) iX d (.code b::.lp b e::j) s).bind (iZ k f kt w rb)=some lt/\lt.ok P fun N O=>N=.lp b e::j/\∃A,A<m/\I A O):
  ∀(m e:Nat) (s:AS),I m s->m<e->∀(h:List (K Act)) (φ:LI) (a:Act) (g:World),SR Z φ s.nums g (.lp b e::j) h->Rep Z n q φ s a g->gC Z.P R h .normal a g:=by
 intro m
 induction m using Nat.strongRecOn with
 |_ m ih=>
  intro e s hs ae h φ a g F hr
  cases e with
  |zero=>omega
  |succ e=>
   match h,F with
   |.lp z n'::h,⟨T,U,u⟩=>
    subst T;subst U;obtain⟨d,lt,W,X⟩:=hI m s hs e;obtain⟨tr,Y,h4⟩:=aT W
    have J:gC Z.P R (.code z::.lp z e::h) .normal a g:=by
     refine sI (stp:=iX) l B (pN mixed l) (isL k P) _ ?_ hG d _ s tr Y (Ps h4 X) (.code z::.lp z e::h) φ a g ⟨rfl,rfl,rfl,u⟩ hr;rintro N O⟨L,p,hn,hp,rfl,A,D,hi⟩ y M S w' o E;exact ih A D e L hi (by omega) y (rst f M) S w' (SR.any (by simpa[noFr]using C) o) (aLe hn hp H E)
    exact J
theorem Tj (Y:cG Z l){sp:Spec}(x:∀H I,SpecOk Z H I sp){b:FF}(p:bU Z b){fn:Func}(d:Fn M fn){D:List Nat->Nat}(g:∀a ns out,F a=some out->Holds (nd a)->pX a ns->pX a f->RGB (D ns) out)
  (h:∀a out,F a=some out->∃B,((run Z (eS sp (aD l)) b (aK Z (eS sp (aD l))) (fun _=>false) 2000 [.code (aE fn),.top fn] (start fn (dZ k a f))).bind outcome).bind (pU k)=some (B,out)/\(Holds (nd a)->pX a f->Holds B)):bI Z M (gZ k F nd D f):=by
 refine Dv d.en g fun a out W u q w C z=>?_
 obtain⟨B,J,L⟩:=h a out W;obtain⟨o,N,O⟩:=aT J;obtain⟨tr,R,S⟩:=aT N
 have U:At (eG 0 (dZ k a f)).2 0 (eG 0 (dZ k a f)).2:=fun i y hy=>by rw[zero_add];exact hy
 have E:SpecOk Z w (fun _=>none) (eS sp (aD l)):=Pq (x _ _) (cZ Y);obtain⟨n0,r⟩:=wW.someB out
 have A:Calls Z.P M C.toArray w fun e j=>∃v,e=.returned v/\RRV Z j (wR k n0 out) v/\Below w.heap.size w j:=by
  refine mL (w0:=w) (ψ:=fun _=>none) (φ:=fun _=>none) (s:=start fn (dZ k a f)) (vs:=(eG 0 (dZ k a f)).1) E p (pN mixed E) d.at' d.body rfl (Ij _ 0 C U z) (Ox fn _ w) 2000 R _ (fun _ _=>False) (fun _ _ h=>h.elim) (yU S (Pr (n:=n0) O (L u q) r)) ?_;rintro r0 s φ v j⟨hc,r',T,h8⟩ hr hw;exact⟨v,rfl,h8 j v (Ct T hr),RepF.below hw hc⟩
 refine A.mono ?_;rintro e j⟨v,rfl,hv,X⟩;exact⟨v,rfl,fun n hn=>wW.anyB hv hn,X⟩
theorem aLd {q:List G->Option RG}{g:List G->List Prop}{u i:List Nat->Nat}(h:bI Z M (gZ k F nd u f))(E:∀a out,q a=some out->Holds (g a)->pX a f->F a=some out/\Holds (nd a))(d:∀a ns out,q a=some out->Holds (g a)->pX a ns->pX a f->RGB (i ns) out):bI Z M (gZ k q g i f):=by
 refine⟨h.1,fun ts r p l A w B n=>?_⟩;unfold gZ at l;obtain⟨o,y,j⟩:=aT l
 cases b:mX (o.map (·.2)) f with
 |false=>rw[b]at j;cases j
 |true=>
  rw[b]at j;simp only[cond_true]at j;obtain⟨out,z,D⟩:=cA j;cases D;obtain⟨J,C,x⟩:=Oi ts o f B y b n;obtain⟨k1,I⟩:=E _ out z A x;have s:=h.2 ts (wR k (u (o.map (·.2))) out) (nd (o.map (·.1))) (by unfold gZ;rw[y];simp only[Option.bind_some,b,cond_true,k1,Option.map_some]) I w B n;refine s.mono ?_;rintro e L⟨v,rfl,hv,H⟩;exact⟨v,rfl,wW.anyB hv (d _ _ out z A C x),H⟩
theorem wX (hl:cG Z l){sp:Spec}(L:∀w0 ψ,SpecOk Z w0 ψ sp){fn:Func}(j:Fn M fn){T:List Nat->Nat}(o:∀b ns out,F b=some out->Holds (nd b)->pX b ns->pX b f->RGB (T ns) out)
  {kb:PH} {nx:Nat}  (A:noFr (tA (aE fn) fn)=true)
  (h:∀ b out,F b=some out->Holds (nd b)->pX b f->∃ I:Nat->AS->Prop,
   (∃n lt,(run Z (eS sp (aD l)) (fun _=>none) (aK Z (eS sp (aD l))) nY n [.code (aE fn),.top fn] (start fn (dZ k b f))).bind (iZ k kb kt nx rb)=some lt/\lt.ok (fun g=>g=out) fun C s=>C=.code (.loop (pH (aE fn) fn))::tA (aE fn) fn/\∃m,I m s)/\
   ∀m s,I m s->∀n,∃M lt,(run Z (eS sp (aD l)) (fun _=>none) (aK Z (eS sp (aD l))) iX M (.code (pH (aE fn) fn)::.lp (pH (aE fn) fn) n::tA (aE fn) fn) s).bind (iZ k kb kt nx rb)=some lt/\lt.ok (fun g=>g=out) fun C X=>C=.lp (pH (aE fn) fn) n::tA (aE fn) fn/\∃W,W<m/\I W X):bI Z M (gZ k F nd T f):=by
 refine Dv j.en o fun b out hF E D w Y O=>?_
 obtain⟨I,⟨n,lt,z,h2⟩,hI⟩:=h b out hF E D;obtain⟨tr,h3,h4⟩:=aT z
 have hA:At (eG 0 (dZ k b f)).2 0 (eG 0 (dZ k b f)).2:=fun i y hy=>by rw[zero_add];exact hy
 have J:SpecOk Z w (fun _=>none) (eS sp (aD l)):=Pq (L _ _) (cZ hl)
 have U:∀r s φ v d,isL k (fun g=>g=out) r s->relT Z φ s.nums d r v->RepW Z w (fun _=>none) φ s d->(fun(e:Ending) (d:World)=>∃v,e=.returned v/\(∀n,RGB n out->RRV Z d (wR k n out) v)/\Below w.heap.size w d) (.returned v) d:=by
  rintro r s φ v d⟨hc,r',g,g1,g2,rfl⟩ H hw;exact⟨v,rfl,fun n u=>rgOf_ok g2 (Ct g1 H) u,RepF.below hw hc⟩
 refine mL J dG (pN mixed J) j.at' j.body rfl (Ij _ 0 Y hA O) (Ox fn _ w) n h3 (isL k fun g=>g=out) _ ?_ (Ps h4 h2) U;rintro C X⟨P,p,u,hp,rfl,m,hi⟩ q S a d N H
 match q,N with
 |.code c'::q,⟨e,B⟩=>
  subst e;have:=Sd (R:=fun(e:Ending) (d:World)=>∃v,e=.returned v/\(∀n,RGB n out->RRV Z d (wR k n out) v)/\Below w.heap.size w d) J dG U A (fun _ _ e=>by cases e) I hI m (m+1) P hi (by omega) (.lp (pH (aE fn) fn) (m+1)::q) (rst kb S) a d ⟨rfl,rfl,SR.any A B⟩ (aLe u hp (fun _ _ e=>by cases e) H);exact wp_loop_rounds (m+1) this
where
 rgOf_ok {k:Bool} {w:World} {r:RV} {g:RG} {v:Value} (h:Br k r=some g) (hv:RRV Z w r v) {n:Nat} (u:RGB n g):RRV Z w (wR k n g) v:=by
  cases r with
  |val t=>
   simp only[Br]at h;obtain⟨⟨x,m⟩,z,rfl⟩:=cA h;exact(Mq z hv).2 n u
  |tup Y=>
   simp only[Br]at h;obtain⟨b,z,rfl⟩:=cA h;obtain⟨xs,e,hx⟩:=hv;exact⟨xs,e,aHk z u hx⟩
end Ab
theorem Nm.Fz {xs:LN}{i:Nat}(h:¬i<xs.length):Nm.at' xs i=0:=by
 unfold Nm.at';rw[getD_eq_getElem?_getD,List.getElem?_eq_none (by omega)];rfl
theorem Nm.aJT (h:k<s.length)(a:Nm.at' s k=0):Nm.strip (s.take (k+1))=Nm.strip (s.take k):=by
 rw[List.take_succ_eq_append_getElem h];unfold Nm.at' at a;rw[getD_eq_getElem?_getD,getElem?_eq_getElem h]at a;rw[show s[k]=0 from a,Nm.Nq]
theorem Nm.aJS (h:k<s.length)(a:Nm.at' s k≠0):Nm.strip (s.take (k+1))=s.take (k+1):=by
 rw[List.take_succ_eq_append_getElem h];unfold Nm.at' at a;rw[getD_eq_getElem?_getD,getElem?_eq_getElem h]at a;exact Nm.Nx _ a
theorem Cm (w:World)(a:LN)(v:Value)(B:Nat)(h:cE B w a v)(z:a.length<=100000000000):
  Calls prog 62 #[v] w fun e r=>e=.returned (.int .i64 (Nm.strip a).length)/\w=r:=by
 obtain⟨s,p,rfl,j⟩:=h.shape;have o:=hid h;clear h
 go_enter func62,ntmps62
 go_wp2_with fail
 go_loop [3] (fun n=>∃k:Nat,k<=a.length/\n=.int .i64 k/\Nm.strip (a.take k)=Nm.strip a) (fun n=>(intOf n).toNat)
 case atStart=>exact⟨a.length,Nat.le_refl _,rfl,by rw[List.take_length]⟩
 case round=>
  obtain⟨k,y,rfl,l⟩:=hrel;have f:=hid l;clear l
  cases k with
  |zero=>
   have q:Hid (Nm.strip a=[]):=by have:=f.out;show _=_;rw[<-this];rfl
   go_wp2_with fail
   go_ret
   exact⟨by rw[q.out];rfl,rfl⟩
  |succ k=>
   obtain⟨g,rfl,hc⟩:=o.out.place (by omega);have i:=hc k (by omega);clear hc
   by_cases d:Nm.at' a k=0
   ·have b:=hid (Nm.aJT (by omega) d);rw[d]at i
    go_wp2_with fail
    go_round
    case rel=>exact⟨k,by omega,by simp,by rw[<-b.out,f.out]⟩
    case measure=>simp[intOf]
   ·have u:(Nm.at' a k==0)=false:=by simpa using d
    have b:=hid (show(Nm.strip a).length=k+1 by rw[<-f.out,Nm.aJS (by omega) d,length_take];omega);generalize Nm.at' a k=x at*
    go_wp2_with fail
    go_ret
    exact⟨by rw[b.out];rfl,rfl⟩
def Ba (w:World)(N:Int)(m d:Value)(wr:World):Prop:=
 ∃(k:Int) (done:LN),m=.int .u64 k/\0<=k/\k<=N/\done.length<=2/\wr.ownsRow w.heap.size 81 1 d done.length (done.map (Value.int .u32))/\Below w.heap.size w wr/\Nm.dE 4294967296 done/\(k=0->Nm.Top done)/\Nm.val 4294967296 done+k*4294967296^done.length=N/\(done.length=1->k<4294967296)/\(2<=done.length->k=0)
theorem Nz (N:Int)(w:World)(H:0<=N)(R:N<18446744073709551616):Calls prog 96 #[.int .u64 N] w (cR w fun D=>Nm.Good 4294967296 D/\Nm.val 4294967296 D=N/\D.length<=2):=by
 obtain⟨i,hi,O,o,B⟩:=info_parts kR
 go_enter func96,ntmps96
 go_wp2_with fail
 go_loopw [0,3] (fun m d wr=>Ba w N m d wr) (fun m _ _=>(intOf m).toNat)
 case atStart=>
  refine⟨N,[],rfl,H,Int.le_refl _,by simp,?_,aW (Below.refl _ _) (Nat.le_refl _) _,Nm.dE.nil _,fun _=>Nm.Top.nil,by simp[Nm.val],fun h=>by simp at h,fun h=>by simp at h⟩;exact⟨rfl,Or.inr ⟨w.heap.size,0,#[],rfl,Nat.le_refl _,vN _ _,Nat.le_refl _,by decide,rfl,rfl⟩⟩
 case round=>
  obtain⟨k,done,rfl,k0,k1,J,f,b,v,j,l,x,y⟩:=hrel;have A:=hid l;have E:=hid j;have z:=hid v;have a:=hid b;have p:=hid x;have s:=hid y;have M:=b.size;clear l j v b x y
  by_cases I:(0:Int)<k
  ·have L:done.length<=1:=by have:=s.out;omega
   go_wp2_with (at_builtin;refine wpList_append_own _ rfl _ _ 54 rfl _ 81 i (.int .u32 0) 1 4 underlying54 hi O o B rfl (by decide) _ _ _ rfl (f.alloc _) ⟨wr.heap.size,0,none⟩ 1 1 [.int .u32 (k%4294967296)] rfl rfl (cell_one_new _ _ _) (fun u F=>by simp at F;subst F;rfl) (by unfold maxLen;omega) (by omega) (by simp;omega) ?_;intro S T n g C)
   go_roundw
   case rel=>
    refine⟨k/4294967296,done++[k%4294967296],rfl,by omega,by omega,by simp;omega,by simpa using n,Fm f a.out a.out.size _ g,z.out.snoc (by omega) (by omega),?_,?_,?_,?_⟩
    ·intro h;exact Nm.aQM (by omega)
    ·rw[Nm.Ds,<-A.out,length_append,List.length_singleton,Int.pow_succ];have e:=Int.emod_add_mul_ediv k 4294967296;generalize k%4294967296=r at*;generalize k/4294967296=q at*;generalize (4294967296:Int)^done.length=P at*;clear A E z a p s;subst e;grind
    ·intro h;simp only[length_append,List.length_singleton]at h;omega
    ·intro h;simp only[length_append,List.length_singleton]at h;have:=p.out (by omega);omega
   case measure=>simp[intOf];omega
  ·obtain rfl:k=0:=by omega
   go_wp2_with fail
   go_ret
   refine⟨_,done,rfl,⟨⟨z.out,E.out (by simp)⟩,by have:=A.out;simpa using this,J⟩,f,a.out⟩
def Jb (W:World)(a b:LN)(i:Value)(wr:World):Prop:=
 ∃k:Nat,k<=a.length/\i=.int .i64 ((k:Int)-1)/\a.drop k=b.drop k/\Below W.heap.size W wr
theorem Np (w:World)(a b:LN)(u v:Value)(x:Lims w a u)(A:Lims w b v)(O:a.length<=100000000000)(D:Nm.Good 4294967296 a)(E:Nm.Good 4294967296 b):
  Calls prog 110 #[u,v] w fun e P=>e=.returned (.int .i64 (Nm.cmp (Nm.val 4294967296 a) (Nm.val 4294967296 b)))/\Below w.heap.size w P:=by
 obtain⟨R,N,rfl,H⟩:=x.shape;obtain⟨S,M,rfl,F⟩:=A.shape;have J:=hid x;have L:=hid A;have p:=hid D;have GB:=hid E;clear x A D E
 by_cases c1:(a.length:Int)<b.length
 ·rw[Nm.iV (Nm.Uf (by decide) p.out.eU GB.out (by omega))]
  go_enter func110,ntmps110
  go_wp2_with fail
  go_ret
  exact⟨rfl,Below.refl _ _⟩
 ·by_cases c3:(b.length:Int)<a.length
  ·rw[Nm.gX (Nm.Uf (by decide) GB.out.eU p.out (by omega))]
   go_enter func110,ntmps110
   go_wp2_with fail
   go_ret
   exact⟨rfl,Below.refl _ _⟩
  ·have f:a.length=b.length:=by omega
   clear c3 c1;rw[<-f];have h:=hid f;clear f
   go_enter func110,ntmps110
   go_wp2_with fail
   go_loopw [5] (fun i wr=>Jb w a b i wr) (fun i _=>(intOf i+1).toNat)
   case atStart=>exact⟨a.length,Nat.le_refl _,rfl,by rw[List.drop_length,h.out,List.drop_length],Below.refl _ _⟩
   case round=>
    obtain⟨k,U,rfl,I,j⟩:=hrel;have q:=hid I;have d:=hid j;clear I j
    cases k with
    |zero=>
     have n:Hid (Nm.cmp (Nm.val 4294967296 a) (Nm.val 4294967296 b)=0):=Nm.iU (by have:=q.out;simp at this;rw[this])
     go_wp2_with fail
     go_ret
     exact⟨by rw[n.out];rfl,d.out⟩
    |succ k=>
     obtain⟨g,rfl,hc⟩:=(J.out.below d.out).place (by omega);obtain⟨T,rfl,l⟩:=(L.out.below d.out).place (by rw[<-h.out];omega);have x1:=hc k (by omega);have x2:=l k (by rw[<-h.out];omega);clear hc l
     have o:k<b.length:=by rw[<-h.out];omega
     by_cases B:Nm.at' a k<Nm.at' b k
     ·have n:Hid (Nm.cmp (Nm.val 4294967296 a) (Nm.val 4294967296 b)=-1):=Nm.iV (Nm.aO4 (by decide) p.out.eU GB.out.eU k q.out B (by omega) o);generalize Nm.at' a k=y at*;generalize Nm.at' b k=z at*
      go_wp2_with fail
      go_quiet (fail)
      go_wp2_with fail
      go_ret
      exact⟨by rw[n.out];rfl,below_drewN d.out _⟩
     ·by_cases C:Nm.at' b k<Nm.at' a k
      ·have n:Hid (Nm.cmp (Nm.val 4294967296 a) (Nm.val 4294967296 b)=1):=Nm.gX (Nm.aO4 (by decide) GB.out.eU p.out.eU k q.out.symm C o (by omega));generalize Nm.at' a k=y at*;generalize Nm.at' b k=z at*
       go_wp2_with fail
       go_quiet (fail)
       go_wp2_with fail
       go_quiet (fail)
       go_wp2_with fail
       go_ret
       exact⟨by rw[n.out];rfl,by first|exact below_drewN d.out _|exact below_drewN (below_drewN d.out _) _⟩
      ·have s:Nm.at' a k=Nm.at' b k:=by omega
       have r:=hid (Nm.aPU h.out (by omega) q.out s);rw[<-s]at x2;clear B C s;generalize Nm.at' a k=y at*
       go_wp2_with fail
       go_quiet (fail)
       go_wp2_with fail
       go_quiet (fail)
       go_wp2_with fail
       go_roundw
       case rel=>exact⟨k,by omega,by simp,r.out,by first|exact below_drewN d.out _|exact below_drewN (below_drewN d.out _) _⟩
       case measure=>simp[intOf]
theorem Nm.Vl (h:k<s.length):(s.set k x).take (k+1)=s.take k++[x]:=by
 rw[List.take_succ_eq_append_getElem (by simpa using h),List.take_set_of_le (Nat.le_refl _)];simp
variable {a b:LN}
theorem Nm.aKT {c:Int}(g:2<=v){out:LN}(u:out.length=w+1)(l:Nm.dE v out)(j:a.length<=w)(k:b.length<=w)(d:Nm.dE v a)(e:Nm.dE v b)(c0:0<=c)
  (h:Nm.val v (out.take (w+1))+c*v^(w+1)=Nm.val v (a.take (w+1))+Nm.val v (b.take (w+1))):Nm.val v out=Nm.val v a+Nm.val v b:=by
 rw[Nm.Fl v out (by omega),Nm.Fl v a (by omega),Nm.Fl v b (by omega)]at h;have n:=Nm.xU (by omega) d;have o:=Nm.xU (by omega) e;have p:=Nm.uB (B:=v) (by omega) j;have q:=Nm.uB (B:=v) (by omega) k;have r:=Nm.rS (by omega) l;have i:=Nm.jZ (B:=v) (by omega) w;have s:2*v^w<=v*v^w:=Int.mul_le_mul_of_nonneg_right g (le_of_lt i);rw[Int.pow_succ,Int.mul_comm (v^w) v]at h
 have f:c*(v*v^w)<1*(v*v^w):=by omega
 have h8:=Int.lt_of_mul_lt_mul_right f (by omega)
 have:c=0:=by omega
 subst this;omega
variable {n:World}
theorem dR.used {G:Nat}(h:dR n G s)(g:s.length<=100000000000)(f:B<=G):cE B n (Nm.strip s) (.slice (some ⟨G,0,none⟩) (Nm.strip s).length s.length):=by
 obtain⟨a,e,d⟩:=h;have b:=Nm.xI s;refine⟨by simp,Or.inr ⟨G,s.length,a,rfl,f,e,b,by unfold maxLen;omega,?_,?_⟩⟩
 ·rw[<-Array.length_toList,d];simp
 ·rw[d,Nat.mul_one,<-List.map_take,<-Nm.Zk]
def uQ (w:World)(a b:LN)(N:Nat)(c i:Value)(wr:World):Prop:=
 ∃(k:Nat) (d:Int) (out:LN),i=.int .i64 k/\c=.int .u64 d/\0<=d/\d<=1/\k<=N+1/\dR wr w.heap.size out/\out.length=N+1/\Nm.dE 4294967296 out/\Below w.heap.size w wr/\
  Nm.val 4294967296 (out.take k)+d*4294967296^k=Nm.val 4294967296 (a.take k)+Nm.val 4294967296 (b.take k)
theorem aFp {wr:World}{out:LN}(c0:0<=v)(c1:v<=1)(o:k<w+1)(e:dR wr n.heap.size out)(g:out.length=w+1)(f:Nm.dE 4294967296 out)(d:Below n.heap.size n wr)(i:Nm.dE 4294967296 a)(j:Nm.dE 4294967296 b)
  (h:Nm.val 4294967296 (out.take k)+v*4294967296^k=Nm.val 4294967296 (a.take k)+Nm.val 4294967296 (b.take k)) (l:x=v+Nm.at' a k+Nm.at' b k):
  uQ n a b w (.int .u64 (x/4294967296)) (.int .i64 ((k:Int)+1)) (wr.setCell ⟨n.heap.size,k,none⟩ (.int .u32 (x%4294967296))):=by
 have a0:=i.at' (by decide) k;have b0:=j.at' (by decide) k;refine⟨k+1,x/4294967296,out.set k (x%4294967296),by simp,rfl,by omega,by omega,by omega,e.set _ _,by simpa using g,f.set _ (by omega) (by omega),d.setCell (by simp) _,?_⟩;rw[Nm.Vl (by omega)];exact Nm.aOe (by rw[length_take];omega) h l
theorem aJd (w:World)(a b:LN)(u v:Value)(H:Lims w a u)(I:Lims w b v)(af:a.length<=10000000000)(ag:b.length<=10000000000)(F:Nm.dE 4294967296 a)(A:Nm.dE 4294967296 b)(ai:(a.length:Int)<b.length):
  Calls prog 109 #[u,v] w (cR w fun C=>Nm.Good 4294967296 C/\Nm.val 4294967296 C=Nm.val 4294967296 a+Nm.val 4294967296 b):=by
 obtain⟨ao,ab,rfl,U⟩:=H.shape;obtain⟨bo,aa,rfl,T⟩:=I.shape;have J:=run_make_row' (P:=prog) 54 81 (.int .u32 0) 4 underlying54 kR rfl .i64 .i64 (b.length+1) (by omega) (by omega);rw[show((b.length+1:Nat):Int)=(b.length:Int)+1 by omega]at J;have W:=hid H;have M:=hid I;have D:=hid F;have GB:=hid A;clear H I F A
 go_enter func109,ntmps109
 go_wp2_with fail
 go_loopw [7,8] (fun c i wr=>uQ w a b b.length c i wr) (fun _ i _=>b.length+1-(intOf i).toNat)
 case atStart=>exact⟨0,0,List.replicate (b.length+1) 0,rfl,rfl,by omega,by omega,by omega,dR.made w _,by simp,Nm.dE.mB (by decide) _,aW (Below.refl _ _) (Nat.le_refl _) _,rfl⟩
 case round=>
  obtain⟨k,cc,out,rfl,rfl,c0,c1,hk,g,d,j,f,l⟩:=hrel
  by_cases ah:(k:Int)<(b.length:Int)+1
  ·have k1:=g.cell k (by omega);have k2:=g.frozen k;have ST:=hid (fun x hx=>aFp (x:=x) c0 c1 (by omega) g d j f D.out GB.out l hx);have a0:=D.out.at' (by decide) k;have b0:=GB.out.at' (by decide) k;have O:=hid d
   by_cases g1:(k:Int)<a.length
   ·obtain⟨F,rfl,s⟩:=(W.out.below f).place (by omega);have x1:=s k (by omega);clear s
    by_cases g2:(k:Int)<b.length
    ·obtain⟨A,rfl,p⟩:=(M.out.below f).place (by omega);have x2:=p k (by omega);clear p l d j f g;generalize Nm.at' a k=x at*;generalize Nm.at' b k=y at*;generalize Nm.at' out k=o at*;obtain⟨a1,a2⟩:=a0;obtain⟨b1,b2⟩:=b0
     go_wp2_with fail
     go_roundw
     case rel=>exact ST.out _ (by omega)
     case measure=>simp[intOf];omega
    ·exfalso;omega
   ·have z:=Nm.Fz (xs:=a) (i:=k) (by omega)
    by_cases g2:(k:Int)<b.length
    ·obtain⟨A,rfl,p⟩:=(M.out.below f).place (by omega);have x2:=p k (by omega);clear p l d j f g;generalize Nm.at' a k=x at*;generalize Nm.at' b k=y at*;generalize Nm.at' out k=o at*;obtain⟨b1,b2⟩:=b0;have q:=hid z;clear z a0
     go_wp2_with fail
     go_roundw
     case rel=>exact ST.out _ (by have:=q.out;omega)
     case measure=>simp[intOf];omega
    ·have S:=Nm.Fz (xs:=b) (i:=k) (by omega);clear l d j f g;generalize Nm.at' a k=x at*;generalize Nm.at' b k=y at*;generalize Nm.at' out k=o at*;have q:=hid z;have E:=hid S;clear z a0 S b0
     go_wp2_with fail
     go_roundw
     case rel=>
      have h:=ST.out cc (by have:=q.out;have:=E.out;omega)
      first
       |exact h
       |(rw[emod_eq_of_lt c0 (by omega)]at h;exact h)
       |(rw[emod_eq_of_lt c0 (by omega),Int.ediv_eq_zero_of_lt c0 (by omega)]at h;exact h)
     case measure=>simp[intOf];omega
  ·obtain rfl:k=b.length+1:=by omega
   have Y:=hid (Nm.aKT (by decide) d j (by omega) (by omega) D.out GB.out c0 l);have R:=hid (Cm wr out _ 0 (g.rA (by omega)) (by omega));rw[d]at R;have L:=Nm.xI out;rw[d]at L;have N:=hid (g.used (B:=w.heap.size) (by omega) (Nat.le_refl _));rw[d]at N;have X:=hid j;have r:=hid f;clear l d j f g;generalize hn:(Nm.strip out).length=n at*;clear hn
   go_wp2_with fail
   refine(R.out).mono ?_;rintro e w1⟨rfl,rfl⟩
   go_wp2_with fail
   go_ret
   exact⟨_,Nm.strip out,rfl,⟨Nm.Cq X.out,by rw[Nm.Cn,Y.out]⟩,N.out,r.out⟩
theorem aJc (w:World)(a b:LN)(u v:Value)(H:Lims w a u)(I:Lims w b v)(ag:a.length<=10000000000)(ah:b.length<=10000000000)(E:Nm.dE 4294967296 a)(F:Nm.dE 4294967296 b)(aj:¬(a.length:Int)<b.length):
  Calls prog 109 #[u,v] w (cR w fun A=>Nm.Good 4294967296 A/\Nm.val 4294967296 A=Nm.val 4294967296 a+Nm.val 4294967296 b):=by
 obtain⟨ao,ad,rfl,T⟩:=H.shape;obtain⟨bo,ab,rfl,S⟩:=I.shape;have J:=run_make_row' (P:=prog) 54 81 (.int .u32 0) 4 underlying54 kR rfl .i64 .i64 (a.length+1) (by omega) (by omega);rw[show((a.length+1:Nat):Int)=(a.length:Int)+1 by omega]at J;have U:=hid H;have W:=hid I;have C:=hid E;have GB:=hid F;clear H I E F
 go_enter func109,ntmps109
 go_wp2_with fail
 go_loopw [7,8] (fun c i wr=>uQ w a b a.length c i wr) (fun _ i _=>a.length+1-(intOf i).toNat)
 case atStart=>exact⟨0,0,List.replicate (a.length+1) 0,rfl,rfl,by omega,by omega,by omega,dR.made w _,by simp,Nm.dE.mB (by decide) _,aW (Below.refl _ _) (Nat.le_refl _) _,rfl⟩
 case round=>
  obtain⟨k,cc,out,rfl,rfl,c0,c1,hk,f,d,j,g,l⟩:=hrel
  by_cases ai:(k:Int)<(a.length:Int)+1
  ·have k1:=f.cell k (by omega);have k2:=f.frozen k;have ST:=hid (fun x hx=>aFp (x:=x) c0 c1 (by omega) f d j g C.out GB.out l hx);have a0:=C.out.at' (by decide) k;have b0:=GB.out.at' (by decide) k;have N:=hid d
   by_cases g1:(k:Int)<a.length
   ·obtain⟨E,rfl,s⟩:=(U.out.below g).place (by omega);have x1:=s k (by omega);clear s
    by_cases g2:(k:Int)<b.length
    ·obtain⟨F,rfl,z⟩:=(W.out.below g).place (by omega);have x2:=z k (by omega);clear z l d j g f;generalize Nm.at' a k=x at*;generalize Nm.at' b k=y at*;generalize Nm.at' out k=o at*;obtain⟨a1,a2⟩:=a0;obtain⟨b1,b2⟩:=b0
     go_wp2_with fail
     go_roundw
     case rel=>exact ST.out _ (by omega)
     case measure=>simp[intOf];omega
    ·have r:=Nm.Fz (xs:=b) (i:=k) (by omega);clear l d j g f;generalize Nm.at' a k=x at*;generalize Nm.at' b k=y at*;generalize Nm.at' out k=o at*;obtain⟨a1,a2⟩:=a0;have p:=hid r;clear r b0
     go_wp2_with fail
     go_roundw
     case rel=>exact ST.out _ (by have:=p.out;omega)
     case measure=>simp[intOf];omega
   ·have R:=Nm.Fz (xs:=a) (i:=k) (by omega)
    by_cases g2:(k:Int)<b.length
    ·exfalso;omega
    ·have r:=Nm.Fz (xs:=b) (i:=k) (by omega);clear l d j g f;generalize Nm.at' a k=x at*;generalize Nm.at' b k=y at*;generalize Nm.at' out k=o at*;have D:=hid R;have p:=hid r;clear R a0 r b0
     go_wp2_with fail
     go_roundw
     case rel=>
      have h:=ST.out cc (by have:=D.out;have:=p.out;omega)
      first
       |exact h
       |(rw[emod_eq_of_lt c0 (by omega)]at h;exact h)
       |(rw[emod_eq_of_lt c0 (by omega),Int.ediv_eq_zero_of_lt c0 (by omega)]at h;exact h)
     case measure=>simp[intOf];omega
  ·obtain rfl:k=a.length+1:=by omega
   have Y:=hid (Nm.aKT (by decide) d j (by omega) (by omega) C.out GB.out c0 l);have O:=hid (Cm wr out _ 0 (f.rA (by omega)) (by omega));rw[d]at O;have L:=Nm.xI out;rw[d]at L;have M:=hid (f.used (B:=w.heap.size) (by omega) (Nat.le_refl _));rw[d]at M;have X:=hid j;have q:=hid g;clear l d j g f;generalize hn:(Nm.strip out).length=n at*;clear hn
   go_wp2_with fail
   refine(O.out).mono ?_;rintro e w1⟨rfl,rfl⟩
   go_wp2_with fail
   go_ret
   exact⟨_,Nm.strip out,rfl,⟨Nm.Cq X.out,by rw[Nm.Cn,Y.out]⟩,M.out,q.out⟩
theorem aEP (w:World)(a b:LN)(u v:Value)(i:Lims w a u)(j:Lims w b v)(d:a.length<=10000000000)(e:b.length<=10000000000)(f:Nm.dE 4294967296 a)(g:Nm.dE 4294967296 b):
  Calls prog 109 #[u,v] w (cR w fun k=>Nm.Good 4294967296 k/\Nm.val 4294967296 k=Nm.val 4294967296 a+Nm.val 4294967296 b):=by
 by_cases h:(a.length:Int)<b.length
 ·exact aJd w a b u v i j d e f g h
 ·exact aJc w a b u v i j d e f g h
def Bw (w:World)(a b:LN)(c i:Value)(wr:World):Prop:=
 ∃(k:Nat) (d:Int) (out:LN),i=.int .i64 k/\c=.int .u64 d/\0<=d/\d<=1/\k<=a.length/\dR wr w.heap.size out/\out.length=a.length/\Nm.dE 4294967296 out/\Below w.heap.size w wr/\
  Nm.val 4294967296 (out.take k)+Nm.val 4294967296 (b.take k)=Nm.val 4294967296 (a.take k)+d*4294967296^k
theorem aJU {wr:World}{out:LN}{c' d:Int}(c0:0<=c')(c1:c'<=1)(l:k<a.length)(f:dR wr n.heap.size out)(h:out.length=a.length)(g:Nm.dE 4294967296 out)(e:Below n.heap.size n wr)
  (i:Nm.val 4294967296 (out.take k)+Nm.val 4294967296 (b.take k)=Nm.val 4294967296 (a.take k)+v*4294967296^k) (d0:0<=d) (d1:d<4294967296) (j:d=Nm.at' a k-Nm.at' b k-v+c'*4294967296):
  Bw n a b (.int .u64 c') (.int .i64 ((k:Int)+1)) (wr.setCell ⟨n.heap.size,k,none⟩ (.int .u32 d)):=by
 refine⟨k+1,c',out.set k d,by simp,rfl,c0,c1,by omega,f.set _ _,by simpa using h,g.set _ d0 d1,e.setCell (by simp) _,?_⟩;rw[Nm.Vl (by omega)];exact Nm.aNF (by rw[length_take];omega) i j
theorem Lj (w:World)(a b:LN)(u v:Value)(I:Lims w a u)(J:Lims w b v)(ak:a.length<=10000000000)(L:b.length<=a.length)(F:Nm.dE 4294967296 a)(H:Nm.dE 4294967296 b)(A:Nm.val 4294967296 b<=Nm.val 4294967296 a):
  Calls prog 111 #[u,v] w (cR w fun N=>Nm.Good 4294967296 N/\Nm.val 4294967296 N=Nm.val 4294967296 a-Nm.val 4294967296 b):=by
 obtain⟨ao,aj,rfl,Y⟩:=I.shape;obtain⟨bo,ai,rfl,X⟩:=J.shape;have ap:=run_make_row' (P:=prog) 54 81 (.int .u32 0) 4 underlying54 kR rfl .i64 .i64 a.length (by omega) (by omega);have HA:=hid I;have HB:=hid J;have GA:=hid F;have GB:=hid H;have C:=hid A;clear I J F H A
 go_enter func111,ntmps111
 go_wp2_with fail
 go_loopw [6,7] (fun c i wr=>Bw w a b c i wr) (fun _ i _=>a.length-(intOf i).toNat)
 case atStart=>exact⟨0,0,List.replicate a.length 0,rfl,rfl,by omega,by omega,by omega,dR.made w _,by simp,Nm.dE.mB (by decide) _,aW (Below.refl _ _) (Nat.le_refl _) _,rfl⟩
 case round=>
  obtain⟨k,U,out,rfl,rfl,c0,c1,hk,f,g,j,h,l⟩:=hrel
  by_cases am:(k:Int)<a.length
  ·have k1:=f.cell k (by omega);have k2:=f.frozen k;have ST:=hid (fun T d D E d0 d1 hd=>aJU (c':=T) (d:=d) D E (by omega) f g j h l d0 d1 hd);have a0:=GA.out.at' (by decide) k;have b0:=GB.out.at' (by decide) k;have R:=hid g;obtain⟨F,rfl,r⟩:=(HA.out.below h).place (by omega);have x1:=r k (by omega);clear r
   by_cases g2:(k:Int)<b.length
   ·obtain⟨H,rfl,s⟩:=(HB.out.below h).place (by omega);have x2:=s k (by omega);clear s l g j h f;generalize Nm.at' a k=x at*;generalize Nm.at' b k=y at*;generalize Nm.at' out k=o at*;obtain⟨a1,a2⟩:=a0;obtain⟨b1,b2⟩:=b0
    by_cases hc:x<U+y
    ·go_wp2_with fail
     go_roundw
     case rel=>exact ST.out 1 _ (by omega) (by omega) (by omega) (by omega) (by omega)
     case measure=>simp[intOf];omega
    ·go_wp2_with fail
     go_roundw
     case rel=>exact ST.out 0 _ (by omega) (by omega) (by omega) (by omega) (by omega)
     case measure=>simp[intOf];omega
   ·have W:=Nm.Fz (xs:=b) (i:=k) (by omega);clear l g j h f;generalize Nm.at' a k=x at*;generalize Nm.at' b k=y at*;generalize Nm.at' out k=o at*;obtain⟨a1,a2⟩:=a0;have q:=hid W;clear W b0
    by_cases hc:x<U
    ·go_wp2_with fail
     go_roundw
     case rel=>exact ST.out 1 _ (by omega) (by omega) (by omega) (by omega) (by have:=q.out;omega)
     case measure=>simp[intOf];omega
    ·go_wp2_with fail
     go_roundw
     case rel=>exact ST.out 0 _ (by omega) (by omega) (by omega) (by omega) (by have:=q.out;omega)
     case measure=>simp[intOf];omega
  ·obtain rfl:k=a.length:=by omega
   have z:(out.take a.length).length=a.length:=by rw[length_take];omega
   have HE:=hid (Nm.aPT (by decide) rfl z (j.take _) c0 C.out L l);have HT:=hid (show out.take a.length=out from take_of_length_le (by omega));have S:=hid (Cm wr out _ 0 (f.rA (by omega)) (by omega));rw[g]at S;have M:=Nm.xI out;rw[g]at M;have O:=hid (f.used (B:=w.heap.size) (by omega) (Nat.le_refl _));rw[g]at O;have HD:=hid j;have p:=hid h;clear l g j h f z;generalize hn:(Nm.strip out).length=n at*;clear hn
   go_wp2_with fail
   refine(S.out).mono ?_;rintro e w1⟨rfl,rfl⟩
   go_wp2_with fail
   go_ret
   exact⟨_,Nm.strip out,rfl,⟨Nm.Cq HD.out,by rw[Nm.Cn,<-HE.out.2,HT.out]⟩,O.out,p.out⟩
end Go.Proofs.YthhffdeihoofiaaGreatDoor
