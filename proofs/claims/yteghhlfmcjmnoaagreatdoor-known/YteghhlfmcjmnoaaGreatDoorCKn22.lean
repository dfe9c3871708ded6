import Derived.Test.YteghhlfmcjmnoaaGreatDoorCKn21
import Derived.Lib.ItoaNum
set_option linter.unusedSimpArgs false
set_option linter.unusedVariables false
set_option maxRecDepth 100000
set_option maxHeartbeats 2000000
namespace Go.Proofs.YteghhlfmcjmnoaaGreatDoor
open Go.RowKit
theorem aE9 {t:Rd.Tr}{st a:Rd.St}{y:Option Rd.Tr×Rd.St}(h:(bif st.okB then some (some t,a) else none)=some y):st.ok/\y=(some t,a):=by
 cases b:st.okB with
 | false=>rw [b] at h;cases h
 | true=>
  rw [b] at h;exact ⟨Rd.St.aCS b,(Option.some.inj h).symm⟩
theorem aMp (rb g cap:Nat)(ws:List Rd.Wd)(f:Nat)(B:WsOk ws)(W:Hid (Said rb g cap ws 187 6 f))(w:World)(k:Int)(st:Rd.St)(q:Option Rd.Tr)(r:Rd.St)(hR:Rdr w rb g cap ws st)(b1:st.next<1000)
  (c:Rd.nameOf ws k st (fun s=>Rd.parse ws f 6 none s)=some (q,r)):Calls Tryz.prog 186 #[.pointer (some ⟨rb,0,none⟩),.int .i64 k] w (Post rb g cap ws w q r):=by
 unfold Rd.nameOf at c;have D:=hideq B;clear B;cases A:(k==0)
 ·have P:=hR.c1;have R:=hR.fz 1;have i:=hR.set1 (st.next+1) (m:=(st.next:Int)+1) (by simp);have j:Keep rb w (w.setCell ⟨rb,1,none⟩ (.int .i64 ((st.next:Int)+1))):=(Keep.refl _ _).setCell 1 _;have S:=i.lt;cases C:(k==2)
  ·cases L:(k==3)
   ·cases O:(k==4)
    ·rw [A,C,L,O] at c;simp only [cond_false,Bool.or_self] at c;obtain ⟨x,t,u,v⟩:=aAA c;have E:=hideq u;have o:=hideq v;clear c u v
     go_enter Tryz.func186,Tryz.ntmps186
     go_wp2_with fail
     refine (W.out _ st.adv x t i E.out).mono ?_;rintro e I ⟨N,rfl,l,d,a⟩;have M:=d.lt;clear hR i P R
     cases x with
     | none=>
      rw [show N=Value.pointer none from l];clear l;have e:=o.out;simp only [Rd.unaryOf,Option.some.injEq,Prod.mk.injEq] at e;obtain ⟨rfl,rfl⟩:=e
      go_wp2_with fail
      refine (aH0 _ _ _).mono ?_;rintro e U ⟨rfl,rfl⟩
      go_wp2_with fail
      go_ret
      exact Post.nil d (j.trans a)
     | some x=>
      obtain ⟨⟨X,p⟩,y⟩:=l;rw [p];rw [p] at y;clear p;obtain ⟨F,n⟩:=aJ3 o.out;simp only [Prod.mk.injEq] at n;obtain ⟨rfl,rfl⟩:=n;clear o
      go_wp2_with fail
      refine (aFV _ rb g cap ws t _ _ d F).mono ?_;rintro e U ⟨rfl,J,z,h⟩
      go_wp2_with fail
      go_ret
      exact ⟨_,rfl,aBQ (by omega) h (Or.inl ⟨rfl,rfl⟩) (Enc.keep z y) rfl,J,(j.trans a).trans z⟩
    ·rw [A,C,L,O] at c;simp only [cond_true,cond_false,Bool.or_self] at c;have T:=hideq c;clear c
     go_enter Tryz.func186,Tryz.ntmps186
     go_wp2_with fail
     refine (aGe _ rb g cap ws st.adv i D.out q r T.out).mono ?_;rintro e I ⟨N,rfl,l,d,a⟩
     go_wp2_with fail
     go_ret
     exact ⟨_,rfl,l,d,j.trans a⟩
   ·rw [A,C,L] at c;simp only [cond_true,cond_false,Bool.or_true] at c;obtain ⟨H,n⟩:=aE9 c;simp only [Prod.mk.injEq] at n;obtain ⟨rfl,rfl⟩:=n;clear c
    go_enter Tryz.func186,Tryz.ntmps186
    go_wp2_with fail
    refine (aEH _ rb g cap ws st.adv _ (i.alloc _) H).mono ?_;rintro e I ⟨rfl,d,a⟩;have h:=aCV (b:=w.heap.size) a (aCO _ _ _).symm (by have:=hR.lt;omega)
    go_wp2_with fail
    go_ret
    exact ⟨_,rfl,aBQ (by have:=hR.lt;omega) h (Or.inl ⟨rfl,rfl⟩) rfl rfl,d,(j.alloc _).trans a⟩
  ·rw [A,C] at c;simp only [cond_true,cond_false,Bool.true_or] at c;obtain ⟨H,n⟩:=aE9 c;simp only [Prod.mk.injEq] at n;obtain ⟨rfl,rfl⟩:=n;clear c
   go_enter Tryz.func186,Tryz.ntmps186
   go_wp2_with fail
   refine (aEH _ rb g cap ws st.adv _ (i.alloc _) H).mono ?_;rintro e I ⟨rfl,d,a⟩;have h:=aCV (b:=w.heap.size) a (aCO _ _ _).symm (by have:=hR.lt;omega)
   go_wp2_with fail
   go_ret
   exact ⟨_,rfl,aBQ (by have:=hR.lt;omega) h (Or.inl ⟨rfl,rfl⟩) rfl rfl,d,(j.alloc _).trans a⟩
 ·rw [A] at c;simp only [cond_true,Option.some.injEq,Prod.mk.injEq] at c;obtain ⟨rfl,rfl⟩:=c
  go_enter Tryz.func186,Tryz.ntmps186
  go_wp2_with fail
  go_ret
  exact Post.nil hR (Keep.refl _ _)
theorem aLg (rb g cap:Nat)(ws:List Rd.Wd)(f:Nat)(n:WsOk ws)(I:Hid (∀ k,k<f->Said rb g cap ws 187 6 k)):Said rb g cap ws 170 5 f:=by
 intro w i r s o a
 obtain ⟨l,rfl⟩:∃ l,f=l+1:=by
  cases f with
  | zero=>cases a
  | succ l=>exact ⟨l,rfl⟩
 rw [Rd.parse] at a
 cases u:i.okB with
 | false=>rw [u] at a;cases a
 | true=>
  rw [u] at a;simp only [cond_true] at a;have t:=Rd.St.aCS u;have J:i.next<1000:=t.1;clear u t;have p:=n i.next;have y:=hideq n;clear n
  have z:Hid (∀ W,Rdr W rb g cap ws i->Calls Tryz.prog 65 #[.pointer (some ⟨rb,0,none⟩)] W fun e D=>e=.returned (.agg #[.int .i64 (Rd.wordAt ws i.next).kind,.string (Rd.wordAt ws i.next).text,.int .i64 (Rd.wordAt ws i.next).pos])/\Below W.heap.size W D):=fun W hW=>aCR W rb g cap ws i hW
  generalize Rd.wordAt ws i.next=x at*;have A:=hideq p;clear p;cases v:(x.kind==1)
  ·cases H:(x.kind==2)
   ·rw [v,H] at a;simp only [cond_false] at a;have B:=hideq a;clear a
    go_enter Tryz.func170,Tryz.ntmps170
    go_wp2_with fail
    refine (z.out _ o).mono ?_;rintro e C ⟨rfl,d⟩;have c:=o.below d
    go_wp2_with fail
    refine (I.out l (by omega) _ i r s (c.alloc _) B.out).mono ?_;rintro e F ⟨N,rfl,m,j,h⟩
    go_wp2_with fail
    go_ret
    exact ⟨_,rfl,m,j,((Keep.aAi d).alloc _).trans h⟩
   ·rw [v,H] at a;simp only [cond_true,cond_false] at a;have B:=hideq a;clear a;have L:=hideq (I.out l (by omega))
    go_enter Tryz.func170,Tryz.ntmps170
    go_wp2_with fail
    refine (z.out _ o).mono ?_;rintro e C ⟨rfl,d⟩;have c:=o.below d
    go_wp2_with (go_at_call 185;refine (aMq _ _).mono ?_;rintro e D ⟨rfl,rfl⟩)
    refine (aMp rb g cap ws l y.out L _ _ i r s (c.alloc _) J B.out).mono ?_;rintro e F ⟨N,rfl,m,j,h⟩
    go_wp2_with fail
    go_ret
    exact ⟨_,rfl,m,j,((Keep.aAi d).alloc _).trans h⟩
  ·have M:x.text.size<=9:=A.out (by simpa using v);rw [v] at a;simp only [cond_true] at a;obtain ⟨t,E⟩:=aE9 a;simp only [Prod.mk.injEq] at E;obtain ⟨rfl,rfl⟩:=E;clear a
   go_enter Tryz.func170,Tryz.ntmps170
   go_wp2_with fail
   refine (z.out _ o).mono ?_;rintro e C ⟨rfl,d⟩;have c:=o.below d;have O:=c.c1;have P:=c.fz 1;have R:=c.lt
   go_wp2_with (go_at_call 183;refine (aFw _ _ _ _ M).mono ?_;rintro e D ⟨rfl,rfl⟩)
   refine (aEH _ rb g cap ws i.adv _ ((((c.set1 (i.next+1) (by simp)).alloc _).alloc _).alloc _) t).mono ?_;rintro e F ⟨rfl,j,h⟩;have q:=aCV (b:=C.heap.size+1+1) h (by simp [aCO]) (by omega)
   go_wp2_with fail
   go_ret
   exact ⟨_,rfl,aBQ (by omega) q (Or.inl ⟨rfl,rfl⟩) rfl rfl,j,(((((Keep.aAi d).setCell 1 _).alloc _).alloc _).alloc _).trans h⟩
open Go.RowKit
theorem aDA (rb g cap:Nat)(ws:List Rd.Wd)(b:WsOk ws):∀ n f,f<=n->
  Said rb g cap ws 64 0 f/\Said rb g cap ws 98 2 f/\Said rb g cap ws 142 4 f/\Said rb g cap ws 170 5 f/\Said rb g cap ws 187 6 f:=by
 intro n
 induction n with
 | zero=>
  intro f c
  obtain rfl:f=0:=by omega
  refine ⟨?_,?_,?_,?_,?_⟩<;>(intro w i d e _ h;cases h)
 | succ n ih=>
  intro f c
  have a:∀ k,k<f->k<=n:=fun k hk=>by omega
  exact ⟨aOM rb g cap ws f (fun k hk=>(ih k (a k hk)).2.1),aHD rb g cap ws f (fun k hk=>(ih k (a k hk)).2.2.1),
   aIE rb g cap ws f (fun k hk=>(ih k (a k hk)).2.2.1) (fun k hk=>(ih k (a k hk)).2.2.2.1),
   aLg rb g cap ws f b (fun k hk=>(ih k (a k hk)).2.2.2.2),aF6 rb g cap ws f (fun k hk=>(ih k (a k hk)).1)⟩
theorem aIx (s:ByteArray)(a:Nat):∀ f e,e<=a+9->Rd.numEnd s a f e<=a+9:=by
 intro f
 induction f with
 | zero=>intro e h;exact h
 | succ f ih=>
  intro e h;unfold Rd.numEnd
  cases b:decide (e<s.size/\e-a<9)&&Rd.isDig (Rd.byteAt s e) with
  | false=>exact h
  | true=>
   simp only [Bool.and_eq_true,decide_eq_true_eq] at b;exact ih (e+1) (by omega)
theorem aKW (s:ByteArray):∀ f a,∀ x∈Rd.split s f a,x.kind=1->x.text.size<=9:=by
 intro f
 induction f with
 | zero=>intro a x hx;simp [Rd.split] at hx
 | succ f ih=>
  intro a x hx;rw [Rd.split] at hx
  cases d:decide (a<s.size) with
  | false=>
   rw [d] at hx;simp at hx;subst hx;intro h;simp at h
  | true=>
   rw [d] at hx;simp only [decide_eq_true_eq] at d
   cases e:(Rd.byteAt s a != 32) with
   | false=>
    rw [e] at hx;exact ih _ x hx
   | true=>
    rw [e] at hx;simp only [cond_true,List.mem_cons] at hx
    rcases hx with rfl | hx
    ·intro c;simp only at c
     have b:Rd.isDig (Rd.byteAt s a)=true:=by
      cases b:Rd.isDig (Rd.byteAt s a) with
      | true=>rfl
      | false=>
       rw [Rd.kindOf,b] at c
       cases g:Rd.isLet (Rd.byteAt s a)<;>simp [g] at c
     have i:Rd.wordEnd s a<=a+9:=by
      rw [Rd.wordEnd,b];exact aIx s a 9 (a+1) (by omega)
     show (s.extract a (Rd.wordEnd s a)).size<=9;rw [ByteArray.size_extract];omega
    ·exact ih _ x hx
theorem aJP (s:ByteArray)(f a:Nat):WsOk (Rd.split s f a):=by
 intro n b;unfold Rd.wordAt at*
 rcases Nat.lt_or_ge n (Rd.split s f a).length with h | h
 ·rw [show (Rd.split s f a).getD n ⟨0,⟨#[]⟩,0⟩=(Rd.split s f a)[n] by simp [List.getD,h]] at*;exact aKW s f a _ (List.getElem_mem h) b
 ·rw [show (Rd.split s f a).getD n ⟨0,⟨#[]⟩,0⟩=⟨0,⟨#[]⟩,0⟩ by simp [List.getD,h]] at b;simp at b
theorem aNb (s:ByteArray):∀ f a,s.size<f+a->a<=s.size->0<(Rd.split s f a).length:=by
 intro f
 induction f with
 | zero=>intro a h d;omega
 | succ f ih=>
  intro a h d;rw [Rd.split]
  cases b:decide (a<s.size) with
  | false=>simp
  | true=>
   simp only [decide_eq_true_eq] at b
   cases g:(Rd.byteAt s a != 32) with
   | true=>simp
   | false=>
    have e:=Rd.aCc s a;have c:=Rd.aCb s a b;exact ih _ (by omega) c
theorem aGu (s:ByteArray)(w:World)(hs:s.size<=120):
  Calls Tryz.prog 63 #[.string s] w fun e w'=>∃ rb g cap,e=.returned (.pointer (some ⟨rb,0,none⟩))/\w.heap.size<=rb/\Rdr w' rb g cap (Rd.split s (s.size+1) 0) ⟨0,0,0,0⟩/\Below w.heap.size w w':=by
 have j:=aNb s (s.size+1) 0 (by omega) (by omega);have n:=hideq (aM8 s w hs);generalize Rd.split s (s.size+1) 0=ws at*
 go_enter Tryz.func63,Tryz.ntmps63
 go_wp2_with fail
 refine (n.out).mono ?_;rintro e l ⟨v,rfl,c,m⟩
 obtain ⟨g,cap,a,k,x,i,b⟩:∃ g cap a,v=.slice (some ⟨g,0,none⟩) ws.length cap/\w.heap.size<=g/\l.heap[g]?=some (.cells a 127 (0,0))/\a.toList.take (ws.length*3)=Rd.wcells ws:=by
  rcases c.2 with ⟨_,h⟩ | ⟨g,cap,a,q,r,t,_,_,_,u⟩
  ·omega
  ·exact ⟨g,cap,a,q,r,t,u⟩
 rw [k];have d:=m.size;have f:=aAL i;have o:=hideq i;have p:=hideq b;clear k c i b
 go_wp2_with fail
 go_ret
 refine ⟨l.heap.size,g,cap,rfl,d,⟨aAr _ _,⟨a,?_,p.out⟩,by omega⟩,m.alloc d _⟩;rw [Below.heap_alloc _ _ _ f];exact o.out
theorem aCw {B rb:Nat}{w w1 w2:World}(h:Below B w w1)(hk:Keep rb w1 w2)(hB:B<=rb)(hs:B<=w1.heap.size):Below B w w2:=
 h.trans ⟨hk.os,hk.tape,hk.output,hk.size,fun k hk'=>hk.block k (by omega) (by omega)⟩
def ReadPost (w:World)(x:Option Rd.Tr×Int×Int)(e:Ending)(w':World):Prop:=
 ∃ rb v,e=.returned (.tuple #[v,.int .i64 x.2.1,.int .i64 x.2.2])/\w.heap.size<=rb/\EncO rb w' x.1 v/\Below w.heap.size w w'
theorem aHY (f:Nat)(s:ByteArray)(w:World)(x:Option Rd.Tr×Int×Int)(U:s.size<=maxLen)(o:Rd.read f s=some x):Calls Tryz.prog 36 #[.string s] w (ReadPost w x):=by
 unfold maxLen at U;unfold Rd.read at o
 by_cases S:120<s.size
 ·rw [decide_eq_true S] at o;simp only [cond_true,Option.some.injEq] at o;subst o
  go_enter Tryz.func36,Tryz.ntmps36
  go_wp2_with fail
  go_ret3
  exact ⟨_,_,rfl,Nat.le_refl _,rfl,Below.refl _ _⟩
 ·rw [decide_eq_false S] at o;simp only [cond_false] at o;have C:=aJP s (s.size+1) 0;generalize T:Rd.parse (Rd.split s (s.size+1) 0) f 0 none ⟨0,0,0,0⟩=R at o;have D:=hideq (aGu s w (by omega));generalize Rd.split s (s.size+1) 0=ws at*;have A:=hideq C;have B:=hideq T;clear C T
  cases R with
  | none=>cases o
  | some y=>
   obtain ⟨t,r⟩:=y
   have E:Hid (∀ W p g k,Rdr W p g k ws r->Calls Tryz.prog 65 #[.pointer (some ⟨p,0,none⟩)] W fun e w'=>e=.returned (.agg #[.int .i64 (Rd.wordAt ws r.next).kind,.string (Rd.wordAt ws r.next).text,.int .i64 (Rd.wordAt ws r.next).pos])/\Below W.heap.size W w'):=fun W p g k hW=>aCR W p g k ws r hW
   cases t with
   | none=>
    simp only [Option.some.injEq] at o;generalize Rd.wordAt ws r.next=x at*;subst o
    go_enter Tryz.func36,Tryz.ntmps36
    go_wp2_with fail
    refine (D.out).mono ?_;rintro e I ⟨p,g,k,rfl,j,l,c⟩
    go_wp2_with fail
    refine ((aDA p g k ws A.out f f (Nat.le_refl _)).1 _ _ _ r l B.out).mono ?_;rintro e J ⟨F,rfl,q,m,n⟩;have b:=aCw c n j c.size;have i:=b.size;rw [show F=Value.pointer none from q]
    go_wp2_with fail
    refine (E.out _ _ _ _ m).mono ?_;rintro e w3 ⟨rfl,a⟩;have z:=a.size
    go_wp2_with fail
    go_quiet (fail)
    go_wp2_with fail
    go_ret3
    exact ⟨p,_,rfl,j,rfl,below_drewN ((b.trans (a.mono i)).alloc (by omega) _) _⟩
   | some t=>
    simp only at o;generalize Rd.wordAt ws r.next=x at*;cases L:(x.kind==0)
    ·have M:(x.kind != 0)=true:=by simp [bne,L]
     rw [L] at o;simp only [cond_false,Option.some.injEq] at o;subst o
     go_enter Tryz.func36,Tryz.ntmps36
     go_wp2_with fail
     refine (D.out).mono ?_;rintro e I ⟨p,g,k,rfl,j,l,c⟩
     go_wp2_with fail
     refine ((aDA p g k ws A.out f f (Nat.le_refl _)).1 _ _ _ r l B.out).mono ?_;rintro e J ⟨F,rfl,q,m,n⟩;have b:=aCw c n j c.size;have i:=b.size;obtain ⟨⟨H,h⟩,u⟩:=q;rw [h];rw [h] at u;clear h
     go_wp2_with fail
     refine (E.out _ _ _ _ m).mono ?_;rintro e w3 ⟨rfl,a⟩;have z:=a.size;have v:Below w.heap.size w w3:=b.trans (a.mono i);have d:=m.below a;have N:=d.c3;have O:=d.c4;have P:=d.lt;clear c l n b
     go_wp2_with fail
     go_quiet (fail)
     go_wp2_with fail
     go_ret3
     exact ⟨p,_,rfl,j,rfl,below_drewN (v.alloc (by omega) _) _⟩
    ·have M:(x.kind != 0)=false:=by simp [bne,L]
     rw [L] at o;simp only [cond_true] at o
     by_cases X:(12:Int)<r.deepest
     ·rw [decide_eq_true (show 12<r.deepest by omega)] at o;simp only [Bool.true_or,cond_true,Option.some.injEq] at o;subst o
      go_enter Tryz.func36,Tryz.ntmps36
      go_wp2_with fail
      refine (D.out).mono ?_;rintro e I ⟨p,g,k,rfl,j,l,c⟩
      go_wp2_with fail
      refine ((aDA p g k ws A.out f f (Nat.le_refl _)).1 _ _ _ r l B.out).mono ?_;rintro e J ⟨F,rfl,q,m,n⟩;have b:=aCw c n j c.size;have i:=b.size;obtain ⟨⟨H,h⟩,u⟩:=q;rw [h];rw [h] at u;clear h
      go_wp2_with fail
      refine (E.out _ _ _ _ m).mono ?_;rintro e w3 ⟨rfl,a⟩;have z:=a.size;have v:Below w.heap.size w w3:=b.trans (a.mono i);have d:=m.below a;have N:=d.c3;have O:=d.c4;have P:=d.lt;clear c l n b
      go_wp2_with fail
      go_ret3
      exact ⟨p,_,rfl,j,rfl,v.alloc (by omega) _⟩
     ·rw [decide_eq_false (show ¬12<r.deepest by omega)] at o
      by_cases Y:(40:Int)<r.nodes
      ·rw [decide_eq_true (show 40<r.nodes by omega)] at o;simp only [Bool.or_true,cond_true,Option.some.injEq] at o;subst o
       go_enter Tryz.func36,Tryz.ntmps36
       go_wp2_with fail
       refine (D.out).mono ?_;rintro e I ⟨p,g,k,rfl,j,l,c⟩
       go_wp2_with fail
       refine ((aDA p g k ws A.out f f (Nat.le_refl _)).1 _ _ _ r l B.out).mono ?_;rintro e J ⟨F,rfl,q,m,n⟩;have b:=aCw c n j c.size;have i:=b.size;obtain ⟨⟨H,h⟩,u⟩:=q;rw [h];rw [h] at u;clear h
       go_wp2_with fail
       refine (E.out _ _ _ _ m).mono ?_;rintro e w3 ⟨rfl,a⟩;have z:=a.size;have v:Below w.heap.size w w3:=b.trans (a.mono i);have d:=m.below a;have N:=d.c3;have O:=d.c4;have P:=d.lt;clear c l n b
       go_wp2_with fail
       go_ret3
       exact ⟨p,_,rfl,j,rfl,v.alloc (by omega) _⟩
      ·rw [decide_eq_false (show ¬40<r.nodes by omega)] at o;simp only [Bool.or_false,cond_false,Option.some.injEq] at o;subst o
       go_enter Tryz.func36,Tryz.ntmps36
       go_wp2_with fail
       refine (D.out).mono ?_;rintro e I ⟨p,g,k,rfl,j,l,c⟩
       go_wp2_with fail
       refine ((aDA p g k ws A.out f f (Nat.le_refl _)).1 _ _ _ r l B.out).mono ?_;rintro e J ⟨F,rfl,q,m,n⟩;have b:=aCw c n j c.size;have i:=b.size;obtain ⟨⟨H,h⟩,u⟩:=q;rw [h];rw [h] at u;clear h
       go_wp2_with fail
       refine (E.out _ _ _ _ m).mono ?_;rintro e w3 ⟨rfl,a⟩;have z:=a.size;have v:Below w.heap.size w w3:=b.trans (a.mono i);have d:=m.below a;have N:=d.c3;have O:=d.c4;have P:=d.lt;clear c l n b
       go_wp2_with fail
       go_ret3
       exact ⟨p,_,rfl,j,⟨⟨H,rfl⟩,Enc.keep ((Keep.aAi a).alloc _) u⟩,v.alloc (by omega) _⟩
open Go.RowKit
def ExprAt (B:Nat)(w:World)(x:Option Rd.Tr)(v:Value):Prop:=
 match x with
 | none=>v=.pointer none
 | some t=>∃ rb xb rv,v=.pointer (some ⟨xb,0,none⟩)/\B<=rb/\B<=xb/\w.heap[xb]?=some (.cells #[rv] 74 (0,0))/\EncO rb w (some t) rv
def ExprPost (w:World)(x:Option Rd.Tr×Int×Int)(e:Ending)(w':World):Prop:=
 ∃ v,e=.returned (.tuple #[v,.int .i64 x.2.1,.int .i64 x.2.2])/\ExprAt w.heap.size w' x.1 v/\Below w.heap.size w w'
theorem aRp {f:Nat}{s:ByteArray}{x:Option Rd.Tr×Int×Int}(h:Rd.read f s=some x):(x.1=none/\(x.2.1 != 0)=true)\/(∃ t,x=(some t,0,0)):=by
 unfold Rd.read at h
 cases d:decide (120<s.size) with
 | true=>
  rw [d] at h;simp only [cond_true,Option.some.injEq] at h;subst h;exact Or.inl ⟨rfl,rfl⟩
 | false=>
  rw [d] at h;simp only [cond_false] at h;split at h
  ·cases h
  ·simp only [Option.some.injEq] at h;subst h;exact Or.inl ⟨rfl,rfl⟩
  ·rename_i t a _;generalize ((Rd.wordAt (Rd.split s (s.size+1) 0) a.next).kind==0)=b at h;generalize (decide (12<a.deepest)||decide (40<a.nodes))=c at h;cases b
   ·simp only [cond_false,Option.some.injEq] at h;subst h;exact Or.inl ⟨rfl,rfl⟩
   ·cases c
    ·simp only [cond_true,cond_false,Option.some.injEq] at h;exact Or.inr ⟨t,h.symm⟩
    ·simp only [cond_true,Option.some.injEq] at h;subst h;exact Or.inl ⟨rfl,rfl⟩
theorem aHk (f:Nat)(s:ByteArray)(w:World)(x:Option Rd.Tr×Int×Int)(j:s.size<=maxLen)(h:Rd.read f s=some x):Calls Tryz.prog 19 #[.string s] w (ExprPost w x):=by
 have k:=hideq (aHY f s w x j h)
 rcases aRp h with ⟨l,p⟩ | ⟨t,rfl⟩
 ·obtain ⟨t,q,r⟩:=x;simp only at l p;subst l;clear h j
  go_enter Tryz.func19,Tryz.ntmps19
  go_wp2_with fail
  refine (k.out).mono ?_;rintro e m ⟨n,v,rfl,d,o,g⟩
  go_wp2_with fail
  go_ret3
  exact ⟨_,rfl,rfl,g⟩
 ·clear h j
  go_enter Tryz.func19,Tryz.ntmps19
  go_wp2_with fail
  refine (k.out).mono ?_;rintro e m ⟨n,v,rfl,d,o,g⟩;obtain ⟨⟨b,i⟩,c⟩:=o;rw [i];rw [i] at c;clear i;have a:=g.size
  go_wp2_with fail
  go_ret3
  exact ⟨_,rfl,⟨n,m.heap.size,_,rfl,d,a,aAr _ _,⟨b,rfl⟩,Enc.keep ((Keep.refl _ _).alloc _) c⟩,g.alloc a _⟩
open Go.RowKit
theorem aCM {w:World}{B e size n:Nat}{v:Value}{xs:List Value}(h:w.ownsRow B e size v n xs):∃ ao ln cp,v=.slice ao ln cp:=by
 rcases h.2 with ⟨rfl,_⟩ | ⟨g,a,b,rfl,_⟩
 ·exact ⟨_,_,_,rfl⟩
 ·exact ⟨_,_,_,rfl⟩
theorem aF8 {w:World}{a:Addr}{v:Value}(h:w.cell? a=some v):a.block<w.heap.size:=by
 unfold World.cell? at h;split at h
 ·rename_i e;exact aAL e
 ·cases h
theorem aHR {ts:List Int}{c:Nat}(h:c<ts.length):ts.take (c+1)=ts.take c++[ts[c]]:=(List.take_append_getElem h).symm
def cstRel (w:World)(ts:List Int)(l i:Value)(wr:World):Prop:=
 ∃ c:Nat,c<=ts.length/\i=.int .i64 c/\wr.ownsRow w.heap.size 3 1 l c ((ts.take c).map (Value.int .i64))/\Below w.heap.size w wr
theorem aGd (w:World)(b:Nat)(kd x:Int)(ts:List Int)(ao:Option Addr)(cap:Nat)(lv rv:Value)(T:ts.length<=1000)(s:w.heap[b]?=some (.cells #[.int .i64 kd,.int .i64 x,.slice ao ts.length cap,lv,rv] 163 (0,0)))(E:∀ k,(h:k<ts.length)->∃ tb,ao=some ⟨tb,0,none⟩/\w.cell? ⟨tb,k,none⟩=some (.int .i64 ts[k])):
  Calls Tryz.prog 103 #[.pointer (some ⟨b,0,none⟩)] w fun e w'=>∃ l,∃ m,e=.returned (.pointer (some ⟨m,0,none⟩))/\w'.ownsRow w.heap.size 3 1 l ts.length (ts.map (Value.int .i64))/\w'.heap[m]?=some (.cells #[.int .i64 kd,.bool false,.slice none 0 0,.bool false,.slice none 0 0,l,.pointer none,.pointer none] 93 (0,0))/\Below w.heap.size w w':=by
 obtain ⟨i,J,L,j,A⟩:=info_parts infoInt;have C:w.cell? ⟨b,0,none⟩=some (.int .i64 kd):=aAa s rfl;have D:w.cell? ⟨b,2,none⟩=some (.slice ao ts.length cap):=aAa s rfl;have F:=aAL s;clear s
 go_enter Tryz.func103,Tryz.ntmps103
 go_wp2_with fail
 go_loopw [3,4] (fun l i wr=>cstRel w ts l i wr) (fun _ i _=>ts.length-(intOf i).toNat)
 case atStart=>
  refine ⟨0,Nat.zero_le _,rfl,⟨rfl,Or.inr ⟨w.heap.size,0,#[],rfl,Nat.le_refl _,aAr _ _,Nat.le_refl _,by decide,rfl,rfl⟩⟩,(Below.refl _ _).alloc (Nat.le_refl _) _⟩
 case round=>
  obtain ⟨c,M,rfl,d,a⟩:=hrel;have t:=a.size;have N:=(a.cell (aF8 C)).trans C;have O:=(a.cell (aF8 D)).trans D
  by_cases r:c<ts.length
  ·obtain ⟨tb,rfl,B⟩:=E c r;have P:=(a.cell (aF8 B)).trans B;have H:=hid (aHR r);obtain ⟨o,p,q,rfl⟩:=aCM d
   have v:(c:Int)<ts.length:=by omega
   clear B E;generalize ts[c]=x at*
   go_wp2_with (at_builtin;(refine wpList_append_own _ rfl _ _ 91 rfl w.heap.size 3 i (.int .i64 0) 1 8 Tryz.underlying91 J L j A rfl (by decide) _ _ _ rfl (d.alloc _) ⟨wr.heap.size,0,none⟩ 1 1 [.int .i64 x] rfl rfl (cell_one_new _ _ _) (fun u hu=>by simp at hu;subst hu;rfl) (by unfold maxLen;omega) (by omega) (by simp;omega) ?_;intro R S g f n;have I:=hid (aBV d a a.size _ f);have y:=hid g;clear n f g))
   go_roundw
   case rel=>
    refine ⟨c+1,by omega,by go_num,?_,I.out⟩;rw [H.out,List.map_append];exact y.out
   case measure=>simp [intOf];omega
  ·have z:c=ts.length:=by omega
   have v:¬(c:Int)<ts.length:=by omega
   have y:=hid d;obtain ⟨o,p,q,rfl⟩:=aCM d;clear d
   go_wp2_with fail
   go_ret
   refine ⟨_,_,rfl,?_,aAr _ _,a.alloc t _⟩;have:=(y.out).alloc (.cells #[.int .i64 kd,.bool false,.slice none 0 0,.bool false,.slice none 0 0,.slice o p q,.pointer none,.pointer none] 93 (0,0));rw [z,List.take_length] at this;exact this
open Go.RowKit
namespace Ab
open Rf (Nd Inv NInv Wt)
def sT (kd x:Int)(tv lv rv:Value)(tm:List AT):AS:=⟨tm,[(0,ext [.int .i64 kd,.sint .i64 x,.lit tv,.lit lv,.lit rv] 163)],1,[],[]⟩
def sU (tm:List AT):AS:=⟨tm,[],0,[],[]⟩
def stT (ks:List (K (List AT))):Bool:=atOp (fun o=>opCalls 66 o||opCalls 103 o||opCalls 104 o||opCalls 105 o||opCalls 106 o) ks
abbrev ofT:List AT:=P0::List.replicate 78 .und
noncomputable def tRun (kt:List Nat)(ks:List (K (List AT)))(s:AS):Option XT:=(run Z (tabSp tP) bP (drawA Z (tabSp tP)) stT 400 ks s).bind (outX (nrm [0] [] 1 []) (nrm [0] kt 1 []))
noncomputable def tK':List (K (List AT)):=[.code (bodyOf Tryz.f66),.top Tryz.f66]
noncomputable def tTail (ks:List (K (List AT)))(s:AS):Option Tr:=run Z (tabSp tP) bP (drawA Z (tabSp tP)) (fun _=>false) 50 ks s
abbrev tuT (v:Value)(e:Int):AT:=tupE (.lit v) e
noncomputable def o1 (x:Int)(tv lv rv:Value):Option Tr:=run Z (tabSp tP) bP (drawA Z (tabSp tP)) (fun _=>false) 400 tK' (sT 1 x tv lv rv ofT)
noncomputable def o1S (x:Int)(tv lv rv:Value):AS:=(((o1 x tv lv rv).bind (leafT [])).map (·.2)).getD ⟨[],[],0,[],[]⟩
section
variable (x kd e:Int) (tv lv rv v v1 v2:Value)
theorem u_1:o1 x tv lv rv=some (.need [x.natAbs<1000000000000000000] (.ret (tupE (.ptr 2 0) 0) (o1S x tv lv rv))):=by kernel_rfl
theorem u_1p:IsPt (o1S x tv lv rv) 2 1 [x,1] (.lit nilP) (.lit nilP):=⟨by kernel_rfl,by kernel_rfl⟩
theorem u_1c:clean (o1S x tv lv rv)=true:=by kernel_rfl
theorem u_C {kd:Int}(h:kd=2\/kd=3\/kd=4):tRun [25] tK' (sT kd x tv lv rv ofT)=some (.stp (bef (pD 26) Tryz.f66) (sT kd x tv lv rv (slot [(25,P0)] 0 79))):=by
 rcases h with rfl | rfl | rfl<;>kernel_rfl
theorem u_L {kd:Int}(h:kd=5\/kd=6\/kd=7\/kd=8\/kd=9\/kd=10\/kd=11\/kd=12\/kd=13):tRun [0,31] tK' (sT kd x tv lv rv ofT)=some (.stp (bef (pD 32) Tryz.f66) (sT kd x tv lv rv (slot [(0,P0),(31,litT lv)] 0 79))):=by
 rcases h with rfl | rfl | rfl | rfl | rfl | rfl | rfl | rfl | rfl<;>kernel_rfl
theorem u_L5:(tTail (aft (pD 32) Tryz.f66) (sU (slot [(32,tuT nilP 5)] 0 79))).bind retL=some (tuT nilP 5,true):=by kernel_rfl
theorem u_M:tRun [44] (aft (pD 32) Tryz.f66) (sT 5 x tv lv rv (slot [(0,P0),(32,tuT v1 0)] 0 79))=some (.stp (bef (pD 45) Tryz.f66) (sT 5 x tv lv rv (slot [(44,litT v1)] 0 79))):=by kernel_rfl
theorem u_F {kd:Int}(h:kd=10\/kd=11\/kd=12\/kd=13):tRun [54,55] (aft (pD 32) Tryz.f66) (sT kd x tv lv rv (slot [(0,P0),(32,tuT v1 0)] 0 79))=some (.stp (bef (pD 56) Tryz.f66) (sT kd x tv lv rv (slot [(54,.val (.one (.int .i64 kd))),(55,litT v1)] 0 79))):=by
 rcases h with rfl | rfl | rfl | rfl<;>kernel_rfl
theorem u_B (kk:Rf.Kind):tRun [0,4,63] (aft (pD 32) Tryz.f66) (sT (kdK kk) x tv lv rv (slot [(0,P0),(32,tuT v1 0)] 0 79))=some (.stp (bef (pD 64) Tryz.f66) (sT (kdK kk) x tv lv rv (slot [(0,P0),(4,litT v1),(63,litT rv)] 0 79))):=by
 cases kk<;>kernel_rfl
theorem u_B5:(tTail (aft (pD 64) Tryz.f66) (sU (slot [(64,tuT nilP 5)] 0 79))).bind retL=some (tuT nilP 5,true):=by kernel_rfl
theorem u_B2 (kk:Rf.Kind):tRun [73,74,75] (aft (pD 64) Tryz.f66) (sT (kdK kk) x tv lv rv (slot [(0,P0),(4,litT v1),(64,tuT v2 0)] 0 79))=some (.stp (bef (pD 76) Tryz.f66) (sT (kdK kk) x tv lv rv (slot [(73,.val (.one (.int .i64 (kdK kk)))),(74,litT v1),(75,litT v2)] 0 79))):=by
 cases kk<;>kernel_rfl
theorem y_C:(tTail (aft (pD 26) Tryz.f66) (sU (slot [(26,litT v)] 0 79))).bind retL=some (tuT v 0,true):=by kernel_rfl
theorem y_M:(tTail (aft (pD 45) Tryz.f66) (sU (slot [(45,litT v)] 0 79))).bind retL=some (tuT v 0,true):=by kernel_rfl
theorem y_F:(tTail (aft (pD 56) Tryz.f66) (sU (slot [(56,tuT v e)] 0 79))).bind retL=some (tuT v e,true):=by kernel_rfl
theorem y_B:(tTail (aft (pD 76) Tryz.f66) (sU (slot [(76,tuT v e)] 0 79))).bind retL=some (tuT v e,true):=by kernel_rfl
theorem z_C:callAt Z (sT kd x tv lv rv (slot [(25,P0)] 0 79)) (bef (pD 26) Tryz.f66)=some (103,[.one (.ptr 0 0)],some 26,aft (pD 26) Tryz.f66):=by kernel_rfl
theorem z_L:callAt Z (sT kd x tv lv rv (slot [(0,P0),(31,litT lv)] 0 79)) (bef (pD 32) Tryz.f66)=some (66,[.one (.lit lv)],some 32,aft (pD 32) Tryz.f66):=by kernel_rfl
theorem z_M:callAt Z (sT kd x tv lv rv (slot [(44,litT v1)] 0 79)) (bef (pD 45) Tryz.f66)=some (104,[.one (.lit v1)],some 45,aft (pD 45) Tryz.f66):=by kernel_rfl
theorem z_F:callAt Z (sT kd x tv lv rv (slot [(54,.val (.one (.int .i64 kd))),(55,litT v1)] 0 79)) (bef (pD 56) Tryz.f66)=some (105,[.one (.int .i64 kd),.one (.lit v1)],some 56,aft (pD 56) Tryz.f66):=by kernel_rfl
theorem z_B:callAt Z (sT kd x tv lv rv (slot [(0,P0),(4,litT v1),(63,litT rv)] 0 79)) (bef (pD 64) Tryz.f66)=some (66,[.one (.lit rv)],some 64,aft (pD 64) Tryz.f66):=by kernel_rfl
theorem z_B2:callAt Z (sT kd x tv lv rv (slot [(73,.val (.one (.int .i64 kd))),(74,litT v1),(75,litT v2)] 0 79)) (bef (pD 76) Tryz.f66)=some (106,[.one (.int .i64 kd),.one (.lit v1),.one (.lit v2)],some 76,aft (pD 76) Tryz.f66):=by kernel_rfl
theorem aGh:noFr (bef (pD 26) Tryz.f66)=true/\noFr (bef (pD 32) Tryz.f66)=true/\noFr (bef (pD 45) Tryz.f66)=true/\noFr (bef (pD 56) Tryz.f66)=true/\noFr (bef (pD 64) Tryz.f66)=true/\noFr (bef (pD 76) Tryz.f66)=true:=⟨by kernel_rfl,by kernel_rfl,by kernel_rfl,by kernel_rfl,by kernel_rfl,by kernel_rfl⟩
end
end Ab
namespace Rd
open Go.Deep (BT)
def rankK (k:Int):Int:=bif k==6||k==7 then 1 else bif k==8||k==9 then 2 else bif k==5 then 3 else 4
def sym (k:Int):List UInt8:=
 bif k==2 then [112,105] else bif k==3 then [101] else bif k==4 then [99,102] else bif k==10 then [115,113,114,116]
 else bif k==11 then [101,120,112] else bif k==12 then [108,110,49,112] else bif k==13 then [97,116,97,110]
 else bif k==6 then [43] else bif k==5||k==7 then [45] else bif k==8 then [42] else bif k==9 then [47] else []
def brk (b:Bool)(x:List UInt8):List UInt8:=bif b then 40::(x++[41]) else x
def kindT:Tr->Int
 | .nil=>0
 | .node _ _ a _ _=>a.1
def dec (v:Int):List UInt8:=Lib.decDigits v.toNat
def sep (k:Nat):List UInt8:=bif k==0 then [] else bif k==1 then [59,32] else [44,32]
def termsTo (ts:List Int):Nat->List UInt8
 | 0=>[99,102,91]
 | k+1=>termsTo ts k++(sep k++dec (ts.getD k 0))
def termsTxt (ts:List Int):List UInt8:=termsTo ts ts.length++[93]
def txtOf (a:Int×Int×List Int)(kl kr:Int)(x y:List UInt8):List UInt8:=
 bif a.1==1 then dec a.2.1
 else bif a.1==4 then termsTxt a.2.2
 else bif a.1==5 then 45::brk (decide (rankK kl<3)) x
 else bif decide (10<=a.1/\a.1<=13) then sym a.1++40::(x++[41])
 else bif decide (6<=a.1/\a.1<=9) then brk (decide (rankK kl<rankK a.1)) x++32::(sym a.1++32::brk (decide (rankK kr<rankK a.1+1)) y)
 else sym a.1
def text:Tr->List UInt8
 | .nil=>[]
 | .node _ _ a l r=>txtOf a (kindT l) (kindT r) (text l) (text r)
def numOk (v:Int):Prop:=0<=v/\v<1000000000
def Wf:Tr->Prop
 | .nil=>False
 | .node _ _ a l r=>
  (a.1=1/\numOk a.2.1/\a.2.2=[]/\l=.nil/\r=.nil)\/
  ((a.1=2\/a.1=3)/\a.2.1=0/\a.2.2=[]/\l=.nil/\r=.nil)\/
  (a.1=4/\(∀ x∈a.2.2,numOk x)/\2<=a.2.2.length/\a.2.2.length<=9/\a.2.1=0/\l=.nil/\r=.nil)\/
  ((a.1=5\/a.1=10\/a.1=11\/a.1=12\/a.1=13)/\Wf l/\a.2.2=[]/\r=.nil)\/
  ((a.1=6\/a.1=7\/a.1=8\/a.1=9)/\Wf l/\Wf r/\a.2.2=[])
def cnt:Tr->Nat
 | .nil=>0
 | .node _ _ _ l r=>cnt l+cnt r+1
theorem aE0 {v:Int}(h:numOk v):(dec v).length<=9:=by
 unfold dec;rw [Lib.decDigits_length]
 have b:v.toNat<1000000000:=by have:=h.2;omega
 generalize v.toNat=u at b
 have a:∀ k u,u<10^(k+1)->Lib.nDigits u<=k+1:=by
  intro k
  induction k with
  | zero=>intro u h;rw [Lib.nDigits_small (by simpa using h)];omega
  | succ k ih=>
   intro u h
   by_cases c:u<10
   ·rw [Lib.nDigits_small c];omega
   ·rw [Lib.nDigits_big c];have:=ih (u/10) (by rw [Nat.pow_succ] at h ⊢;rw [Nat.pow_succ] at h;omega);omega
 exact a 8 u b
theorem aRv (k:Nat):(sep k).length<=2:=by
 unfold sep
 cases k==0<;>cases k==1<;>simp
theorem aIJ (k:Int):(sym k).length<=4:=by
 unfold sym
 cases k==2<;>cases k==3<;>cases k==4<;>cases k==10<;>cases k==11<;>cases k==12<;>cases k==13<;>(try (simp;done))<;>cases k==6<;>(try (simp;done))<;>cases k==5<;>cases k==7<;>cases k==8<;>cases k==9<;>simp
theorem aQM {ts:List Int}(h:∀ x∈ts,numOk x)(k:Nat):numOk (ts.getD k 0):=by
 unfold List.getD
 cases e:ts[k]? with
 | none=>exact ⟨by decide,by decide⟩
 | some x=>exact h x (List.mem_of_getElem? e)
theorem aIL {ts:List Int}(h:∀ x∈ts,numOk x):∀ k,(termsTo ts k).length<=3+11*k:=by
 intro k
 induction k with
 | zero=>simp [termsTo]
 | succ k ih=>
  have:=aE0 (aQM h k);have:=aRv k;simp only [termsTo,List.length_append];omega
theorem aIa (b:Bool)(x:List UInt8):(brk b x).length<=x.length+2:=by
 cases b<;>simp [brk]
theorem aOW:∀ t,Wf t->(text t).length<=200*cnt t:=by
 intro t
 induction t with
 | nil=>intro h;exact h.elim
 | node p q a l r ihl ihr=>
  intro h;obtain ⟨k,v,i⟩:=a;simp only [text,cnt]
  rcases h with ⟨b,c,_⟩ | ⟨b,_⟩ | ⟨b,c,_,d,_⟩ | ⟨b,c,_,d⟩ | ⟨b,c,d,_⟩
  ·simp only at b c;subst b;have:=aE0 c;simp only [txtOf,beq_self_eq_true,cond_true];omega
  ·simp only at b;have:=aIJ k
   rcases b with rfl | rfl
   ·simp only [txtOf,sym];simp;omega
   ·simp only [txtOf,sym];simp;omega
  ·simp only at b c d;subst b;have:=aIL c i.length;simp only [txtOf,termsTxt];simp;omega
  ·simp only at b;have f:=ihl c;have s:=aIJ k;have e:=aIa (decide (rankK (kindT l)<3)) (text l)
   rcases b with rfl | rfl | rfl | rfl | rfl<;>(simp only [txtOf];simp;try omega)
  ·simp only at b;have f:=ihl c;have j:=ihr d;have s:=aIJ k;have e:=aIa (decide (rankK (kindT l)<rankK k)) (text l);have g:=aIa (decide (rankK (kindT r)<rankK k+1)) (text r)
   rcases b with rfl | rfl | rfl | rfl<;>(simp only [txtOf];simp at e g ⊢;omega)
end Rd
open Go.RowKit
theorem aRk {n m:Nat}{z:Int}(h:Bits n z)(hl:n<=m):Bits m z:=aAg h hl
theorem aJF {n:Nat}{z:Int}(h:Bits n z):Bits n (-z):=aBw h
theorem aCh {n m:Nat}{x y:Int}(h:Bits n x)(h2:Bits m y):Bits (n+m) (x*y):=aAk h h2
theorem aJE {n:Nat}{x y:Int}(h:Bits n x)(h2:Bits n y):Bits (n+1) (x+y):=aAH h h2
namespace Ab
open Rf (Nd Inv NInv Wt)
def opKd (k:Int):Rf.Op:=if k=2 then .pi else if k=3 then .e else if k=4 then .cf else if k=10 then .sqrt else if k=11 then .exp else if k=12 then .ln1p else .atan
def kkKd (k:Int):Rf.Kind:=if k=6 then .add else if k=7 then .sub else if k=8 then .mul else .div
def planT:Rd.Tr->Option Wt
 | .nil=>none
 | .node _ _ a l r=>
  if a.1=1 then some (.fr a.2.1 1)
  else if a.1<=4 then some (.con (opKd a.1) a.2.2)
  else if a.1=5 then (planT l).map negW
  else if a.1<=9 then (planT l).bind fun u=>(planT r).bind fun v=>opW (kkKd a.1) u v
  else (planT l).bind fun u=>fnW (opKd a.1) u
def OkB (n:Nat)(u:Wt):Prop:=u.Ok/\∀ p q,u=.fr p q->0<q/\RB n p/\RB n q
theorem aPI {v:Int}(h:Rd.numOk v):RB 30 v:=by
 have a:=h.1;have b:=h.2;show v.natAbs<2^30
 have:(2:Nat)^30=1073741824:=by decide
 omega
theorem aCk {n m:Nat}{z:Int}(h:RB n z)(hl:n<=m):RB m z:=aRk h hl
theorem aJx {n:Nat}{p q:Int}(a:0<q)(b:RB n p)(c:RB n q)(d:n<=6100):OkB n (.fr p q):=by
 refine ⟨⟨a,aCk b d,aCk c d⟩,?_⟩;intro f g e;cases e;exact ⟨a,b,c⟩
theorem aEt {n:Nat}{u:Wt}(h:u.Ok)(hn:∀ p q,u≠.fr p q):OkB n u:=⟨h,fun p q e=>absurd e (hn p q)⟩
theorem aRc {n m:Nat}{u:Wt}(h:OkB n u)(c:n<=m)(i:m<=6100):OkB m (negW u):=by
 cases u with
 | fr p q=>
  obtain ⟨d,f,g⟩:=h.2 p q rfl;exact aJx d (aCk (aJF f) c) (aCk g c) i
 | con op ts=>exact aEt (show (Wt.con op ts).Ok from h.1) (fun _ _ e=>by cases e)
 | neg t=>exact aEt (show (Wt.neg t).Ok from h.1) (fun _ _ e=>by cases e)
 | two k a b=>exact aEt (show (Wt.two k a b).Ok from h.1) (fun _ _ e=>by cases e)
 | fn op t=>exact aEt (show (Wt.fn op t).Ok from h.1) (fun _ _ e=>by cases e)
theorem aTR {n m:Nat}{f:Rf.Op}(i:Rf.fn f){u u2:Wt}(h:OkB n u)(j:m<=6100)(g:1<=m)(d:fnW f u=some u2):OkB m u2:=by
 have c:∀ {t:Wt},t.Ok->(∀ p q,t=.fr p q->0<p)->OkB m (.fn f t):=fun ht hp=>aEt ⟨i,ht,hp⟩ (fun _ _ e=>by cases e)
 cases u with
 | fr p q=>
  simp only [fnW] at d;split at d
  ·cases d
  ·split at d
   ·cases d;refine aJx (by decide) ?_ (Rf.bits1 g) j;split
    ·exact Rf.bits1 g
    ·exact Rf.bits0
   ·cases d;refine c h.1 ?_;intro l o e;cases e;omega
 | con f ts=>cases d;exact c h.1 (fun _ _ e=>by cases e)
 | neg t=>cases d;exact c h.1 (fun _ _ e=>by cases e)
 | two k a b=>cases d;exact c h.1 (fun _ _ e=>by cases e)
 | fn f t=>cases d;exact c h.1 (fun _ _ e=>by cases e)
theorem aRV {n m:Nat}{kk:Rf.Kind}{p q a b:Int}(f:RB n p)(c:RB n q)(g:RB m a)(d:RB m b):RB (n+m+1) (woN (kdK kk) p q a b)/\RB (n+m+1) (woD (kdK kk) p q a b):=by
 have s:n+m<=n+m+1:=by omega
 have e:m+n=n+m:=by omega
 cases kk with
 | add=>exact ⟨aJE (aCh f d) (e ▸ aCh g c),aCk (aCh c d) s⟩
 | sub=>exact ⟨aJE (aCh f d) (e ▸ aCh (aJF g) c),aCk (aCh c d) s⟩
 | mul=>exact ⟨aCk (aCh f g) s,aCk (aCh c d) s⟩
 | div=>exact ⟨aCk (aCh f d) s,aCk (aCh c g) s⟩
theorem aTS {n m l:Nat}{kk:Rf.Kind}{u v x:Wt}(h:OkB n u)(i:OkB m v)(o:n+m+1<=l)(H:l<=6100)(c:opW kk u v=some x):OkB l x:=by
 have d:∀ {t t2:Wt},t.Ok->t2.Ok->OkB l (.two kk t t2):=fun ht ht2=>aEt ⟨ht,ht2⟩ (fun _ _ e=>by cases e)
 by_cases j:∃ a b,v=.fr a b
 ·obtain ⟨a,b,rfl⟩:=j;obtain ⟨r,s,y⟩:=i.2 a b rfl
  by_cases k:∃ p q,u=.fr p q
  ·obtain ⟨p,q,rfl⟩:=k;obtain ⟨z,A,B⟩:=h.2 p q rfl;simp only [opW] at c;split at c
   ·cases c
   ·rename_i g;cases c;have f:=aP3 (p:=p) z r g;obtain ⟨C,D⟩:=aRV (kk:=kk) A B s y;obtain ⟨E,F⟩:=aIp (aD9 (t:=woN (kdK kk) p q a b) f);refine aJx (aOj f) (aCk (Nat.lt_of_le_of_lt E C) o) (aCk (Nat.lt_of_le_of_lt F D) o) H
  ·have:opW kk u (.fr a b)=if kk=.div/\a=0 then none else some (.two kk u (.fr a b)):=by
    cases u with
    | fr p q=>exact absurd ⟨p,q,rfl⟩ k
    | _=>rfl
   rw [this] at c;split at c
   ·cases c
   ·cases c;exact d h.1 i.1
 ·have:opW kk u v=some (.two kk u v):=by
   cases v with
   | fr p q=>exact absurd ⟨p,q,rfl⟩ j
   | _=>cases u<;>rfl
  rw [this] at c;cases c;exact d h.1 i.1
theorem aFm:∀ (t:Rd.Tr) (u:Wt),Rd.Wf t->32*Rd.cnt t<=6100->planT t=some u->OkB (32*Rd.cnt t) u:=by
 intro t
 induction t with
 | nil=>intro u h;exact h.elim
 | node n1 n2 a l r ihl ihr=>
  intro u h g b;have i:Rd.cnt (.node n1 n2 a l r)=Rd.cnt l+Rd.cnt r+1:=rfl;rw [i] at g ⊢;rw [planT] at b
  rcases h with ⟨hk,o,_,rfl,rfl⟩ | ⟨hk,_,_,rfl,rfl⟩ | ⟨hk,j,p,s,_,rfl,rfl⟩ | ⟨hk,c,_,rfl⟩ | ⟨hk,c,k,_⟩
  ·rw [if_pos hk] at b;cases b;exact aJx (by decide) (aCk (aPI o) (by omega)) (Rf.bits1 (by omega)) g
  ·rw [if_neg (by omega),if_pos (by omega)] at b;cases b;refine aEt ?_ (fun _ _ e=>by cases e)
   rcases hk with hk | hk<;>rw [hk]
   ·exact Or.inl rfl
   ·exact Or.inr (Or.inl rfl)
  ·rw [if_neg (by omega),if_pos (by omega)] at b;cases b;refine aEt ?_ (fun _ _ e=>by cases e);rw [hk];exact Or.inr (Or.inr ⟨rfl,p,fun x hx=>aCk (aPI (j x hx)) (by decide)⟩)
  ·rw [if_neg (by omega),if_neg (by omega)] at b
   rcases hk with hk | hk
   ·rw [if_pos hk] at b;obtain ⟨v,f,rfl⟩:=Option.map_eq_some_iff.1 b;exact aRc (ihl v c (by omega) f) (by omega) g
   ·rw [if_neg (by omega),if_neg (by omega)] at b;obtain ⟨v,f,d⟩:=Option.bind_eq_some_iff.1 b;refine aTR ?_ (ihl v c (by omega) f) g (by omega) d
    rcases hk with hk | hk | hk | hk<;>rw [hk]
    ·exact Or.inl rfl
    ·exact Or.inr (Or.inl rfl)
    ·exact Or.inr (Or.inr (Or.inl rfl))
    ·exact Or.inr (Or.inr (Or.inr rfl))
  ·rw [if_neg (by omega),if_neg (by omega),if_neg (by omega),if_pos (by omega)] at b;obtain ⟨v,f,m⟩:=Option.bind_eq_some_iff.1 b;obtain ⟨q,n,d⟩:=Option.bind_eq_some_iff.1 m;exact aTS (ihl v c (by omega) f) (ihr q k (by omega) n) (by omega) g d
end Ab
open Go.RowKit
namespace Ab
open Rf (Nd Inv NInv Wt)
theorem aHJ {w:World}{k:Nat}{kd x:Int}{tv lv rv:Value}(h:w.heap[k]?=some (.cells #[.int .i64 kd,.int .i64 x,tv,lv,rv] 163 (0,0)))(e:One tv)(f:One lv)(g:One rv)(i:List AT):RepW Z w (ph1 0 k) (ph1 0 k) (sT kd x tv lv rv i) w:=by
 refine aBh rfl ?_ ?_ ?_
 ·intro b B c;have:=aAy c;simp only [sT,List.mem_singleton,Prod.mk.injEq] at this;obtain ⟨rfl,rfl⟩:=this;exact ⟨rfl,rfl,rfl,k,0,rfl,[],[.int .i64 kd,.int .i64 x,tv,lv,rv],[],h,rfl,rfl,rfl,⟨rfl,e⟩,⟨rfl,f⟩,⟨rfl,g⟩,trivial⟩
 ·intro b d;have:1<=b:=d;unfold ph1;rw [if_neg (by omega)]
 ·intro b j o a;unfold ph1 at a;split at a
  ·cases a;exact aAf h
  ·cases a
theorem aRu {d:Nat}{r:AT}{ts:List AT}(h:ts.length=79)(hs:putT (List.replicate 79 .top) (some d) r=slot [(d,r)] 0 79):(sU (slot [(d,r)] 0 79)).tmps=putT (keepT [] [] 0 ts) (some d) r:=by
 rw [aE7,h];exact hs.symm
theorem aEl {w:World}{φ:Nat->Option (Nat×Nat)}{ν:List (Int×Nat)}{v:Value}{e:Int}(o:One v):relT Z φ ν w (tuT v e) (.tuple #[v,.int .i64 e]):=⟨[v,.int .i64 e],rfl,⟨rfl,o⟩,rfl,trivial⟩
theorem tailT {d:Nat}{r:AT}{v:Value}{e:Int}{ks:List (K (List AT))}(k:(tTail ks (sU (slot [(d,r)] 0 79))).bind retL=some (tuT v e,true)){R:Ending->World->Prop}{w':World}(hR:∀ w2,Chg w' w2 []->R (.returned (.tuple #[v,.int .i64 e])) w2){kcs:List (K Act)}{a:Act}(f:∀ φ' ν' w'',SR Z φ' ν' w'' ks kcs)(l:Rep Z w' (fun _=>none) (fun _=>none) (sU (slot [(d,r)] 0 79)) a w'):sem Z.P R kcs .normal a w':=by
 obtain ⟨g,i,b⟩:=bnd k
 match g,b with
 | .ret r s,b=>
  simp only [retL,Option.some.injEq,Prod.mk.injEq] at b;obtain ⟨rfl,c⟩:=b;refine aBY (aAd aCP) aDp (aAI mixed (aAd aCP)) (fun r s=>r=tuT v e/\clean s=true) (fun _ _=>False) (fun _ _ h=>h.elim) ?_ _ _ _ _ i ⟨rfl,c⟩ kcs _ a w' (f _ _ _) l;rintro r s φ x w2 ⟨rfl,c⟩ hrel j;rw [aCj hrel aAh];exact hR w2 (Chg.aAi (RepF.below j c))
 | .br _ _ _,b=>cases b
 | .need _ _,b=>cases b
 | .stop _ _,b=>cases b
theorem lastT {d:Nat}{w0 w:World}{ψ φ:Nat->Option (Nat×Nat)}{s:AS}{a:Act}{ks ks2:List (K (List AT))}{kcs:List (K Act)}{f:FuncId}{vs:List AV}{R:Ending->World->Prop}(h:callAt Z s ks=some (f,vs,some d,ks2))(c:Enters Z.P f)(g:noFr ks=true)(i:∀ φ' ν' w'',SR Z φ' ν' w'' ks kcs)(j:Rep Z w0 ψ φ s a w)(n:s.tmps.length=79)(hs:∀ r,putT (List.replicate 79 .top) (some d) r=slot [(d,r)] 0 79)
  (H:∀ xs:List Value,All2 (relV Z φ s.nums w) vs xs->Calls Z.P f xs.toArray w fun e w'=>∃ v x,∃ r:AT,∃ e':Int,e=.returned x/\relT Z (fun _=>none) [] w' r x/\(tTail ks2 (sU (slot [(d,r)] 0 79))).bind retL=some (tuT v e',true)/\∀ w2,Chg w' w2 []->R (.returned (.tuple #[v,.int .i64 e'])) w2):sem Z.P R kcs .normal a w:=by
 refine aAx h c g (i φ s.nums w) j fun xs hxs=>(H xs hxs).mono ?_
 rintro e w' ⟨v,x,r,e',rfl,k,l,m⟩;refine ⟨x,rfl,fun kcs2 hf2 hsr2=>?_⟩;exact tailT l m hsr2 (aAM (kb:=[]) (kt:=[]) j aCi (aRu n (hs r)) (fun b hb=>by simp at hb) k)
theorem Told2.on {w w1 w2 w3:World}{x:Option Wt}{e:Ending}(b:Chg w w1 [])(h:Told2 w1 x e w2)(a:Chg w2 w3 []):Told2 w x e w3:=by
 cases x with
 | none=>exact ⟨(b.trans h.1).trans a,h.2⟩
 | some t=>
  obtain ⟨c,v,d,f⟩:=h;exact ⟨(b.trans c).trans a,v,d,PartAt.keep a.on t v f⟩
theorem TermsAt.one {rb:Nat}{w:World}{ts:List Int}{tv:Value}(h:TermsAt rb w ts tv):One tv:=by
 rcases h with ⟨_,rfl⟩ | ⟨tb,cap,cur,rfl,_⟩<;>rfl
theorem Enc.one {rb:Nat}{w:World}:∀ {t:Rd.Tr} {v:Value},Enc rb w t v->One v
 | .nil,_,h=>by rw [show _=Value.pointer none from h];rfl
 | .node _ _ _ _ _,_,⟨b,tv,lv,rv,h,_⟩=>by rw [h];rfl
theorem Told2.one {w w':World}{x:Option Wt}{e:Ending}(h:Told2 w x e w'):∃ v e',e=.returned (.tuple #[v,.int .i64 e'])/\One v/\((x=none/\v=nilP/\e'=5)\/(∃ t,x=some t/\e'=0/\PartAt w' t v)):=by
 cases x with
 | none=>exact ⟨nilP,5,h.2,rfl,Or.inl ⟨rfl,rfl,rfl⟩⟩
 | some t=>
  obtain ⟨c,v,b,a⟩:=h;obtain ⟨k,rfl⟩:=PartAt.ptr t v a;exact ⟨ptrB k,0,b,rfl,Or.inr ⟨t,rfl,rfl,a⟩⟩
section
variable {w:World} {b rb:Nat} {kd x:Int} {tv lv rv:Value} {R:Ending->World->Prop}
theorem aTW {w0 w':World}{φ:Nat->Option (Nat×Nat)}{ν:List (Int×Nat)}{s:AS}{k:Nat}{u:Value}(hw:RepW Z w0 (ph1 0 k) φ s w')(h:relV Z φ ν w' (.one (.ptr 0 0)) u):u=ptrB k:=aBp (hw.base 0 (k,0) rfl) h
theorem of_1 (j:x.natAbs<1000000000000000000)(k:w.heap[b]?=some (.cells #[.int .i64 1,.int .i64 x,tv,lv,rv] 163 (0,0)))(l:One tv)(n:One lv)(o:One rv):Calls Tryz.prog 66 #[ptrB b] w (Told2 w (some (.fr x 1))):=by
 refine aBo (φ:=ph1 0 b) (s:=sT 1 x tv lv rv ofT) (vs:=[.one (.ptr 0 0)]) (args:=[ptrB b]) (aAj Tryz.func66 rfl rfl) (aAd aCP) aDp (by kernel_rfl) ⟨⟨b,0,rfl,rfl⟩,trivial⟩ (aHJ k l n o _) (u_1 x tv lv rv) (fun r s=>r=tupE (.ptr 2 0) 0/\IsPt s 2 1 [x,1] (.lit nilP) (.lit nilP)/\clean s=true) ⟨holds1 j,rfl,u_1p x tv lv rv,u_1c x tv lv rv⟩ ?_;rintro r s φ v g ⟨rfl,h,i⟩ hrel c;have a:Chg w g []:=Chg.aAi (RepF.below c i);obtain ⟨m,p,d,e,f⟩:=h.at c aAh aAh;exact .yes (v:=ptrB m) rfl a (by rw [aCj hrel (aAo d)]) (aOw e f)
theorem of_C (c:kd=2\/kd=3\/kd=4)(j:w.heap[b]?=some (.cells #[.int .i64 kd,.int .i64 x,tv,lv,rv] 163 (0,0)))(k:One tv)(l:One lv)(m:One rv)(a:∀ w1,Chg w w1 []->Calls Tryz.prog 103 #[ptrB b] w1 fun e w2=>∃ v,e=.returned v/\One v/\∀ w3,Chg w2 w3 []->R (.returned (.tuple #[v,.int .i64 0])) w3):Calls Tryz.prog 66 #[ptrB b] w R:=by
 have F:=aAj Tryz.func66 rfl rfl;refine aAP F (φ:=ph1 0 b) (vs:=[.one (.ptr 0 0)]) (args:=[ptrB b]) (s:=sT kd x tv lv rv ofT) (by kernel_rfl) ⟨⟨b,0,rfl,rfl⟩,trivial⟩ (aHJ j k l m _) ?_;refine xrun' (aAd aCP) aDp aAU (aA7 aAU) (u_C x tv lv rv c) (fun _ _=>False) (fun d s=>d=bef (pD 26) Tryz.f66/\s=sT kd x tv lv rv (slot [(25,P0)] 0 79)) ⟨rfl,rfl⟩ (fun _ _ _ _ _ h=>h.elim) ?_;rintro d s ⟨rfl,rfl⟩;refine ⟨aGh.1,fun kcs φ1 a1 w1 hsr1 hr1=>?_⟩;have f:Chg w w1 []:=Chg.aAi (RepF.below hr1.wd rfl)
 refine lastT (z_C x kd tv lv rv) (aAj Tryz.func103 rfl rfl).en aGh.1 hsr1 hr1 rfl (fun r=>by kernel_rfl) fun us hus=>?_
 match us,hus with
 | [u1],⟨hu1,_⟩=>
 rw [aTW hr1.wd hu1];refine (a w1 f).mono ?_;rintro e w2 ⟨v,rfl,g,i⟩;exact ⟨v,v,litT v,0,rfl,⟨rfl,g⟩,y_C v,i⟩
theorem of_L (m:kd=5\/kd=6\/kd=7\/kd=8\/kd=9\/kd=10\/kd=11\/kd=12\/kd=13)(i:w.heap[b]?=some (.cells #[.int .i64 kd,.int .i64 x,tv,lv,rv] 163 (0,0)))(y:One tv)(z:One lv)(A:One rv){n:Option Wt}(d:∀ w1,Chg w w1 []->Calls Tryz.prog 66 #[lv] w1 (Told2 w1 n))
  (o:n=none->∀ w3,Chg w w3 []->R (.returned (.tuple #[nilP,.int .i64 5])) w3)
  (g:∀ t v w2 kcs a,n=some t->Chg w w2 []->PartAt w2 t v->One v->(∀ φ' ν' w'',SR Z φ' ν' w'' (aft (pD 32) Tryz.f66) kcs)->Rep Z w2 (ph1 0 b) (ph1 0 b) (sT kd x tv lv rv (slot [(0,P0),(32,tuT v 0)] 0 79)) a w2->sem Z.P R kcs .normal a w2):Calls Tryz.prog 66 #[ptrB b] w R:=by
 have F:=aAj Tryz.func66 rfl rfl;refine aAP F (φ:=ph1 0 b) (vs:=[.one (.ptr 0 0)]) (args:=[ptrB b]) (s:=sT kd x tv lv rv ofT) (by kernel_rfl) ⟨⟨b,0,rfl,rfl⟩,trivial⟩ (aHJ i y z A _) ?_;refine xrun' (aAd aCP) aDp aAU (aA7 aAU) (u_L x tv lv rv m) (fun _ _=>False) (fun q s=>q=bef (pD 32) Tryz.f66/\s=sT kd x tv lv rv (slot [(0,P0),(31,litT lv)] 0 79)) ⟨rfl,rfl⟩ (fun _ _ _ _ _ h=>h.elim) ?_;rintro q s ⟨rfl,rfl⟩;refine ⟨aGh.2.1,fun kcs φ1 a1 w1 hsr1 hr1=>?_⟩;have j:Chg w w1 []:=Chg.aAi (RepF.below hr1.wd rfl)
 refine aAx (z_L x kd tv lv rv) F.en aGh.2.1 (hsr1 φ1 [] w1) hr1 fun us hus=>?_
 match us,hus with
 | [u1],⟨c,_⟩=>
 have c:u1=lv:=c.1;rw [c];refine (d w1 j).mono ?_;rintro e w2 u;have p:=u.1;obtain ⟨v,C,rfl,k,h⟩:=u.one;refine ⟨_,rfl,fun kcs2 hf2 hsr2=>?_⟩
 rcases h with ⟨l,rfl,rfl⟩ | ⟨t,l,rfl,B⟩
 ·exact tailT u_L5 (hR:=fun w3 hc3=>o l w3 ((j.trans p).trans hc3)) hsr2 (aAM (kb:=[]) (kt:=[]) hr1 aCi (aRu rfl (by kernel_rfl)) (fun b i=>by simp at i) (aEl k))
 ·have f:=j.trans p;refine g t v w2 kcs2 _ l f B k hsr2 ?_;refine aAM (kb:=[0]) (kt:=[0]) (r:=tuT v 0) hr1 (aHJ (f.at i (by simp)) y z A _) (by kernel_rfl) (fun b' hb'=>?_) (aEl k)
  have:b'=0:=by simpa using hb'
  subst this;exact (hr1.wd.base 0 (b,0) rfl).symm
theorem of_M (B:w.heap[b]?=some (.cells #[.int .i64 5,.int .i64 x,tv,lv,rv] 163 (0,0)))(C:One tv)(D:One lv)(E:One rv){l:Option Wt}(m:∀ t,l=some t->t.Ok)(d:∀ w1,Chg w w1 []->Calls Tryz.prog 66 #[lv] w1 (Told2 w1 l)):Calls Tryz.prog 66 #[ptrB b] w (Told2 w (l.map negW)):=by
 refine of_L (Or.inl rfl) B C D E d (fun e w3 hc=>.no (by rw [e];rfl) hc rfl) ?_;intro t v y g a p i z H j A;refine xrun' (aAd aCP) aDp aAU (aA7 aAU) (u_M x tv lv rv v) (fun _ _=>False) (fun o s=>o=bef (pD 45) Tryz.f66/\s=sT 5 x tv lv rv (slot [(44,litT v)] 0 79)) ⟨rfl,rfl⟩ (fun _ _ _ _ _ h=>h.elim) ?_ g _ _ _ (j _ _ _) A;rintro o s ⟨rfl,rfl⟩;refine ⟨aGh.2.2.1,fun g φ3 a3 w3 hsr3 hr3=>?_⟩;have n:Chg y w3 []:=Chg.aAi (RepF.below hr3.wd rfl)
 refine lastT (z_M x 5 tv lv rv v) (aAj Tryz.func104 rfl rfl).en aGh.2.2.1 hsr3 hr3 rfl (fun r=>by kernel_rfl) fun us hus=>?_
 match us,hus with
 | [u1],⟨c,_⟩=>
 have c:u1=v:=c.1;rw [c];refine (aOn (m t p) (PartAt.keep n.on t v z)).mono ?_;rintro e F ⟨q,rfl,u,f⟩;obtain ⟨k,rfl⟩:=PartAt.ptr _ q f;exact ⟨ptrB k,ptrB k,litT (ptrB k),0,rfl,⟨rfl,rfl⟩,y_M _,fun w5 c5=>.yes (by rw [p];rfl) (((i.trans n).trans u).trans c5) rfl (PartAt.keep c5.on _ _ f)⟩
theorem of_F {f:Rf.Op}(j:Rf.fn f)(F:w.heap[b]?=some (.cells #[.int .i64 (kindZ f),.int .i64 x,tv,lv,rv] 163 (0,0)))(H:One tv)(I:One lv)(J:One rv){n:Option Wt}(o:∀ t,n=some t->t.Ok)(g:∀ w1,Chg w w1 []->Calls Tryz.prog 66 #[lv] w1 (Told2 w1 n)):Calls Tryz.prog 66 #[ptrB b] w (Told2 w (n.bind (fnW f))):=by
 have B:=aDj j;refine of_L (by omega) F H I J g (fun e w3 hc=>.no (by rw [e];rfl) hc rfl) ?_;intro t v C i a A l D M m E;refine xrun' (aAd aCP) aDp aAU (aA7 aAU) (u_F x tv lv rv v B) (fun _ _=>False) (fun y s=>y=bef (pD 56) Tryz.f66/\s=sT (kindZ f) x tv lv rv (slot [(54,.val (.one (.int .i64 (kindZ f)))),(55,litT v)] 0 79)) ⟨rfl,rfl⟩ (fun _ _ _ _ _ h=>h.elim) ?_ i _ _ _ (m _ _ _) E;rintro y s ⟨rfl,rfl⟩;refine ⟨aGh.2.2.2.1,fun i φ3 a3 w3 hsr3 hr3=>?_⟩;have p:Chg C w3 []:=Chg.aAi (RepF.below hr3.wd rfl)
 refine lastT (z_F x (kindZ f) tv lv rv v) (aAj Tryz.func105 rfl rfl).en aGh.2.2.2.1 hsr3 hr3 rfl (fun r=>by kernel_rfl) fun us hus=>?_
 match us,hus with
 | [u1,u2],⟨c,d,_⟩=>
 have c:u1=.int .i64 (kindZ f):=c;have d:u2=v:=d.1;rw [c,d];refine (aIj j (o t A) (PartAt.keep p.on t v D)).mono ?_;rintro e L z;obtain ⟨q,u,rfl,k,h⟩:=z.one;refine ⟨q,_,tuT q u,u,rfl,aEl k,y_F _ _,fun w5 c5=>?_⟩;rw [A];exact z.on (l.trans p) c5
theorem of_B (kk:Rf.Kind)(A:w.heap[b]?=some (.cells #[.int .i64 (kdK kk),.int .i64 x,tv,lv,rv] 163 (0,0)))(U:One tv)(W:One lv)(X:One rv){N O:Option Wt}(P:∀ t,N=some t->t.Ok)(z:∀ t,O=some t->t.Ok)(l:∀ w1,Chg w w1 []->Calls Tryz.prog 66 #[lv] w1 (Told2 w1 N))(f:∀ w1,Chg w w1 []->Calls Tryz.prog 66 #[rv] w1 (Told2 w1 O)):Calls Tryz.prog 66 #[ptrB b] w (Told2 w (N.bind fun u=>O.bind fun v=>opW kk u v)):=by
 have F:=aAj Tryz.func66 rfl rfl
 have hk:kdK kk=6\/kdK kk=7\/kdK kk=8\/kdK kk=9:=by cases kk<;>simp [kdK]
 refine of_L (by omega) A U W X l (fun e w3 hc=>.no (by rw [e];rfl) hc rfl) ?_;intro t v Y k a J L hp ho M hr;refine xrun' (aAd aCP) aDp aAU (aA7 aAU) (u_B x tv lv rv v kk) (fun _ _=>False) (fun q s=>q=bef (pD 64) Tryz.f66/\s=sT (kdK kk) x tv lv rv (slot [(0,P0),(4,litT v),(63,litT rv)] 0 79)) ⟨rfl,rfl⟩ (fun _ _ _ _ _ h=>h.elim) ?_ k _ _ _ (M _ _ _) hr;rintro q s ⟨rfl,rfl⟩;obtain ⟨_,_,_,_,n,o⟩:=aGh;refine ⟨n,fun k φ3 a3 w3 hsr3 hr3=>?_⟩;have R:Chg Y w3 []:=Chg.aAi (RepF.below hr3.wd rfl);have g:=L.trans R
 refine aAx (z_B x (kdK kk) tv lv rv v) F.en n (hsr3 φ3 [] w3) hr3 fun us hus=>?_
 match us,hus with
 | [u1],⟨c,_⟩=>
 have c:u1=rv:=c.1;rw [c];refine (f w3 g).mono ?_;rintro e w4 y;have B:=y.1;obtain ⟨v2,E,rfl,p,h⟩:=y.one;refine ⟨_,rfl,fun kcs4 hf4 hsr4=>?_⟩
 rcases h with ⟨d,rfl,rfl⟩ | ⟨S,d,rfl,H⟩
 ·exact tailT u_B5 (hR:=fun w5 hc5=>.no (by rw [J,d];rfl) ((g.trans B).trans hc5) rfl) hsr4 (aAM (kb:=[]) (kt:=[]) hr3 aCi (aRu rfl (by kernel_rfl)) (fun b A=>by simp at A) (aEl p))
 ·have m:=g.trans B
  have C:Rep Z w4 (ph1 0 b) (ph1 0 b) (sT (kdK kk) x tv lv rv (slot [(0,P0),(4,litT v),(64,tuT v2 0)] 0 79)) (a3.put (some 64) (.tuple #[v2,.int .i64 0])) w4:=by
   refine aAM (kb:=[0]) (kt:=[0,4]) (r:=tuT v2 0) hr3 (aHJ (m.at A (by simp)) U W X _) (by kernel_rfl) (fun b' hb'=>?_) (aEl p)
   have:b'=0:=by simpa using hb'
   subst this;exact (hr3.wd.base 0 (b,0) rfl).symm
  refine xrun' (aAd aCP) aDp aAU (aA7 aAU) (u_B2 x tv lv rv v v2 kk) (fun _ _=>False) (fun q s=>q=bef (pD 76) Tryz.f66/\s=sT (kdK kk) x tv lv rv (slot [(73,.val (.one (.int .i64 (kdK kk)))),(74,litT v),(75,litT v2)] 0 79)) ⟨rfl,rfl⟩ (fun _ _ _ _ _ h=>h.elim) ?_ kcs4 _ _ _ (hsr4 _ _ _) C;rintro q s ⟨rfl,rfl⟩;refine ⟨o,fun k φ5 a5 w5 hsr5 hr5=>?_⟩;have D:Chg w4 w5 []:=Chg.aAi (RepF.below hr5.wd rfl)
  refine lastT (z_B2 x (kdK kk) tv lv rv v v2) (aAj Tryz.func106 rfl rfl).en o hsr5 hr5 rfl (fun r=>by kernel_rfl) fun us hus=>?_
  match us,hus with
  | [u1,u2,u3],⟨c,i,j,_⟩=>
  have c:u1=.int .i64 (kdK kk):=c;have i:u2=v:=i.1;have j:u3=v2:=j.1;rw [c,i,j];refine (aHB kk (P t J) (PartAt.keep ((R.trans B).trans D).on t v hp) (z S d) (PartAt.keep D.on S v2 H)).mono ?_;rintro e w6 y;obtain ⟨T,E,rfl,I,h⟩:=y.one;refine ⟨T,_,tuT T E,E,rfl,aEl I,y_B _ _,fun w7 c7=>?_⟩;rw [J,d];exact y.on (m.trans D) c7
end
end Ab
theorem aLx {rb:Nat}{w:World}{ts:List Int}{tv:Value}(h:TermsAt rb w ts tv):∃ ao cap,tv=.slice ao ts.length cap/\∀ k,(h:k<ts.length)->∃ tb,ao=some ⟨tb,0,none⟩/\w.cell? ⟨tb,k,none⟩=some (.int .i64 ts[k]):=by
 rcases h with ⟨rfl,rfl⟩ | ⟨tb,cap,a,rfl,_,c,e,d⟩
 ·exact ⟨none,0,rfl,fun k h=>absurd h (Nat.not_lt_zero k)⟩
 ·refine ⟨some ⟨tb,0,none⟩,cap,rfl,fun k hk=>⟨tb,rfl,?_⟩⟩
  have b:a.toList[k]?=some (.int .i64 ts[k]):=by
   have:(a.toList.take ts.length)[k]?=(ts.map (Value.int .i64))[k]?:=by rw [d]
   rw [List.getElem?_take_of_lt hk,List.getElem?_map,List.getElem?_eq_getElem hk] at this;exact this
  exact aAa c (by simpa using b)
namespace Ab
open Rf (Nd Inv NInv Wt)
theorem aDK {rb:Nat}{w w':World}(h:Chg w w' []):Keep rb w w':=Keep.aAi (h.below (Nat.le_refl _) (fun k hk=>by simp at hk))
theorem aCn {rb:Nat}{w:World}{b:Nat}{kd x:Int}{ts:List Int}{tv lv rv:Value}(f:kd=2\/kd=3\/kd=4)(N:ts.length<=9)(I:kd=4->2<=ts.length)(o:w.heap[b]?=some (.cells #[.int .i64 kd,.int .i64 x,tv,lv,rv] 163 (0,0)))(p:TermsAt rb w ts tv)(J:One lv)(L:One rv):Calls Tryz.prog 66 #[ptrB b] w (Told2 w (some (.con (opKd kd) ts))):=by
 refine of_C f o (TermsAt.one p) J L fun w1 c1=>?_
 obtain ⟨u,d,rfl,v⟩:=aLx (p.keep (aDK c1));refine (aGd w1 b kd x ts u d lv rv (by omega) (c1.at o (by simp)) v).mono ?_;rintro e k ⟨l,m,rfl,c,H,i⟩;have q:Chg w1 k []:=Chg.aAi i
 have j:kindZ (opKd kd)=kd:=by rcases f with h | h | h<;>subst h<;>rfl
 have r:PartAt k (.con (opKd kd) ts) (ptrB m):=by
  obtain ⟨y,A,B,C⟩:=aCM c;refine ⟨m,[.bool false,.slice none 0 0,.bool false,.slice none 0 0],[0,0],l,nilP,nilP,rfl,?_,⟨rfl,aGr true k,rfl,aGr true k,trivial⟩,rfl,fun z j=>zeros1 z (by simp at j;simp [j]),by rw [C];rfl,rfl,rfl,fun e=>?_⟩
  ·rw [j];exact H
  ·have s:kd=4:=by
    rcases f with h | h | h
    ·subst h;cases e
    ·subst h;cases e
    ·exact h
   have:=I s
   rcases c.2 with ⟨_,h⟩ | ⟨g,d,a,h,D,E,M,_,_,F⟩
   ·omega
   ·refine ⟨g,d,a.toList.drop ts.length,h,by omega,?_⟩;rw [E]
    have n:a.toList.take ts.length=ts.map (Value.int .i64):=by simpa using F
    have:ts.map (fun t=>Value.int .i64 t)++a.toList.drop ts.length=a.toList:=by
     rw [show ts.map (fun t=>Value.int .i64 t)=a.toList.take ts.length from n.symm];exact List.take_append_drop _ _
    rw [this]
 exact ⟨ptrB m,rfl,rfl,fun w3 c3=>.yes rfl ((c1.trans q).trans c3) rfl (PartAt.keep c3.on _ _ r)⟩
theorem aU8 {rb:Nat}:∀ (t:Rd.Tr),Rd.Wf t->32*Rd.cnt t<=6100->∀ (w:World) (v:Value),Enc rb w t v->Calls Tryz.prog 66 #[v] w (Told2 w (planT t)):=by
 intro t
 induction t with
 | nil=>intro h;exact h.elim
 | node n1 n2 a l r ihl ihr=>
  intro h J w v L;obtain ⟨i,x,B⟩:=a;have z:Rd.cnt (.node n1 n2 (i,x,B) l r)=Rd.cnt l+Rd.cnt r+1:=rfl;rw [z] at J;obtain ⟨b,M,u,C,rfl,F,g,y,A,D⟩:=L;have q:=TermsAt.one y;have j:=Enc.one A;have k:=Enc.one D;rw [planT];simp only at h g y ⊢
  rcases h with ⟨hk,E,_,rfl,rfl⟩ | ⟨hk,_,o,rfl,rfl⟩ | ⟨hk,o,H,I,_,rfl,rfl⟩ | ⟨hk,d,_,rfl⟩ | ⟨hk,d,p,_⟩
  ·subst hk;rw [if_pos rfl];have:0<=x:=E.1;have:x<1000000000:=E.2;exact of_1 (by omega) g q j k
  ·rw [if_neg (by omega),if_pos (by omega)];exact aCn (by omega) (by rw [show B=[] from o];exact Nat.zero_le _) (by omega) g y j k
  ·rw [if_neg (by omega),if_pos (by omega)];exact aCn (by omega) I (fun _=>H) g y j k
  ·rw [if_neg (by omega),if_neg (by omega)]
   have c:∀ w1,Chg w w1 []->Calls Tryz.prog 66 #[u] w1 (Told2 w1 (planT l)):=fun w1 c1=>ihl d (by omega) w1 u (Enc.keep (aDK c1) A)
   have f:∀ t,planT l=some t->t.Ok:=fun t e=>(aFm l t d (by omega) e).1
   rcases hk with hk | hk
   ·subst hk;rw [if_pos rfl];exact of_M g q j k f c
   ·rw [if_neg (by omega),if_neg (by omega)]
    have s:i=kindZ (opKd i)/\Rf.fn (opKd i):=by
     rcases hk with hk | hk | hk | hk<;>subst hk
     ·exact ⟨rfl,Or.inl rfl⟩
     ·exact ⟨rfl,Or.inr (Or.inl rfl)⟩
     ·exact ⟨rfl,Or.inr (Or.inr (Or.inl rfl))⟩
     ·exact ⟨rfl,Or.inr (Or.inr (Or.inr rfl))⟩
    rw [s.1] at g;exact of_F s.2 g q j k f c
  ·rw [if_neg (by omega),if_neg (by omega),if_neg (by omega),if_pos (by omega)]
   have c:∀ w1,Chg w w1 []->Calls Tryz.prog 66 #[u] w1 (Told2 w1 (planT l)):=fun w1 c1=>ihl d (by omega) w1 u (Enc.keep (aDK c1) A)
   have f:∀ t,planT l=some t->t.Ok:=fun t e=>(aFm l t d (by omega) e).1
   have m:∀ w1,Chg w w1 []->Calls Tryz.prog 66 #[C] w1 (Told2 w1 (planT r)):=fun w1 c1=>ihr p (by omega) w1 C (Enc.keep (aDK c1) D)
   have n:∀ t,planT r=some t->t.Ok:=fun t e=>(aFm r t p (by omega) e).1
   have s:i=kdK (kkKd i):=by rcases hk with hk | hk | hk | hk<;>subst hk<;>rfl
   rw [s] at g;exact of_B (kkKd i) g q j k f n c m
end Ab
end Go.Proofs.YteghhlfmcjmnoaaGreatDoor
