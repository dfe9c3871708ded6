import Derived.Test.YtkmojpfpfoaloaaGreatDoorCNe16
import Derived.Test.YtkmojpfpfoaloaaGreatDoorCNe15
import Derived.Lib.ItoaNum
set_option linter.all false
set_option maxRecDepth 100000
set_option maxHeartbeats 2000000
namespace Go.Proofs.YtkmojpfpfoaloaaGreatDoor
open Go.Proofs.Tryz
open Go.RowKit
theorem Nv {t:Rd.Tr}{st a:Rd.St}{y:Option Rd.Tr×Rd.St}(h:(bif st.okB then some (some t,a)else none)=some y):st.ok/\y=(some t,a):=by
 cases b:st.okB with
 |false=>rw[b]at h;cases h
 |true=>
  rw[b]at h;exact⟨Rd.St.yK b,(Option.some.inj h).symm⟩
theorem aND (p g j:Nat)(q:List Rd.Wd)(f:Nat)(E:kQ q)(W:Hid (jO p g j q 130 6 f))(w:World)(k:Int)(st:Rd.St)(res:Option Rd.Tr)(z:Rd.St)(r:Rdr w p g j q st)(b1:st.next<1000)
  (d:Rd.nameOf q k st (fun s=>Rd.parse q f 6 none s)=some (res,z)):Calls prog 129 #[.pointer (some ⟨p,0,none⟩),.int .i64 k] w (eN p g j q w res z):=by
 unfold Rd.nameOf at d;have L:=aC E;clear E;cases H:(k==0)
 ·have d1:=r.c1;have f1:=r.fz 1;have l:=r.xW (st.next+1) (m:=(st.next:Int)+1) (by simp);have o:aY p w (w.setCell ⟨p,1,none⟩ (.int .i64 ((st.next:Int)+1))):=(aY.refl _ _).setCell 1 _;have X:=l.lt;cases I:(k==2)
  ·cases O:(k==3)
   ·cases S:(k==4)
    ·rw[H,I,O,S]at d;simp only[cond_false,Bool.or_self]at d;obtain⟨x,F,C,D⟩:=pO d;have J:=aC C;have v:=aC D;clear d C D
     go_enter func129,ntmps129
     go_wp2_with fail
     refine(W.out _ st.aN x F l J.out).mono ?_;rintro e P⟨T,rfl,n,h,a⟩;have R:=h.lt;clear r l d1 f1
     cases x with
     |none=>
      rw[show T=Value.pointer none from n];clear n;have e:=v.out;simp only[Rd.dU,Option.some.injEq,Prod.mk.injEq]at e;obtain⟨rfl,rfl⟩:=e
      go_wp2_with fail
      refine(aIU _ _ _).mono ?_;rintro e Y⟨rfl,rfl⟩
      go_wp2_with fail
      go_ret
      exact eN.nil h (o.trans a)
     |some x=>
      obtain⟨⟨b4,y⟩,A⟩:=n;rw[y];rw[y]at A;clear y;obtain⟨N,u⟩:=aK8 v.out;simp only[Prod.mk.injEq]at u;obtain⟨rfl,rfl⟩:=u;clear v
      go_wp2_with fail
      refine(aGA _ p g j q F _ _ h N).mono ?_;rintro e Y⟨rfl,M,B,i⟩
      go_wp2_with fail
      go_ret
      exact⟨_,rfl,Cb (by omega) i (Or.inl ⟨rfl,rfl⟩) (fX.aT B A) rfl,M,(o.trans a).trans B⟩
    ·rw[H,I,O,S]at d;simp only[cond_true,cond_false,Bool.or_self]at d;have U:=aC d;clear d
     go_enter func129,ntmps129
     go_wp2_with fail
     refine(aGW _ p g j q st.aN l L.out res z U.out).mono ?_;rintro e P⟨T,rfl,n,h,a⟩
     go_wp2_with fail
     go_ret
     exact⟨_,rfl,n,h,o.trans a⟩
   ·rw[H,I,O]at d;simp only[cond_true,cond_false,Bool.or_true]at d;obtain⟨ok,u⟩:=Nv d;simp only[Prod.mk.injEq]at u;obtain⟨rfl,rfl⟩:=u;clear d
    go_enter func129,ntmps129
    go_wp2_with fail
    refine(Te _ p g j q st.aN _ (l.alloc _) ok).mono ?_;rintro e P⟨rfl,h,a⟩;have i:=Mc (b:=w.heap.size) a (Hg _ _ _).symm (by have:=r.lt;omega)
    go_wp2_with fail
    go_ret
    exact⟨_,rfl,Cb (by have:=r.lt;omega) i (Or.inl ⟨rfl,rfl⟩) rfl rfl,h,(o.alloc _).trans a⟩
  ·rw[H,I]at d;simp only[cond_true,cond_false,Bool.true_or]at d;obtain⟨ok,u⟩:=Nv d;simp only[Prod.mk.injEq]at u;obtain⟨rfl,rfl⟩:=u;clear d
   go_enter func129,ntmps129
   go_wp2_with fail
   refine(Te _ p g j q st.aN _ (l.alloc _) ok).mono ?_;rintro e P⟨rfl,h,a⟩;have i:=Mc (b:=w.heap.size) a (Hg _ _ _).symm (by have:=r.lt;omega)
   go_wp2_with fail
   go_ret
   exact⟨_,rfl,Cb (by have:=r.lt;omega) i (Or.inl ⟨rfl,rfl⟩) rfl rfl,h,(o.alloc _).trans a⟩
 ·rw[H]at d;simp only[cond_true,Option.some.injEq,Prod.mk.injEq]at d;obtain⟨rfl,rfl⟩:=d
  go_enter func129,ntmps129
  go_wp2_with fail
  go_ret
  exact eN.nil r (aY.refl _ _)
theorem aMA (q g i:Nat)(n:List Rd.Wd)(f:Nat)(p:kQ n)(H:Hid (∀k,k<f->jO q g i n 130 6 k)):jO q g i n 106 5 f:=by
 intro w st res v r a
 obtain⟨f0,rfl⟩:∃f0,f=f0+1:=by
  cases f with
  |zero=>cases a
  |succ f0=>exact⟨f0,rfl⟩
 rw[Rd.parse]at a
 cases y:st.okB with
 |false=>rw[y]at a;cases a
 |true=>
  rw[y]at a;simp only[cond_true]at a;have ok:=Rd.St.yK y;have b1:st.next<1000:=ok.1;clear y ok;have u:=p st.next;have C:=aC p;clear p
  have D:Hid (∀W,Rdr W q g i n st->Calls prog 48 #[.pointer (some ⟨q,0,none⟩)] W fun e E=>e=.returned (.agg #[.int .i64 (Rd.aD n st.next).kind,.string (Rd.aD n st.next).text,.int .i64 (Rd.aD n st.next).pos])/\Below W.heap.size W E):=fun W N=>Hc W q g i n st N
  generalize Rd.aD n st.next=x at*;have B:=aC u;clear u;cases z:(x.kind==1)
  ·cases J:(x.kind==2)
   ·rw[z,J]at a;simp only[cond_false]at a;have A:=aC a;clear a
    go_enter func106,ntmps106
    go_wp2_with fail
    refine(D.out _ r).mono ?_;rintro e F⟨rfl,h⟩;have d:=r.below h
    go_wp2_with fail
    refine(H.out f0 (by omega) _ st res v (d.alloc _) A.out).mono ?_;rintro e L⟨P,rfl,o,l,j⟩
    go_wp2_with fail
    go_ret
    exact⟨_,rfl,o,l,((aY.eH h).alloc _).trans j⟩
   ·rw[z,J]at a;simp only[cond_true,cond_false]at a;have A:=aC a;clear a;have M:=aC (H.out f0 (by omega))
    go_enter func106,ntmps106
    go_wp2_with fail
    refine(D.out _ r).mono ?_;rintro e F⟨rfl,h⟩;have d:=r.below h
    go_wp2_with (go_at_call 128;refine(aNE _ _).mono ?_;rintro e E⟨rfl,rfl⟩)
    refine(aND q g i n f0 C.out M _ _ st res v (d.alloc _) b1 A.out).mono ?_;rintro e L⟨P,rfl,o,l,j⟩
    go_wp2_with fail
    go_ret
    exact⟨_,rfl,o,l,((aY.eH h).alloc _).trans j⟩
  ·have O:x.text.size<=9:=B.out (by simpa using z);rw[z]at a;simp only[cond_true]at a;obtain⟨ok,I⟩:=Nv a;simp only[Prod.mk.injEq]at I;obtain⟨rfl,rfl⟩:=I;clear a
   go_enter func106,ntmps106
   go_wp2_with fail
   refine(D.out _ r).mono ?_;rintro e F⟨rfl,h⟩;have d:=r.below h;have d1:=d.c1;have f1:=d.fz 1;have R:=d.lt
   go_wp2_with (go_at_call 126;refine(Yb _ _ _ _ O).mono ?_;rintro e E⟨rfl,rfl⟩)
   refine(Te _ q g i n st.aN _ ((((d.xW (st.next+1) (by simp)).alloc _).alloc _).alloc _) ok).mono ?_;rintro e L⟨rfl,l,j⟩;have s:=Mc (b:=F.heap.size+1+1) j (by simp[Hg]) (by omega)
   go_wp2_with fail
   go_ret
   exact⟨_,rfl,Cb (by omega) s (Or.inl ⟨rfl,rfl⟩) rfl rfl,l,(((((aY.eH h).setCell 1 _).alloc _).alloc _).alloc _).trans j⟩
theorem Mu (e g a:Nat)(d:List Rd.Wd)(i:kQ d):∀n f,f<=n->
  jO e g a d 47 0 f/\jO e g a d 68 2 f/\jO e g a d 87 4 f/\jO e g a d 106 5 f/\jO e g a d 130 6 f:=by
 intro n
 induction n with
 |zero=>
  intro f j
  obtain rfl:f=0:=by omega
  refine⟨?_,?_,?_,?_,?_⟩<;>(intro w st res o _ l;cases l)
 |succ n h=>
  intro f j
  have lt:∀k,k<f->k<=n:=fun k b=>by omega
  exact ⟨aQa e g a d f (fun k b=>(h k (lt k b)).2.1),aIr e g a d f (fun k b=>(h k (lt k b)).2.2.1),
   aJJ e g a d f (fun k b=>(h k (lt k b)).2.2.1) (fun k b=>(h k (lt k b)).2.2.2.1),
   aMA e g a d f i (fun k b=>(h k (lt k b)).2.2.2.2),aGL e g a d f (fun k b=>(h k (lt k b)).1)⟩
theorem aJB (s:ByteArray)(a:Nat):∀f e,e<=a+9->Rd.cJ s a f e<=a+9:=by
 intro f
 induction f with
 |zero=>intro e h;exact h
 |succ f b=>
  intro e h;unfold Rd.cJ
  cases hc:decide (e<s.size/\e-a<9)&&Rd.isDig (Rd.aQ s e)with
  |false=>exact h
  |true=>
   simp only[Bool.and_eq_true,decide_eq_true_eq]at hc;exact b (e+1) (by omega)
theorem aL3 (s:ByteArray):∀f a,∀x∈Rd.split s f a,x.kind=1->x.text.size<=9:=by
 intro f
 induction f with
 |zero=>intro a x hx;simp[Rd.split]at hx
 |succ f i=>
  intro a x hx;rw[Rd.split]at hx
  cases b:decide (a<s.size)with
  |false=>
   rw[b]at hx;simp at hx;subst hx;intro h;simp at h
  |true=>
   rw[b]at hx;simp only[decide_eq_true_eq]at b
   cases g:(Rd.aQ s a != 32)with
   |false=>
    rw[g]at hx;exact i _ x hx
   |true=>
    rw[g]at hx;simp only[cond_true,List.mem_cons]at hx
    rcases hx with rfl|hx
    ·intro e;simp only at e
     have d:Rd.isDig (Rd.aQ s a)=true:=by
      cases d:Rd.isDig (Rd.aQ s a)with
      |true=>rfl
      |false=>
       rw[Rd.kindOf,d]at e
       cases j:Rd.isLet (Rd.aQ s a)<;>simp[j]at e
     have k:Rd.wordEnd s a<=a+9:=by
      rw[Rd.wordEnd,d];exact aJB s a 9 (a+1) (by omega)
     show(s.extract a (Rd.wordEnd s a)).size<=9;rw[ByteArray.size_extract];omega
    ·exact i _ x hx
theorem Zp (s:ByteArray)(f a:Nat):kQ (Rd.split s f a):=by
 intro n b;unfold Rd.aD at*
 rcases Nat.lt_or_ge n (Rd.split s f a).length with h|h
 ·rw[show(Rd.split s f a).getD n ⟨0,⟨#[]⟩,0⟩=(Rd.split s f a)[n] by simp[List.getD,h]]at*;exact aL3 s f a _ (List.getElem_mem h) b
 ·rw[show(Rd.split s f a).getD n ⟨0,⟨#[]⟩,0⟩=⟨0,⟨#[]⟩,0⟩ by simp[List.getD,h]]at b;simp at b
theorem aOt (s:ByteArray):∀f a,s.size<f+a->a<=s.size->0<(Rd.split s f a).length:=by
 intro f
 induction f with
 |zero=>intro a h e;omega
 |succ f g=>
  intro a h e;rw[Rd.split]
  cases b:decide (a<s.size)with
  |false=>simp
  |true=>
   simp only[decide_eq_true_eq]at b
   cases j:(Rd.aQ s a != 32)with
   |true=>simp
   |false=>
    have i:=Rd.Gz s a;have d:=Rd.Ka s a b;exact g _ (by omega) d
theorem aHc (s:ByteArray)(w:World)(D:s.size<=120):
  Calls prog 46 #[.string s] w fun e q=>∃l g a,e=.returned (.pointer (some ⟨l,0,none⟩))/\w.heap.size<=l/\Rdr q l g a (Rd.split s (s.size+1) 0) ⟨0,0,0,0⟩/\Below w.heap.size w q:=by
 have p:=aOt s (s.size+1) 0 (by omega) (by omega);have y:=aC (aOq s w D);generalize Rd.split s (s.size+1) 0=n at*
 go_enter func46,ntmps46
 go_wp2_with fail
 refine(y.out).mono ?_;rintro e r⟨v,rfl,d,o⟩
 obtain⟨g,a,b,hv,E,k,f⟩:∃g a b,v=.slice (some ⟨g,0,none⟩) n.length a/\w.heap.size<=g/\r.heap[g]?=some (.cells b 105 (0,0))/\b.toList.take (n.length*3)=Rd.dV n:=by
  rcases d.2 with⟨_,h⟩|⟨g,a,b,z,A,B,_,_,_,C⟩
  ·omega
  ·exact⟨g,a,b,z,A,B,C⟩
 rw[hv];have j:=o.size;have i:=eZ k;have u:=aC k;have x:=aC f;clear hv d k f
 go_wp2_with fail
 go_ret
 refine⟨r.heap.size,g,a,rfl,j,⟨jC _ _,⟨b,?_,x.out⟩,by omega⟩,o.alloc j _⟩;rw[Below.heap_alloc _ _ _ i];exact u.out
variable {w d:Nat}{n:World}
theorem Mg {b D:World}(h:Below w n b)(a:aY d b D)(f:w<=d)(g:w<=b.heap.size):Below w n D:=
 h.trans ⟨a.os,a.tape,a.output,a.size,fun k e=>a.block k (by omega) (by omega)⟩
def zA (w:World)(x:Option Rd.Tr×Int×Int)(e:Ending)(b:World):Prop:=
 ∃a v,e=.returned (.tuple #[v,.int .i64 x.2.1,.int .i64 x.2.2])/\w.heap.size<=a/\wP a b x.1 v/\Below w.heap.size w b
theorem aIS (f:Nat)(s:ByteArray)(w:World)(x:Option Rd.Tr×Int×Int)(Y:s.size<=maxLen)(q:Rd.read f s=some x):Calls prog 35 #[.string s] w (zA w x):=by
 unfold maxLen at Y;unfold Rd.read at q
 by_cases U:120<s.size
 ·rw[decide_eq_true U]at q;simp only[cond_true,Option.some.injEq]at q;subst q
  go_enter func35,ntmps35
  go_wp2_with fail
  go_ret3
  exact⟨_,_,rfl,Nat.le_refl _,rfl,Below.refl _ _⟩
 ·rw[decide_eq_false U]at q;simp only[cond_false]at q;have I:=Zp s (s.size+1) 0;generalize T:Rd.parse (Rd.split s (s.size+1) 0) f 0 none ⟨0,0,0,0⟩=R at q;have F:=aC (aHc s w (by omega));generalize Rd.split s (s.size+1) 0=B at*;have D:=aC I;have C:=aC T;clear I T
  cases R with
  |none=>cases q
  |some y=>
   obtain⟨t,st⟩:=y
   have H:Hid (∀W u g l,Rdr W u g l B st->Calls prog 48 #[.pointer (some ⟨u,0,none⟩)] W fun e w'=>e=.returned (.agg #[.int .i64 (Rd.aD B st.next).kind,.string (Rd.aD B st.next).text,.int .i64 (Rd.aD B st.next).pos])/\Below W.heap.size W w'):=fun W u g l X=>Hc W u g l B st X
   cases t with
   |none=>
    simp only[Option.some.injEq]at q;generalize Rd.aD B st.next=x at*;subst q
    go_enter func35,ntmps35
    go_wp2_with fail
    refine(F.out).mono ?_;rintro e M⟨u,g,l,rfl,j,o,b⟩
    go_wp2_with fail
    refine((Mu u g l B D.out f f (Nat.le_refl _)).1 _ _ _ st o C.out).mono ?_;rintro e N⟨J,rfl,r,p,n⟩;have d:=Mg b n j b.size;have k:=d.size;rw[show J=Value.pointer none from r]
    go_wp2_with fail
    refine(H.out _ _ _ _ p).mono ?_;rintro e E⟨rfl,a⟩;have A:=a.size
    go_wp2_with fail
    go_quiet (fail)
    go_wp2_with fail
    go_ret3
    exact⟨u,_,rfl,j,rfl,below_drewN ((d.trans (a.mono k)).alloc (by omega) _) _⟩
   |some t=>
    simp only at q;generalize Rd.aD B st.next=x at*;cases L:(x.kind==0)
    ·have S:(x.kind != 0)=true:=by simp[bne,L]
     rw[L]at q;simp only[cond_false,Option.some.injEq]at q;subst q
     go_enter func35,ntmps35
     go_wp2_with fail
     refine(F.out).mono ?_;rintro e M⟨u,g,l,rfl,j,o,b⟩
     go_wp2_with fail
     refine((Mu u g l B D.out f f (Nat.le_refl _)).1 _ _ _ st o C.out).mono ?_;rintro e N⟨J,rfl,r,p,n⟩;have d:=Mg b n j b.size;have k:=d.size;obtain⟨⟨b5,i⟩,v⟩:=r;rw[i];rw[i]at v;clear i
     go_wp2_with fail
     refine(H.out _ _ _ _ p).mono ?_;rintro e E⟨rfl,a⟩;have A:=a.size;have z:Below w.heap.size w E:=d.trans (a.mono k);have h:=p.below a;have d3:=h.c3;have O:=h.c4;have P:=h.lt;clear b o n d
     go_wp2_with fail
     go_quiet (fail)
     go_wp2_with fail
     go_ret3
     exact⟨u,_,rfl,j,rfl,below_drewN (z.alloc (by omega) _) _⟩
    ·have S:(x.kind != 0)=false:=by simp[bne,L]
     rw[L]at q;simp only[cond_true]at q
     by_cases u2:(12:Int)<st.deepest
     ·rw[decide_eq_true (show 12<st.deepest by omega)]at q;simp only[Bool.true_or,cond_true,Option.some.injEq]at q;subst q
      go_enter func35,ntmps35
      go_wp2_with fail
      refine(F.out).mono ?_;rintro e M⟨u,g,l,rfl,j,o,b⟩
      go_wp2_with fail
      refine((Mu u g l B D.out f f (Nat.le_refl _)).1 _ _ _ st o C.out).mono ?_;rintro e N⟨J,rfl,r,p,n⟩;have d:=Mg b n j b.size;have k:=d.size;obtain⟨⟨b5,i⟩,v⟩:=r;rw[i];rw[i]at v;clear i
      go_wp2_with fail
      refine(H.out _ _ _ _ p).mono ?_;rintro e E⟨rfl,a⟩;have A:=a.size;have z:Below w.heap.size w E:=d.trans (a.mono k);have h:=p.below a;have d3:=h.c3;have O:=h.c4;have P:=h.lt;clear b o n d
      go_wp2_with fail
      go_ret3
      exact⟨u,_,rfl,j,rfl,z.alloc (by omega) _⟩
     ·rw[decide_eq_false (show¬12<st.deepest by omega)]at q
      by_cases u3:(40:Int)<st.nodes
      ·rw[decide_eq_true (show 40<st.nodes by omega)]at q;simp only[Bool.or_true,cond_true,Option.some.injEq]at q;subst q
       go_enter func35,ntmps35
       go_wp2_with fail
       refine(F.out).mono ?_;rintro e M⟨u,g,l,rfl,j,o,b⟩
       go_wp2_with fail
       refine((Mu u g l B D.out f f (Nat.le_refl _)).1 _ _ _ st o C.out).mono ?_;rintro e N⟨J,rfl,r,p,n⟩;have d:=Mg b n j b.size;have k:=d.size;obtain⟨⟨b5,i⟩,v⟩:=r;rw[i];rw[i]at v;clear i
       go_wp2_with fail
       refine(H.out _ _ _ _ p).mono ?_;rintro e E⟨rfl,a⟩;have A:=a.size;have z:Below w.heap.size w E:=d.trans (a.mono k);have h:=p.below a;have d3:=h.c3;have O:=h.c4;have P:=h.lt;clear b o n d
       go_wp2_with fail
       go_ret3
       exact⟨u,_,rfl,j,rfl,z.alloc (by omega) _⟩
      ·rw[decide_eq_false (show¬40<st.nodes by omega)]at q;simp only[Bool.or_false,cond_false,Option.some.injEq]at q;subst q
       go_enter func35,ntmps35
       go_wp2_with fail
       refine(F.out).mono ?_;rintro e M⟨u,g,l,rfl,j,o,b⟩
       go_wp2_with fail
       refine((Mu u g l B D.out f f (Nat.le_refl _)).1 _ _ _ st o C.out).mono ?_;rintro e N⟨J,rfl,r,p,n⟩;have d:=Mg b n j b.size;have k:=d.size;obtain⟨⟨b5,i⟩,v⟩:=r;rw[i];rw[i]at v;clear i
       go_wp2_with fail
       refine(H.out _ _ _ _ p).mono ?_;rintro e E⟨rfl,a⟩;have A:=a.size;have z:Below w.heap.size w E:=d.trans (a.mono k);have h:=p.below a;have d3:=h.c3;have O:=h.c4;have P:=h.lt;clear b o n d
       go_wp2_with fail
       go_ret3
       exact⟨u,_,rfl,j,⟨⟨b5,rfl⟩,fX.aT ((aY.eH a).alloc _) v⟩,z.alloc (by omega) _⟩
def gM (B:Nat)(w:World)(x:Option Rd.Tr)(v:Value):Prop:=
 match x with
 |none=>v=.pointer none
 |some t=>∃b a d,v=.pointer (some ⟨a,0,none⟩)/\B<=b/\B<=a/\w.heap[a]?=some (.cells #[d] 73 (0,0))/\wP b w (some t) d
def yT (w:World)(x:Option Rd.Tr×Int×Int)(e:Ending)(a:World):Prop:=
 ∃v,e=.returned (.tuple #[v,.int .i64 x.2.1,.int .i64 x.2.2])/\gM w.heap.size a x.1 v/\Below w.heap.size w a
theorem aSP {s:ByteArray}{x:Option Rd.Tr×Int×Int}(h:Rd.read w s=some x):(x.1=none/\(x.2.1 != 0)=true)\/(∃t,x=(some t,0,0)):=by
 unfold Rd.read at h
 cases a:decide (120<s.size)with
 |true=>
  rw[a]at h;simp only[cond_true,Option.some.injEq]at h;subst h;exact Or.inl ⟨rfl,rfl⟩
 |false=>
  rw[a]at h;simp only[cond_false]at h;split at h
  ·cases h
  ·simp only[Option.some.injEq]at h;subst h;exact Or.inl ⟨rfl,rfl⟩
  ·rename_i t st _;generalize ((Rd.aD (Rd.split s (s.size+1) 0) st.next).kind==0)=b at h;generalize (decide (12<st.deepest)||decide (40<st.nodes))=c at h;cases b
   ·simp only[cond_false,Option.some.injEq]at h;subst h;exact Or.inl ⟨rfl,rfl⟩
   ·cases c
    ·simp only[cond_true,cond_false,Option.some.injEq]at h;exact Or.inr ⟨t,h.symm⟩
    ·simp only[cond_true,Option.some.injEq]at h;subst h;exact Or.inl ⟨rfl,rfl⟩
theorem Lx (f:Nat)(s:ByteArray)(w:World)(x:Option Rd.Tr×Int×Int)(j:s.size<=maxLen)(i:Rd.read f s=some x):Calls prog 18 #[.string s] w (yT w x):=by
 have k:=aC (aIS f s w x j i)
 rcases aSP i with⟨l,q⟩|⟨t,rfl⟩
 ·obtain⟨t,r,u⟩:=x;simp only at l q;subst l;clear i j
  go_enter func18,ntmps18
  go_wp2_with fail
  refine(k.out).mono ?_;rintro e p⟨o,v,rfl,d,n,h⟩
  go_wp2_with fail
  go_ret3
  exact⟨_,rfl,rfl,h⟩
 ·clear i j
  go_enter func18,ntmps18
  go_wp2_with fail
  refine(k.out).mono ?_;rintro e p⟨o,v,rfl,d,n,h⟩;obtain⟨⟨b,hv⟩,a⟩:=n;rw[hv];rw[hv]at a;clear hv;have g:=h.size
  go_wp2_with fail
  go_ret3
  exact⟨_,rfl,⟨o,p.heap.size,_,rfl,d,g,jC _ _,⟨b,rfl⟩,fX.aT ((aY.refl _ _).alloc _) a⟩,h.alloc g _⟩
variable {z:Value}
theorem Oe {e size W:Nat}{i:List Value}(h:n.ownsRow w e size z W i):∃a ln cp,z=.slice a ln cp:=by
 rcases h.2 with⟨rfl,_⟩|⟨g,b,d,rfl,_⟩
 ·exact⟨_,_,_,rfl⟩
 ·exact⟨_,_,_,rfl⟩
theorem Yy {a:Addr}(h:n.cell? a=some z):a.block<n.heap.size:=by
 unfold World.cell? at h;split at h
 ·rename_i e;exact eZ e
 ·cases h
variable {ts:List Int}
theorem aIL {c:Nat}(h:c<ts.length):ts.take (c+1)=ts.take c++[ts[c]]:=(List.take_append_getElem h).symm
def Hs (w:World)(ts:List Int)(l i:Value)(wr:World):Prop:=
 ∃c:Nat,c<=ts.length/\i=.int .i64 c/\wr.ownsRow w.heap.size 3 1 l c ((ts.take c).map (Value.int .i64))/\Below w.heap.size w wr
theorem aGV (w:World)(b:Nat)(y x:Int)(ts:List Int)(A:Option Addr)(p:Nat)(R S:Value)(U:ts.length<=1000)(v:w.heap[b]?=some (.cells #[.int .i64 y,.int .i64 x,.slice A ts.length p,R,S] 111 (0,0)))(hc:∀k,(h:k<ts.length)->∃tb,A=some ⟨tb,0,none⟩/\w.cell? ⟨tb,k,none⟩=some (.int .i64 ts[k])):
  Calls prog 57 #[.pointer (some ⟨b,0,none⟩)] w fun e H=>∃l,∃m,e=.returned (.pointer (some ⟨m,0,none⟩))/\H.ownsRow w.heap.size 3 1 l ts.length (ts.map (Value.int .i64))/\H.heap[m]?=some (.cells #[.int .i64 y,.bool false,.slice none 0 0,.bool false,.slice none 0 0,l,.pointer none,.pointer none] 126 (0,0))/\Below w.heap.size w H:=by
 obtain⟨i,hi,P,n,C⟩:=info_parts vR;have k0:w.cell? ⟨b,0,none⟩=some (.int .i64 y):=bK v rfl;have J:w.cell? ⟨b,2,none⟩=some (.slice A ts.length p):=bK v rfl;have N:=eZ v;clear v
 go_enter func57,ntmps57
 go_wp2_with fail
 go_loopw [3,4] (fun l i wr=>Hs w ts l i wr) (fun _ i _=>ts.length-(intOf i).toNat)
 case atStart=>
  refine⟨0,Nat.zero_le _,rfl,⟨rfl,Or.inr ⟨w.heap.size,0,#[],rfl,Nat.le_refl _,jC _ _,Nat.le_refl _,by decide,rfl,rfl⟩⟩,(Below.refl _ _).alloc (Nat.le_refl _) _⟩
 case round=>
  obtain⟨c,O,rfl,d,a⟩:=hrel;have B:=a.size;have d0:=(a.cell (Yy k0)).trans k0;have d2:=(a.cell (Yy J)).trans J
  by_cases r:c<ts.length
  ·obtain⟨tb,rfl,F⟩:=hc c r;have T:=(a.cell (Yy F)).trans F;have M:=hid (aIL r);obtain⟨o,s,q,rfl⟩:=Oe d
   have E:(c:Int)<ts.length:=by omega
   clear F hc;generalize ts[c]=x at*
   go_wp2_with (at_builtin;(refine wpList_append_own _ rfl _ _ 75 rfl w.heap.size 3 i (.int .i64 0) 1 8 underlying75 hi P n C rfl (by decide) _ _ _ rfl (d.alloc _) ⟨wr.heap.size,0,none⟩ 1 1 [.int .i64 x] rfl rfl (cell_one_new _ _ _) (fun u I=>by simp at I;subst I;rfl) (by unfold maxLen;omega) (by omega) (by simp;omega) ?_;intro W X g f j;have L:=hid (Cw d a a.size _ f);have z:=hid g;clear j f g))
   go_roundw
   case rel=>
    refine⟨c+1,by omega,by go_num,?_,L.out⟩;rw[M.out,List.map_append];exact z.out
   case measure=>simp[intOf];omega
  ·have D:c=ts.length:=by omega
   have E:¬(c:Int)<ts.length:=by omega
   have z:=hid d;obtain⟨o,s,q,rfl⟩:=Oe d;clear d
   go_wp2_with fail
   go_ret
   refine⟨_,_,rfl,?_,jC _ _,a.alloc B _⟩;have:=(z.out).alloc (.cells #[.int .i64 y,.bool false,.slice none 0 0,.bool false,.slice none 0 0,.slice o s q,.pointer none,.pointer none] 126 (0,0));rw[D,List.take_length]at this;exact this
namespace Ab
open Rf (Nd Inv aZ Wt)
def sT (kd x:Int)(tv lv rv:Value)(a:List AT):AS:=⟨a,[(0,ext [.int .i64 kd,.sint .i64 x,.lit tv,.lit lv,.lit rv] 111)],1,[],[]⟩
def sU (a:List AT):AS:=⟨a,[],0,[],[]⟩
def stT (a:List (K (List AT))):Bool:=mX (fun o=>aG 43 o||aG 57 o||aG 58 o||aG 59 o||aG 60 o) a
abbrev Lp:List AT:=P0::List.replicate 78 .gC
noncomputable def xY (b:List Nat)(a:List (K (List AT)))(s:AS):Option XT:=(run Z (aE tP) bP (aO Z (aE tP)) stT 400 a s).bind (eD (fG [0] [] 1 []) (fG [0] b 1 []))
noncomputable def tK':List (K (List AT)):=[.code (aF f43),.top f43]
noncomputable def mR (a:List (K (List AT)))(s:AS):Option Tr:=run Z (aE tP) bP (aO Z (aE tP)) (fun _=>false) 50 a s
abbrev nJ (v:Value)(e:Int):AT:=fV (.lit v) e
noncomputable def o1 (x:Int)(tv lv rv:Value):Option Tr:=run Z (aE tP) bP (aO Z (aE tP)) (fun _=>false) 400 tK' (sT 1 x tv lv rv Lp)
noncomputable def o1S (x:Int)(tv lv rv:Value):AS:=(((o1 x tv lv rv).bind (dI [])).map (·.2)).getD ⟨[],[],0,[],[]⟩
section
variable (x kd e:Int) (tv lv rv v v1 v2:Value)
theorem u_1:o1 x tv lv rv=some (.need [x.natAbs<1000000000000000000] (.ret (fV (.ptr 2 0) 0) (o1S x tv lv rv))):=by kernel_rfl
theorem aY7:gD (o1S x tv lv rv) 2 1 [x,1] (.lit aB) (.lit aB):=⟨by kernel_rfl,by kernel_rfl⟩
theorem aY6:clean (o1S x tv lv rv)=true:=by kernel_rfl
theorem u_C {kd:Int}(h:kd=2\/kd=3\/kd=4):xY [25] tK' (sT kd x tv lv rv Lp)=some (.stp (eF (pD 26) f43) (sT kd x tv lv rv (slot [(25,P0)] 0 79))):=by
 rcases h with rfl|rfl|rfl<;>kernel_rfl
theorem u_L {kd:Int}(h:kd=5\/kd=6\/kd=7\/kd=8\/kd=9\/kd=10\/kd=11\/kd=12\/kd=13):xY [0,31] tK' (sT kd x tv lv rv Lp)=some (.stp (eF (pD 32) f43) (sT kd x tv lv rv (slot [(0,P0),(31,litT lv)] 0 79))):=by
 rcases h with rfl|rfl|rfl|rfl|rfl|rfl|rfl|rfl|rfl<;>kernel_rfl
theorem aZa:(mR (fQ (pD 32) f43) (sU (slot [(32,nJ aB 5)] 0 79))).bind iW=some (nJ aB 5,true):=by kernel_rfl
theorem u_M:xY [44] (fQ (pD 32) f43) (sT 5 x tv lv rv (slot [(0,P0),(32,nJ v1 0)] 0 79))=some (.stp (eF (pD 45) f43) (sT 5 x tv lv rv (slot [(44,litT v1)] 0 79))):=by kernel_rfl
theorem u_F {kd:Int}(h:kd=10\/kd=11\/kd=12\/kd=13):xY [54,55] (fQ (pD 32) f43) (sT kd x tv lv rv (slot [(0,P0),(32,nJ v1 0)] 0 79))=some (.stp (eF (pD 56) f43) (sT kd x tv lv rv (slot [(54,.val (.one (.int .i64 kd))),(55,litT v1)] 0 79))):=by
 rcases h with rfl|rfl|rfl|rfl<;>kernel_rfl
theorem u_B (a:Rf.Kind):xY [0,4,63] (fQ (pD 32) f43) (sT (cW a) x tv lv rv (slot [(0,P0),(32,nJ v1 0)] 0 79))=some (.stp (eF (pD 64) f43) (sT (cW a) x tv lv rv (slot [(0,P0),(4,litT v1),(63,litT rv)] 0 79))):=by
 cases a<;>kernel_rfl
theorem aY9:(mR (fQ (pD 64) f43) (sU (slot [(64,nJ aB 5)] 0 79))).bind iW=some (nJ aB 5,true):=by kernel_rfl
theorem aY8 (a:Rf.Kind):xY [73,74,75] (fQ (pD 64) f43) (sT (cW a) x tv lv rv (slot [(0,P0),(4,litT v1),(64,nJ v2 0)] 0 79))=some (.stp (eF (pD 76) f43) (sT (cW a) x tv lv rv (slot [(73,.val (.one (.int .i64 (cW a)))),(74,litT v1),(75,litT v2)] 0 79))):=by
 cases a<;>kernel_rfl
theorem y_C:(mR (fQ (pD 26) f43) (sU (slot [(26,litT v)] 0 79))).bind iW=some (nJ v 0,true):=by kernel_rfl
theorem y_M:(mR (fQ (pD 45) f43) (sU (slot [(45,litT v)] 0 79))).bind iW=some (nJ v 0,true):=by kernel_rfl
theorem y_F:(mR (fQ (pD 56) f43) (sU (slot [(56,nJ v e)] 0 79))).bind iW=some (nJ v e,true):=by kernel_rfl
theorem y_B:(mR (fQ (pD 76) f43) (sU (slot [(76,nJ v e)] 0 79))).bind iW=some (nJ v e,true):=by kernel_rfl
theorem z_C:cR Z (sT kd x tv lv rv (slot [(25,P0)] 0 79)) (eF (pD 26) f43)=some (57,[.one (.ptr 0 0)],some 26,fQ (pD 26) f43):=by kernel_rfl
theorem z_L:cR Z (sT kd x tv lv rv (slot [(0,P0),(31,litT lv)] 0 79)) (eF (pD 32) f43)=some (43,[.one (.lit lv)],some 32,fQ (pD 32) f43):=by kernel_rfl
theorem z_M:cR Z (sT kd x tv lv rv (slot [(44,litT v1)] 0 79)) (eF (pD 45) f43)=some (58,[.one (.lit v1)],some 45,fQ (pD 45) f43):=by kernel_rfl
theorem z_F:cR Z (sT kd x tv lv rv (slot [(54,.val (.one (.int .i64 kd))),(55,litT v1)] 0 79)) (eF (pD 56) f43)=some (59,[.one (.int .i64 kd),.one (.lit v1)],some 56,fQ (pD 56) f43):=by kernel_rfl
theorem z_B:cR Z (sT kd x tv lv rv (slot [(0,P0),(4,litT v1),(63,litT rv)] 0 79)) (eF (pD 64) f43)=some (43,[.one (.lit rv)],some 64,fQ (pD 64) f43):=by kernel_rfl
theorem aZf:cR Z (sT kd x tv lv rv (slot [(73,.val (.one (.int .i64 kd))),(74,litT v1),(75,litT v2)] 0 79)) (eF (pD 76) f43)=some (60,[.one (.int .i64 kd),.one (.lit v1),.one (.lit v2)],some 76,fQ (pD 76) f43):=by kernel_rfl
theorem Dh:noFr (eF (pD 26) f43)=true/\noFr (eF (pD 32) f43)=true/\noFr (eF (pD 45) f43)=true/\noFr (eF (pD 56) f43)=true/\noFr (eF (pD 64) f43)=true/\noFr (eF (pD 76) f43)=true:=⟨by kernel_rfl,by kernel_rfl,by kernel_rfl,by kernel_rfl,by kernel_rfl,by kernel_rfl⟩
end
end Ab
namespace Rd
open Go.Deep (BT)
def aP (k:Int):Int:=bif k==6||k==7 then 1 else bif k==8||k==9 then 2 else bif k==5 then 3 else 4
def sym (k:Int):List UInt8:=
 bif k==2 then [112,105]else bif k==3 then [101]else bif k==4 then [99,102]else bif k==10 then [115,113,114,116]
 else bif k==11 then [101,120,112]else bif k==12 then [108,110,49,112]else bif k==13 then [97,116,97,110]
 else bif k==6 then [43]else bif k==5||k==7 then [45]else bif k==8 then [42]else bif k==9 then [47]else []
def nP (b:Bool)(x:List UInt8):List UInt8:=bif b then 40::(x++[41])else x
def aS:Tr->Int
 |.nil=>0
 |.node _ _ a _ _=>a.1
def dec (v:Int):List UInt8:=Lib.decDigits v.toNat
def sep (k:Nat):List UInt8:=bif k==0 then []else bif k==1 then [59,32]else [44,32]
def eT (ts:List Int):Nat->List UInt8
 |0=>[99,102,91]
 |k+1=>eT ts k++(sep k++dec (ts.getD k 0))
def dX (ts:List Int):List UInt8:=eT ts ts.length++[93]
def oR (a:Int×Int×List Int)(b d:Int)(x y:List UInt8):List UInt8:=
 bif a.1==1 then dec a.2.1
 else bif a.1==4 then dX a.2.2
 else bif a.1==5 then 45::nP (decide (aP b<3)) x
 else bif decide (10<=a.1/\a.1<=13)then sym a.1++40::(x++[41])
 else bif decide (6<=a.1/\a.1<=9)then nP (decide (aP b<aP a.1)) x++32::(sym a.1++32::nP (decide (aP d<aP a.1+1)) y)
 else sym a.1
def text:Tr->List UInt8
 |.nil=>[]
 |.node _ _ a l r=>oR a (aS l) (aS r) (text l) (text r)
def cU (v:Int):Prop:=0<=v/\v<1000000000
def Wf:Tr->Prop
 |.nil=>False
 |.node _ _ a l r=>
  (a.1=1/\cU a.2.1/\a.2.2=[]/\l=.nil/\r=.nil)\/
  ((a.1=2\/a.1=3)/\a.2.1=0/\a.2.2=[]/\l=.nil/\r=.nil)\/
  (a.1=4/\(∀x∈a.2.2,cU x)/\2<=a.2.2.length/\a.2.2.length<=9/\a.2.1=0/\l=.nil/\r=.nil)\/
  ((a.1=5\/a.1=10\/a.1=11\/a.1=12\/a.1=13)/\Wf l/\a.2.2=[]/\r=.nil)\/
  ((a.1=6\/a.1=7\/a.1=8\/a.1=9)/\Wf l/\Wf r/\a.2.2=[])
def lY:Tr->Nat
 |.nil=>0
 |.node _ _ _ l r=>lY l+lY r+1
theorem Cd {v:Int}(h:cU v):(dec v).length<=9:=by
 unfold dec;rw[Lib.decDigits_length]
 have b:v.toNat<1000000000:=by have:=h.2;omega
 generalize v.toNat=u at b
 have a:∀k u,u<10^(k+1)->Lib.nDigits u<=k+1:=by
  intro k
  induction k with
  |zero=>intro u h;rw[Lib.nDigits_small (by simpa using h)];omega
  |succ k e=>
   intro u h
   by_cases d:u<10
   ·rw[Lib.nDigits_small d];omega
   ·rw[Lib.nDigits_big d];have:=e (u/10) (by rw[Nat.pow_succ]at h ⊢;rw[Nat.pow_succ]at h;omega);omega
 exact a 8 u b
theorem aSW (k:Nat):(sep k).length<=2:=by
 unfold sep
 cases k==0<;>cases k==1<;>simp
theorem Nr (k:Int):(sym k).length<=4:=by
 unfold sym
 cases k==2<;>cases k==3<;>cases k==4<;>cases k==10<;>cases k==11<;>cases k==12<;>cases k==13<;>(try (simp;done))<;>cases k==6<;>(try (simp;done))<;>cases k==5<;>cases k==7<;>cases k==8<;>cases k==9<;>simp
theorem aNd (h:∀x∈ts,cU x)(k:Nat):cU (ts.getD k 0):=by
 unfold List.getD
 cases e:ts[k]? with
 |none=>exact⟨by decide,by decide⟩
 |some x=>exact h x (List.mem_of_getElem? e)
theorem Xe (h:∀x∈ts,cU x):∀k,(eT ts k).length<=3+11*k:=by
 intro k
 induction k with
 |zero=>simp[eT]
 |succ k a=>
  have:=Cd (aNd h k);have:=aSW k;simp only[eT,List.length_append];omega
theorem Ks (b:Bool)(x:List UInt8):(nP b x).length<=x.length+2:=by
 cases b<;>simp[nP]
theorem aQf:∀t,Wf t->(text t).length<=200*lY t:=by
 intro t
 induction t with
 |nil=>intro h;exact h.elim
 |node p q a l r e g=>
  intro h;obtain⟨k,v,ts⟩:=a;simp only[text,lY]
  rcases h with⟨b,d,_⟩|⟨b,_⟩|⟨b,d,_,f,_⟩|⟨b,d,_,f⟩|⟨b,d,f,_⟩
  ·simp only at b d;subst b;have:=Cd d;simp only[oR,beq_self_eq_true,cond_true];omega
  ·simp only at b;have:=Nr k
   rcases b with rfl|rfl
   ·simp only[oR,sym];simp;omega
   ·simp only[oR,sym];simp;omega
  ·simp only at b d f;subst b;have:=Xe d ts.length;simp only[oR,dX];simp;omega
  ·simp only at b;have i:=e d;have s:=Nr k;have b1:=Ks (decide (aP (aS l)<3)) (text l)
   rcases b with rfl|rfl|rfl|rfl|rfl<;>(simp only[oR];simp;try omega)
  ·simp only at b;have i:=e d;have j:=g f;have s:=Nr k;have b1:=Ks (decide (aP (aS l)<aP k)) (text l);have b2:=Ks (decide (aP (aS r)<aP k+1)) (text r)
   rcases b with rfl|rfl|rfl|rfl<;>(simp only[oR];simp at b1 b2 ⊢;omega)
end Rd
variable {v:Int}
theorem aSK {m:Nat}(h:Bits w v)(a:w<=m):Bits m v:=eG h a
theorem aQ8 (h:Bits w v):Bits w (-v):=yI h
theorem Ci {m:Nat}{x y:Int}(h:Bits w x)(a:Bits m y):Bits (w+m) (x*y):=fW h a
theorem aQ7 {x y:Int}(h:Bits w x)(a:Bits w y):Bits (w+1) (x+y):=pA h a
namespace Ab
open Rf (Nd Inv aZ Wt)
def uP (k:Int):Rf.Op:=if k=2 then .pi else if k=3 then .e else if k=4 then .cf else if k=10 then .sqrt else if k=11 then .exp else if k=12 then .fK else .atan
def Iz (k:Int):Rf.Kind:=if k=6 then .add else if k=7 then .sub else if k=8 then .mul else .div
def planT:Rd.Tr->Option Wt
 |.nil=>none
 |.node _ _ a l r=>
  if a.1=1 then some (.fr a.2.1 1)
  else if a.1<=4 then some (.fI (uP a.1) a.2.2)
  else if a.1=5 then(planT l).map Av
  else if a.1<=9 then(planT l).bind fun u=>(planT r).bind fun v=>xU (Iz a.1) u v
  else(planT l).bind fun u=>Lk (uP a.1) u
def yB (n:Nat)(u:Wt):Prop:=u.Ok/\∀p q,u=.fr p q->0<q/\RB n p/\RB n q
theorem aQ9 (h:Rd.cU v):RB 30 v:=by
 have a:=h.1;have b:=h.2;show v.natAbs<2^30
 have:(2:Nat)^30=1073741824:=by decide
 omega
theorem vC {m:Nat}(h:RB w v)(a:w<=m):RB m v:=aSK h a
theorem Uz {p q:Int}(f:0<q)(a:RB w p)(b:RB w q)(d:w<=6100):yB w (.fr p q):=by
 refine⟨⟨f,vC a d,vC b d⟩,?_⟩;intro g h e;cases e;exact⟨f,a,b⟩
variable {O:Wt}
theorem Fp (h:O.Ok)(a:∀p q,O≠.fr p q):yB w O:=⟨h,fun p q e=>absurd e (a p q)⟩
theorem aSw {m:Nat}(h:yB w O)(d:w<=m)(j:m<=6100):yB m (Av O):=by
 cases O with
 |fr p q=>
  obtain⟨f,g,i⟩:=h.2 p q rfl;exact Uz f (vC (aQ8 g) d) (vC i d) j
 |fI op ts=>exact Fp (show(Wt.fI op ts).Ok from h.1) (fun _ _ e=>by cases e)
 |neg t=>exact Fp (show(Wt.neg t).Ok from h.1) (fun _ _ e=>by cases e)
 |two k a b=>exact Fp (show(Wt.two k a b).Ok from h.1) (fun _ _ e=>by cases e)
 |fn op t=>exact Fp (show(Wt.fn op t).Ok from h.1) (fun _ _ e=>by cases e)
theorem aVi {m:Nat}{op:Rf.Op}(i:Rf.fn op){j:Wt}(h:yB w O)(l:m<=6100)(g:1<=m)(f:Lk op O=some j):yB m j:=by
 have d:∀{t:Wt},t.Ok->(∀p q,t=.fr p q->0<p)->yB m (.fn op t):=fun r o=>Fp ⟨i,r,o⟩ (fun _ _ e=>by cases e)
 cases O with
 |fr p q=>
  simp only[Lk]at f;split at f
  ·cases f
  ·split at f
   ·cases f;refine Uz (by decide) ?_ (Rf.eB g) l;split
    ·exact Rf.eB g
    ·exact Rf.aW
   ·cases f;refine d h.1 ?_;intro s v e;cases e;omega
 |fI op ts=>cases f;exact d h.1 (fun _ _ e=>by cases e)
 |neg t=>cases f;exact d h.1 (fun _ _ e=>by cases e)
 |two k a b=>cases f;exact d h.1 (fun _ _ e=>by cases e)
 |fn op t=>cases f;exact d h.1 (fun _ _ e=>by cases e)
theorem aTp {m:Nat}{kk:Rf.Kind}{p q a b:Int}(g:RB w p)(d:RB w q)(h:RB m a)(f:RB m b):RB (w+m+1) (Gt (cW kk) p q a b)/\RB (w+m+1) (Gs (cW kk) p q a b):=by
 have s:w+m<=w+m+1:=by omega
 have e:m+w=w+m:=by omega
 cases kk with
 |add=>exact⟨aQ7 (Ci g f) (e▸Ci h d),vC (Ci d f) s⟩
 |sub=>exact⟨aQ7 (Ci g f) (e▸Ci (aQ8 h) d),vC (Ci d f) s⟩
 |mul=>exact⟨vC (Ci g h) s,vC (Ci d f) s⟩
 |div=>exact⟨vC (Ci g f) s,vC (Ci d h) s⟩
theorem aVj {m l:Nat}{f:Rf.Kind}{v x:Wt}(h:yB w O)(j:yB m v)(r:w+m+1<=l)(C:l<=6100)(d:xU f O v=some x):yB l x:=by
 have i:∀{t y:Wt},t.Ok->y.Ok->yB l (.two f t y):=fun D o=>Fp ⟨D,o⟩ (fun _ _ e=>by cases e)
 by_cases hv:∃a b,v=.fr a b
 ·obtain⟨a,b,rfl⟩:=hv;obtain⟨z,A,B⟩:=j.2 a b rfl
  by_cases s:∃p q,O=.fr p q
  ·obtain⟨p,q,rfl⟩:=s;obtain⟨f1,f2,f3⟩:=h.2 p q rfl;simp only[xU]at d;split at d
   ·cases d
   ·rename_i k;cases d;have g:=aRt (p:=p) f1 z k;obtain⟨H,I⟩:=aTp (kk:=f) f2 f3 A B;obtain⟨E,F⟩:=aJs (Xv (t:=Gt (cW f) p q a b) g);refine Uz (aPx g) (vC (Nat.lt_of_le_of_lt E H) r) (vC (Nat.lt_of_le_of_lt F I) r) C
  ·have:xU f O (.fr a b)=if f=.div/\a=0 then none else some (.two f O (.fr a b)):=by
    cases O with
    |fr p q=>exact absurd ⟨p,q,rfl⟩ s
    |_=>rfl
   rw[this]at d;split at d
   ·cases d
   ·cases d;exact i h.1 j.1
 ·have:xU f O v=some (.two f O v):=by
   cases v with
   |fr p q=>exact absurd ⟨p,q,rfl⟩ hv
   |_=>cases O<;>rfl
  rw[this]at d;cases d;exact i h.1 j.1
theorem Um:∀(t:Rd.Tr) (u:Wt),Rd.Wf t->32*Rd.lY t<=6100->planT t=some u->yB (32*Rd.lY t) u:=by
 intro t
 induction t with
 |nil=>intro u h;exact h.elim
 |node y z a l r g p=>
  intro u h hc b;have i:Rd.lY (.node y z a l r)=Rd.lY l+Rd.lY r+1:=rfl;rw[i]at hc ⊢;rw[planT]at b
  rcases h with⟨hk,s,_,rfl,rfl⟩|⟨hk,_,_,rfl,rfl⟩|⟨hk,k,q,B,_,rfl,rfl⟩|⟨hk,d,_,rfl⟩|⟨hk,d,o,_⟩
  ·rw[if_pos hk]at b;cases b;exact Uz (by decide) (vC (aQ9 s) (by omega)) (Rf.eB (by omega)) hc
  ·rw[if_neg (by omega),if_pos (by omega)]at b;cases b;refine Fp ?_ (fun _ _ e=>by cases e)
   rcases hk with hk|hk<;>rw[hk]
   ·exact Or.inl rfl
   ·exact Or.inr (Or.inl rfl)
  ·rw[if_neg (by omega),if_pos (by omega)]at b;cases b;refine Fp ?_ (fun _ _ e=>by cases e);rw[hk];exact Or.inr (Or.inr ⟨rfl,q,fun x w=>vC (aQ9 (k x w)) (by decide)⟩)
  ·rw[if_neg (by omega),if_neg (by omega)]at b
   rcases hk with hk|hk
   ·rw[if_pos hk]at b;obtain⟨v,hv,rfl⟩:=Option.map_eq_some_iff.1 b;exact aSw (g v d (by omega) hv) (by omega) hc
   ·rw[if_neg (by omega),if_neg (by omega)]at b;obtain⟨v,hv,f⟩:=Option.bind_eq_some_iff.1 b;refine aVi ?_ (g v d (by omega) hv) hc (by omega) f
    rcases hk with hk|hk|hk|hk<;>rw[hk]
    ·exact Or.inl rfl
    ·exact Or.inr (Or.inl rfl)
    ·exact Or.inr (Or.inr (Or.inl rfl))
    ·exact Or.inr (Or.inr (Or.inr rfl))
  ·rw[if_neg (by omega),if_neg (by omega),if_neg (by omega),if_pos (by omega)]at b;obtain⟨v,hv,j⟩:=Option.bind_eq_some_iff.1 b;obtain⟨A,n,f⟩:=Option.bind_eq_some_iff.1 j;exact aVj (g v d (by omega) hv) (p A o (by omega) n) (by omega) hc f
variable {w:World}
theorem Oo {k:Nat}{kd x:Int}{tv lv rv:Value}(h:w.heap[k]?=some (.cells #[.int .i64 kd,.int .i64 x,tv,lv,rv] 111 (0,0)))(o1:One tv)(o2:One lv)(o3:One rv)(f:List AT):RepW Z w (ph1 0 k) (ph1 0 k) (sT kd x tv lv rv f) w:=by
 refine rI rfl ?_ ?_ ?_
 ·intro b B d;have:=mU d;simp only[sT,List.mem_singleton,Prod.mk.injEq]at this;obtain⟨rfl,rfl⟩:=this;exact⟨rfl,rfl,rfl,k,0,rfl,[],[.int .i64 kd,.int .i64 x,tv,lv,rv],[],h,rfl,rfl,rfl,⟨rfl,o1⟩,⟨rfl,o2⟩,⟨rfl,o3⟩,trivial⟩
 ·intro b e;have:1<=b:=e;unfold ph1;rw[if_neg (by omega)]
 ·intro b g o a;unfold ph1 at a;split at a
  ·cases a;exact gU h
  ·cases a
theorem aSV {r:AT}{ts:List AT}(h:ts.length=79)(a:putT (List.replicate 79 .top) (some d) r=slot [(d,r)] 0 79):(sU (slot [(d,r)] 0 79)).tmps=putT (kN [] [] 0 ts) (some d) r:=by
 rw[Yd,h];exact a.symm
variable {φ:Nat->Option (Nat×Nat)}{ν:List (Int×Nat)}
theorem Km {e:Int}(o:One z):relT Z φ ν w (nJ z e) (.tuple #[z,.int .i64 e]):=⟨[z,.int .i64 e],rfl,⟨rfl,o⟩,rfl,trivial⟩
variable {R:Ending->World->Prop}
theorem Bn {r:AT}{e:Int}{p:List (K (List AT))}(y:(mR p (sU (slot [(d,r)] 0 79))).bind iW=some (nJ z e,true))(hR:∀i,Chg n i []->R (.returned (.tuple #[z,.int .i64 e])) i){g:List (K Act)}{a:Act}(j:∀o l k,SR Z o l k p g)(u:Rep Z n (fun _=>none) (fun _=>none) (sU (slot [(d,r)] 0 79)) a n):fZ Z.P R g .normal a n:=by
 obtain⟨B,q,f⟩:=aU y
 match B,f with
 |.ret r s,f=>
  simp only[iW,Option.some.injEq,Prod.mk.injEq]at f;obtain⟨rfl,hc⟩:=f;refine vB (dH qG) tV (rD mixed (dH qG)) (fun r s=>r=nJ z e/\clean s=true) (fun _ _=>False) (fun _ _ h=>h.elim) ?_ _ _ _ _ q ⟨rfl,hc⟩ g _ a n (j _ _ _) u;rintro r s φ x i⟨rfl,hc⟩ hrel A;rw[zG hrel cN];exact hR i (Chg.eH (RepF.below A hc))
 |.br _ _ _,f=>cases f
 |.need _ _,f=>cases f
 |.stop _ _,f=>cases f
theorem vV {q:Nat->Option (Nat×Nat)}{s:AS}{a:Act}{z j:List (K (List AT))}{i:List (K Act)}{f:FuncId}{I:List AV}(h:cR Z s z=some (f,I,some d,j))(o:Enters Z.P f)(p:noFr z=true)(u:∀D C B,SR Z D C B z i)(E:Rep Z n q φ s a w)(O:s.tmps.length=79)(T:∀r,putT (List.replicate 79 .top) (some d) r=slot [(d,r)] 0 79)
  (H:∀k:List Value,All2 (dM Z φ s.nums w) I k->Calls Z.P f k.toArray w fun e A=>∃v x,∃r:AT,∃l:Int,e=.returned x/\relT Z (fun _=>none) [] A r x/\(mR j (sU (slot [(d,r)] 0 79))).bind iW=some (nJ v l,true)/\∀J,Chg A J []->R (.returned (.tuple #[v,.int .i64 l])) J):fZ Z.P R i .normal a w:=by
 refine qC h o p (u φ s.nums w) E fun k y=>(H k y).mono ?_
 rintro e A⟨v,x,r,l,rfl,S,U,L⟩;refine⟨x,rfl,fun F N g=>?_⟩;exact Bn U L g (oZ (kb:=[]) (kt:=[]) E Fl (aSV O (T r)) (fun b M=>by simp at M) S)
theorem dG.on {w b D f:World}{x:Option Wt}{e:Ending}(d:Chg w b [])(h:dG b x e D)(a:Chg D f []):dG w x e f:=by
 cases x with
 |none=>exact⟨(d.trans h.1).trans a,h.2⟩
 |some t=>
  obtain⟨hc,v,g,i⟩:=h;exact⟨(d.trans hc).trans a,v,g,aM.aT a.on t v i⟩
theorem cZ.one {rb:Nat}{tv:Value}(h:cZ rb w ts tv):One tv:=by
 rcases h with⟨_,rfl⟩|⟨tb,a,d,rfl,_⟩<;>rfl
theorem fX.one {rb:Nat}:∀{t:Rd.Tr} {v:Value},fX rb w t v->One v
 |.nil,_,h=>by rw[show _=Value.pointer none from h];rfl
 |.node _ _ _ _ _,_,⟨b,tv,lv,rv,h,_⟩=>by rw[h];rfl
theorem dG.one {b:World}{x:Option Wt}{e:Ending}(h:dG w x e b):∃v a,e=.returned (.tuple #[v,.int .i64 a])/\One v/\((x=none/\v=aB/\a=5)\/(∃t,x=some t/\a=0/\aM b t v)):=by
 cases x with
 |none=>exact⟨aB,5,h.2,rfl,Or.inl ⟨rfl,rfl,rfl⟩⟩
 |some t=>
  obtain⟨hc,v,f,d⟩:=h;obtain⟨k,rfl⟩:=aM.ptr t v d;exact⟨aA k,0,f,rfl,Or.inr ⟨t,rfl,rfl,d⟩⟩
section
variable {w:World} {b rb:Nat} {kd x:Int} {tv lv rv:Value} {R:Ending->World->Prop}
theorem aVn {b:World}{s:AS}{k:Nat}(a:RepW Z n (ph1 0 k) φ s b)(h:dM Z φ ν b (.one (.ptr 0 0)) z):z=aA k:=uC (a.base 0 (k,0) rfl) h
theorem aYw (g:x.natAbs<1000000000000000000)(f:w.heap[b]?=some (.cells #[.int .i64 1,.int .i64 x,tv,lv,rv] 111 (0,0)))(o1:One tv)(o2:One lv)(o3:One rv):Calls prog 43 #[aA b] w (dG w (some (.fr x 1))):=by
 refine rY (φ:=ph1 0 b) (s:=sT 1 x tv lv rv Lp) (vs:=[.one (.ptr 0 0)]) (args:=[aA b]) (bI func43 rfl rfl) (dH qG) tV (by kernel_rfl) ⟨⟨b,0,rfl,rfl⟩,trivial⟩ (Oo f o1 o2 o3 _) (u_1 x tv lv rv) (fun r s=>r=fV (.ptr 2 0) 0/\gD s 2 1 [x,1] (.lit aB) (.lit aB)/\clean s=true) ⟨bL g,rfl,aY7 x tv lv rv,aY6 x tv lv rv⟩ ?_;rintro r s φ v k⟨rfl,e,hc⟩ hrel d;have a:Chg w k []:=Chg.eH (RepF.below d hc);obtain⟨m,l,h,i,j⟩:=e.at d cN cN;exact .yes (v:=aA m) rfl a (by rw[zG hrel (cQ h)]) (Vr i j)
theorem aYx (i:kd=2\/kd=3\/kd=4)(q:w.heap[b]?=some (.cells #[.int .i64 kd,.int .i64 x,tv,lv,rv] 111 (0,0)))(o1:One tv)(o2:One lv)(o3:One rv)(a:∀g,Chg w g []->Calls prog 57 #[aA b] g fun e n=>∃v,e=.returned v/\One v/\∀o,Chg n o []->R (.returned (.tuple #[v,.int .i64 0])) o):Calls prog 43 #[aA b] w R:=by
 have F:=bI func43 rfl rfl;refine pC F (φ:=ph1 0 b) (vs:=[.one (.ptr 0 0)]) (args:=[aA b]) (s:=sT kd x tv lv rv Lp) (by kernel_rfl) ⟨⟨b,0,rfl,rfl⟩,trivial⟩ (Oo q o1 o2 o3 _) ?_;refine cE (dH qG) tV lD (jK lD) (u_C x tv lv rv i) (fun _ _=>False) (fun l s=>l=eF (pD 26) f43/\s=sT kd x tv lv rv (slot [(25,P0)] 0 79)) ⟨rfl,rfl⟩ (fun _ _ _ _ _ h=>h.elim) ?_;rintro l s⟨rfl,rfl⟩;refine⟨Dh.1,fun y A a1 g f d=>?_⟩;have c1:Chg w g []:=Chg.eH (RepF.below d.wd rfl)
 refine vV (z_C x kd tv lv rv) (bI func57 rfl rfl).en Dh.1 f d rfl (fun r=>by kernel_rfl) fun z k=>?_
 match z,k with
 | [B],⟨j,_⟩=>
 rw[aVn d.wd j];refine(a g c1).mono ?_;rintro e n⟨v,rfl,u,p⟩;exact⟨v,v,litT v,0,rfl,⟨rfl,u⟩,y_C v,p⟩
theorem Jj (B:kd=5\/kd=6\/kd=7\/kd=8\/kd=9\/kd=10\/kd=11\/kd=12\/kd=13)(u:w.heap[b]?=some (.cells #[.int .i64 kd,.int .i64 x,tv,lv,rv] 111 (0,0)))(o1:One tv)(o2:One lv)(o3:One rv){J:Option Wt}(g:∀k,Chg w k []->Calls prog 43 #[lv] k (dG k J))
  (C:J=none->∀y,Chg w y []->R (.returned (.tuple #[aB,.int .i64 5])) y)
  (p:∀t v l j a,J=some t->Chg w l []->aM l t v->One v->(∀M L I,SR Z M L I (fQ (pD 32) f43) j)->Rep Z l (ph1 0 b) (ph1 0 b) (sT kd x tv lv rv (slot [(0,P0),(32,nJ v 0)] 0 79)) a l->fZ Z.P R j .normal a l):Calls prog 43 #[aA b] w R:=by
 have F:=bI func43 rfl rfl;refine pC F (φ:=ph1 0 b) (vs:=[.one (.ptr 0 0)]) (args:=[aA b]) (s:=sT kd x tv lv rv Lp) (by kernel_rfl) ⟨⟨b,0,rfl,rfl⟩,trivial⟩ (Oo u o1 o2 o3 _) ?_;refine cE (dH qG) tV lD (jK lD) (u_L x tv lv rv B) (fun _ _=>False) (fun S s=>S=eF (pD 32) f43/\s=sT kd x tv lv rv (slot [(0,P0),(31,litT lv)] 0 79)) ⟨rfl,rfl⟩ (fun _ _ _ _ _ h=>h.elim) ?_;rintro S s⟨rfl,rfl⟩;refine⟨Dh.2.1,fun j N a1 k o d=>?_⟩;have c1:Chg w k []:=Chg.eH (RepF.below d.wd rfl)
 refine qC (z_L x kd tv lv rv) F.en Dh.2.1 (o N [] k) d fun Y E=>?_
 match Y,E with
 | [X],⟨i,_⟩=>
 have i:X=lv:=i.1;rw[i];refine(g k c1).mono ?_;rintro e l O;have c2:=O.1;obtain⟨v,e',rfl,D,h⟩:=O.one;refine⟨_,rfl,fun q U f=>?_⟩
 rcases h with⟨H,rfl,rfl⟩|⟨t,H,rfl,W⟩
 ·exact Bn aZa (hR:=fun y A=>C H y ((c1.trans c2).trans A)) f (oZ (kb:=[]) (kt:=[]) d Fl (aSV rfl (by kernel_rfl)) (fun b u=>by simp at u) (Km D))
 ·have n:=c1.trans c2;refine p t v l q _ H n W D f ?_;refine oZ (kb:=[0]) (kt:=[0]) (r:=nJ v 0) d (Oo (n.at u (by simp)) o1 o2 o3 _) (by kernel_rfl) (fun T z=>?_) (Km D)
  have:T=0:=by simpa using z
  subst this;exact(d.wd.base 0 (b,0) rfl).symm
theorem aYz (D:w.heap[b]?=some (.cells #[.int .i64 5,.int .i64 x,tv,lv,rv] 111 (0,0)))(o1:One tv)(o2:One lv)(o3:One rv){y:Option Wt}(o:∀t,y=some t->t.Ok)(d:∀u,Chg w u []->Calls prog 43 #[lv] u (dG u y)):Calls prog 43 #[aA b] w (dG w (y.map Av)):=by
 refine Jj (Or.inl rfl) D o1 o2 o3 d (fun e C hc=>.no (by rw[e];rfl) hc rfl) ?_;intro t v L l a A n E O p F;refine cE (dH qG) tV lD (jK lD) (u_M x tv lv rv v) (fun _ _=>False) (fun B s=>B=eF (pD 45) f43/\s=sT 5 x tv lv rv (slot [(44,litT v)] 0 79)) ⟨rfl,rfl⟩ (fun _ _ _ _ _ h=>h.elim) ?_ l _ _ _ (p _ _ _) F;rintro B s⟨rfl,rfl⟩;refine⟨Dh.2.2.1,fun l M N C j i=>?_⟩;have c3:Chg L C []:=Chg.eH (RepF.below i.wd rfl)
 refine vV (z_M x 5 tv lv rv v) (bI func58 rfl rfl).en Dh.2.2.1 j i rfl (fun r=>by kernel_rfl) fun I q=>?_
 match I,q with
 | [H],⟨f,_⟩=>
 have f:H=v:=f.1;rw[f];refine(aPC (o t A) (aM.aT c3.on t v E)).mono ?_;rintro e P⟨J,rfl,c4,g⟩;obtain⟨k,rfl⟩:=aM.ptr _ J g;exact⟨aA k,aA k,litT (aA k),0,rfl,⟨rfl,rfl⟩,y_M _,fun S z=>.yes (by rw[A];rfl) (((n.trans c3).trans c4).trans z) rfl (aM.aT z.on _ _ g)⟩
theorem aYy {op:Rf.Op}(i:Rf.fn op)(I:w.heap[b]?=some (.cells #[.int .i64 (aI op),.int .i64 x,tv,lv,rv] 111 (0,0)))(o1:One tv)(o2:One lv)(o3:One rv){z:Option Wt}(p:∀t,z=some t->t.Ok)(d:∀y,Chg w y []->Calls prog 43 #[lv] y (dG y z)):Calls prog 43 #[aA b] w (dG w (z.bind (Lk op))):=by
 have J:=Kf i;refine Jj (by omega) I o1 o2 o3 d (fun e F hc=>.no (by rw[e];rfl) hc rfl) ?_;intro t v S l a C n L W q M;refine cE (dH qG) tV lD (jK lD) (u_F x tv lv rv v J) (fun _ _=>False) (fun D s=>D=eF (pD 56) f43/\s=sT (aI op) x tv lv rv (slot [(54,.val (.one (.int .i64 (aI op)))),(55,litT v)] 0 79)) ⟨rfl,rfl⟩ (fun _ _ _ _ _ h=>h.elim) ?_ l _ _ _ (q _ _ _) M;rintro D s⟨rfl,rfl⟩;refine⟨Dh.2.2.2.1,fun l T U F k j=>?_⟩;have c3:Chg S F []:=Chg.eH (RepF.below j.wd rfl)
 refine vV (z_F x (aI op) tv lv rv v) (bI func59 rfl rfl).en Dh.2.2.2.1 k j rfl (fun r=>by kernel_rfl) fun P u=>?_
 match P,u with
 | [N,O],⟨f,g,_⟩=>
 have f:N=.int .i64 (aI op):=f;have g:O=v:=g.1;rw[f,g];refine(aJl i (p t C) (aM.aT c3.on t v L)).mono ?_;rintro e X B;obtain⟨E,A,rfl,o,h⟩:=B.one;refine⟨E,_,nJ E A,A,rfl,Km o,y_F _ _,fun Y H=>?_⟩;rw[C];exact B.on (n.trans c3) H
theorem of_B (d:Rf.Kind)(P:w.heap[b]?=some (.cells #[.int .i64 (cW d),.int .i64 x,tv,lv,rv] 111 (0,0)))(o1:One tv)(o2:One lv)(o3:One rv){xl xr:Option Wt}(ab:∀t,xl=some t->t.Ok)(I:∀t,xr=some t->t.Ok)(o:∀A,Chg w A []->Calls prog 43 #[lv] A (dG A xl))(i:∀A,Chg w A []->Calls prog 43 #[rv] A (dG A xr)):Calls prog 43 #[aA b] w (dG w (xl.bind fun u=>xr.bind fun v=>xU d u v)):=by
 have F:=bI func43 rfl rfl
 have hk:cW d=6\/cW d=7\/cW d=8\/cW d=9:=by cases d<;>simp[cW]
 refine Jj (by omega) P o1 o2 o3 o (fun e S hc=>.no (by rw[e];rfl) hc rfl) ?_;intro t v w2 z a hx T hp ho af hr;refine cE (dH qG) tV lD (jK lD) (u_B x tv lv rv v d) (fun _ _=>False) (fun O s=>O=eF (pD 64) f43/\s=sT (cW d) x tv lv rv (slot [(0,P0),(4,litT v),(63,litT rv)] 0 79)) ⟨rfl,rfl⟩ (fun _ _ _ _ _ h=>h.elim) ?_ z _ _ _ (af _ _ _) hr;rintro O s⟨rfl,rfl⟩;obtain⟨_,_,_,_,C,D⟩:=Dh;refine⟨C,fun z am a3 S L g=>?_⟩;have c3:Chg w2 S []:=Chg.eH (RepF.below g.wd rfl);have n:=T.trans c3
 refine qC (z_B x (cW d) tv lv rv v) F.en C (L am [] S) g fun us y=>?_
 match us,y with
 | [u1],⟨f,_⟩=>
 have f:u1=rv:=f.1;rw[f];refine(i S n).mono ?_;rintro e w4 E;have c4:=E.1;obtain⟨l,W,rfl,H,h⟩:=E.one;refine⟨_,rfl,fun N ax k=>?_⟩
 rcases h with⟨j,rfl,rfl⟩|⟨t2,j,rfl,ad⟩
 ·exact Bn aY9 (hR:=fun w5 Y=>.no (by rw[hx,j];rfl) ((n.trans c4).trans Y) rfl) k (oZ (kb:=[]) (kt:=[]) g Fl (aSV rfl (by kernel_rfl)) (fun b P=>by simp at P) (Km H))
 ·have B:=n.trans c4
  have ae:Rep Z w4 (ph1 0 b) (ph1 0 b) (sT (cW d) x tv lv rv (slot [(0,P0),(4,litT v),(64,nJ l 0)] 0 79)) (a3.put (some 64) (.tuple #[l,.int .i64 0])) w4:=by
   refine oZ (kb:=[0]) (kt:=[0,4]) (r:=nJ l 0) g (Oo (B.at P (by simp)) o1 o2 o3 _) (by kernel_rfl) (fun b' X=>?_) (Km H)
   have:b'=0:=by simpa using X
   subst this;exact(g.wd.base 0 (b,0) rfl).symm
  refine cE (dH qG) tV lD (jK lD) (aY8 x tv lv rv v l d) (fun _ _=>False) (fun O s=>O=eF (pD 76) f43/\s=sT (cW d) x tv lv rv (slot [(73,.val (.one (.int .i64 (cW d)))),(74,litT v),(75,litT l)] 0 79)) ⟨rfl,rfl⟩ (fun _ _ _ _ _ h=>h.elim) ?_ N _ _ _ (k _ _ _) ae;rintro O s⟨rfl,rfl⟩;refine⟨D,fun z a4 a5 w5 M J=>?_⟩;have U:Chg w4 w5 []:=Chg.eH (RepF.below J.wd rfl)
  refine vV (aZf x (cW d) tv lv rv v l) (bI func60 rfl rfl).en D M J rfl (fun r=>by kernel_rfl) fun us y=>?_
  match us,y with
  | [u1,u2,u3],⟨f,p,q,_⟩=>
  have f:u1=.int .i64 (cW d):=f;have p:u2=v:=p.1;have q:u3=l:=q.1;rw[f,p,q];refine(aIp d (ab t hx) (aM.aT ((c3.trans c4).trans U).on t v hp) (I t2 j) (aM.aT U.on t2 l ad)).mono ?_;rintro e w6 E;obtain⟨v',W,rfl,aa,h⟩:=E.one;refine⟨v',_,nJ v' W,W,rfl,Km aa,y_B _ _,fun w7 c7=>?_⟩;rw[hx,j];exact E.on (B.trans U) c7
end
end Ab
variable {rb:Nat}{w:World}
theorem aMQ {tv:Value}(h:cZ rb w ts tv):∃f a,tv=.slice f ts.length a/\∀k,(h:k<ts.length)->∃tb,f=some ⟨tb,0,none⟩/\w.cell? ⟨tb,k,none⟩=some (.int .i64 ts[k]):=by
 rcases h with⟨rfl,rfl⟩|⟨tb,a,d,rfl,_,i,l,j⟩
 ·exact⟨none,0,rfl,fun k h=>absurd h (Nat.not_lt_zero k)⟩
 ·refine⟨some ⟨tb,0,none⟩,a,rfl,fun k g=>⟨tb,rfl,?_⟩⟩
  have e:d.toList[k]?=some (.int .i64 ts[k]):=by
   have:(d.toList.take ts.length)[k]?=(ts.map (Value.int .i64))[k]?:=by rw[j]
   rw[List.getElem?_take_of_lt g,List.getElem?_map,List.getElem?_eq_getElem g]at this;exact this
  exact bK i (by simpa using e)
namespace Ab
open Rf (Nd Inv aZ Wt)
theorem Mq {b:World}(h:Chg w b []):aY rb w b:=aY.eH (h.below (Nat.le_refl _) (fun k a=>by simp at a))
theorem Fe {b:Nat}{kd x:Int}{tv lv rv:Value}(i:kd=2\/kd=3\/kd=4)(L:ts.length<=9)(y:kd=4->2<=ts.length)(p:w.heap[b]?=some (.cells #[.int .i64 kd,.int .i64 x,tv,lv,rv] 111 (0,0)))(q:cZ rb w ts tv)(o2:One lv)(o3:One rv):Calls prog 43 #[aA b] w (dG w (some (.fI (uP kd) ts))):=by
 refine aYx i p (cZ.one q) o2 o3 fun r c1=>?_
 obtain⟨s,f,rfl,hc⟩:=aMQ (q.aT (Mq c1));refine(aGV r b kd x ts s f lv rv (by omega) (c1.at p (by simp)) hc).mono ?_;rintro e n⟨l,m,rfl,d,F,j⟩;have c2:Chg r n []:=Chg.eH j
 have k:aI (uP kd)=kd:=by rcases i with h|h|h<;>subst h<;>rfl
 have H:aM n (.fI (uP kd) ts) (aA m):=by
  obtain⟨u,I,v,E⟩:=Oe d;refine⟨m,[.bool false,.slice none 0 0,.bool false,.slice none 0 0],[0,0],l,aB,aB,rfl,?_,⟨rfl,Ys true n,rfl,Ys true n,trivial⟩,rfl,fun z k=>jX z (by simp at k;simp[k]),by rw[E];rfl,rfl,rfl,fun e=>?_⟩
  ·rw[k];exact F
  ·have B:kd=4:=by
    rcases i with h|h|h
    ·subst h;cases e
    ·subst h;cases e
    ·exact h
   have:=y B
   rcases d.2 with⟨_,h⟩|⟨g,f,a,h,D,A,J,_,_,C⟩
   ·omega
   ·refine⟨g,f,a.toList.drop ts.length,h,by omega,?_⟩;rw[A]
    have o:a.toList.take ts.length=ts.map (Value.int .i64):=by simpa using C
    have:ts.map (fun t=>Value.int .i64 t)++a.toList.drop ts.length=a.toList:=by
     rw[show ts.map (fun t=>Value.int .i64 t)=a.toList.take ts.length from o.symm];exact List.take_append_drop _ _
    rw[this]
 exact⟨aA m,rfl,rfl,fun M c3=>.yes rfl ((c1.trans c2).trans c3) rfl (aM.aT c3.on _ _ H)⟩
theorem aWE:∀(t:Rd.Tr),Rd.Wf t->32*Rd.lY t<=6100->∀(w:World) (v:Value),fX rb w t v->Calls prog 43 #[v] w (dG w (planT t)):=by
 intro t
 induction t with
 |nil=>intro h;exact h.elim
 |node I J a l r p A=>
  intro h hc w v F;obtain⟨kd,x,ts⟩:=a;have y:Rd.lY (.node I J (kd,x,ts) l r)=Rd.lY l+Rd.lY r+1:=rfl;rw[y]at hc;obtain⟨b,tv,lv,rv,rfl,H,i,s,z,C⟩:=F;have o1:=cZ.one s;have o2:=fX.one z;have o3:=fX.one C;rw[planT];simp only at h i s ⊢
  rcases h with⟨hk,B,_,rfl,rfl⟩|⟨hk,_,n,rfl,rfl⟩|⟨hk,n,D,E,_,rfl,rfl⟩|⟨hk,g,_,rfl⟩|⟨hk,g,o,_⟩
  ·subst hk;rw[if_pos rfl];have:0<=x:=B.1;have:x<1000000000:=B.2;exact aYw (by omega) i o1 o2 o3
  ·rw[if_neg (by omega),if_pos (by omega)];exact Fe (by omega) (by rw[show ts=[]from n];exact Nat.zero_le _) (by omega) i s o2 o3
  ·rw[if_neg (by omega),if_pos (by omega)];exact Fe (by omega) E (fun _=>D) i s o2 o3
  ·rw[if_neg (by omega),if_neg (by omega)]
   have f:∀d,Chg w d []->Calls prog 43 #[lv] d (dG d (planT l)):=fun d c1=>p g (by omega) d lv (fX.aT (Mq c1) z)
   have j:∀t,planT l=some t->t.Ok:=fun t e=>(Um l t g (by omega) e).1
   rcases hk with hk|hk
   ·subst hk;rw[if_pos rfl];exact aYz i o1 o2 o3 j f
   ·rw[if_neg (by omega),if_neg (by omega)]
    have u:kd=aI (uP kd)/\Rf.fn (uP kd):=by
     rcases hk with hk|hk|hk|hk<;>subst hk
     ·exact⟨rfl,Or.inl rfl⟩
     ·exact⟨rfl,Or.inr (Or.inl rfl)⟩
     ·exact⟨rfl,Or.inr (Or.inr (Or.inl rfl))⟩
     ·exact⟨rfl,Or.inr (Or.inr (Or.inr rfl))⟩
    rw[u.1]at i;exact aYy u.2 i o1 o2 o3 j f
  ·rw[if_neg (by omega),if_neg (by omega),if_neg (by omega),if_pos (by omega)]
   have f:∀d,Chg w d []->Calls prog 43 #[lv] d (dG d (planT l)):=fun d c1=>p g (by omega) d lv (fX.aT (Mq c1) z)
   have j:∀t,planT l=some t->t.Ok:=fun t e=>(Um l t g (by omega) e).1
   have q:∀d,Chg w d []->Calls prog 43 #[rv] d (dG d (planT r)):=fun d c1=>A o (by omega) d rv (fX.aT (Mq c1) C)
   have k:∀t,planT r=some t->t.Ok:=fun t e=>(Um r t o (by omega) e).1
   have u:kd=cW (Iz kd):=by rcases hk with hk|hk|hk|hk<;>subst hk<;>rfl
   rw[u]at i;exact of_B (Iz kd) i o1 o2 o3 j k f q
end Ab
theorem Xp {P:Program}{ops:Array Oper}{b:List Oper}{o:Oper}{a:Act}{Q:Exit->Act->World->Prop}(d:o.guard=none)(s x:Operand)(t:TypeId)
  (j:o.op=.call { callee:=.builtin .append,args:=#[s,x],argTypes:=#[t,t]}) (f g:Value) (l:a.eval s=f) (n:a.eval x=g) (e:Value) (w':World)
  (k:(Builtin.append_ #[t,t] o.type #[f,g]).run P w=.ok e w') (h:wpList P ops Q b (a.put o.dst e) w'):wpList P ops Q (o::b) a w:=by
 refine wpList_plain d fun _ i=>?_
 unfold Oper.wp execOp;simp only[j,resolve,invoke,builtin,Sem.run_bind,Sem.run_pure,Result.andThen_ok,List.map_toArray,List.map_cons,List.map_nil,l,n,k];exact i _ _ h
namespace Rf
noncomputable def readK (f:Nat):Nat->St->Nat->Nat->Option (List Int)
 |0,_,_,_=>some []
 |m+1,s,d,r=>match sym f s d r with
  |some (a,some z)=>(readK f m a d (r+1)).map (z::·)
  |_=>none
def fC (t:Wt):Nat:=3002+3200*t.size
noncomputable def symsT (t:Wt)(k c:Nat):Option (List Int):=
 (of t []).bind fun x=>(x.1[x.2]?).bind fun n=>if n.pos=true then(readK (fC t) k ⟨x.1,c⟩ x.2 0).map (43::·)else readK (fC t) (k+1) ⟨x.1,c⟩ x.2 0
theorem Xz {w:Nat}:∀(m:Nat) (s:St) (d r:Nat) (l:List Int),readK w m s d r=some l->l.length=m
 |0,s,d,r,l,h=>by cases h;rfl
 |m+1,s,d,r,l,h=>by
  unfold readK at h;split at h
  ·rename_i g z b;obtain⟨e,a,rfl⟩:=Option.map_eq_some_iff.1 h;simp[Xz m _ _ _ _ a]
  ·cases h
theorem Xk {w:Nat}:∀(m:Nat) (s:St) (d r:Nat) (l:List Int),readK w (m+1) s d r=some l->readK w m s d r=some (l.take m)
 |0,s,d,r,l,h=>rfl
 |m+1,s,d,r,l,h=>by
  unfold readK at h ⊢;split at h
  ·rename_i g z b;obtain⟨e,a,rfl⟩:=Option.map_eq_some_iff.1 h;simp only[Xk m _ _ _ _ a,Option.map_some,List.take_succ_cons]
  ·cases h
variable {s:List Int}
theorem aIJ {t:Wt}{k c:Nat}(h:symsT t k c=some s):s.length=k+1:=by
 unfold symsT at h;obtain⟨x,e,b⟩:=Option.bind_eq_some_iff.1 h;obtain⟨n,f,a⟩:=Option.bind_eq_some_iff.1 b;split at a
 ·obtain⟨g,d,rfl⟩:=Option.map_eq_some_iff.1 a;simp[Xz _ _ _ _ _ d]
 ·exact Xz _ _ _ _ _ a
theorem aL8 {t:Wt}{k c:Nat}(h:symsT t (k+1) c=some s):symsT t k c=some (s.take (k+1)):=by
 unfold symsT at h ⊢;obtain⟨x,d,e⟩:=Option.bind_eq_some_iff.1 h;obtain⟨n,f,a⟩:=Option.bind_eq_some_iff.1 e;rw[d,Option.bind_some,f,Option.bind_some];split at a
 ·rename_i b;obtain⟨i,g,rfl⟩:=Option.map_eq_some_iff.1 a;rw[if_pos b,Xk _ _ _ _ _ g];rfl
 ·rename_i b;rw[if_neg b];exact Xk _ _ _ _ _ a
end Rf
namespace Ab
open Rf (Nd Inv aZ Wt fC readK symsT)
theorem Net.apart {w':World}{b0 fb p:Nat}{own:Nat->Option Own}{at1:Nat->Nat}{s:Rf.St}(h:Net w b0 own at1 fb s)(hc:Chg w w' [p])(b:p<w.heap.size->∃cs:Array Value,w.heap[p]?=some (.cells cs 55 (0,0)))(g:own p=none):Net w' b0 own at1 fb s:=by
 refine h.side hc fun k cs ty a i f=>?_
 subst f;obtain⟨d,b⟩:=b (gU a);rw[b]at a;cases a
 rcases i with e|e|e|⟨_,o,e⟩
 ·exact absurd e (by decide)
 ·exact absurd e (by decide)
 ·exact absurd e (by decide)
 ·rw[g]at e;cases e
def Run (t:Wt)(c0:Nat)(w:World)(b0 nb fb:Nat)(own:Nat->Option Own)(s:Rf.St)(top r:Nat):Prop:=
 ∃at1 a c n,NbAt w b0 nb fb own at1 s top r/\s.clock=((c:Nat):Int)/\c<=c0/\Inv s.nodes a c/\s.nodes[top]?=some n/\r<=n.out.length/\a top<=3200*t.size
section
variable {t:Wt} {c0:Nat} {w w':World} {b0 nb fb:Nat} {own:Nat->Option Own} {s:Rf.St} {top r:Nat}
theorem Run.still (h:Run t c0 w b0 nb fb own s top r)(hc:Chg w w' []):Run t c0 w' b0 nb fb own s top r:=by
 obtain⟨at1,b,c,n,a,e,f,d,g⟩:=h;exact⟨at1,b,c,n,⟨a.yR.still d hc,hc.at a.cD (by simp),a.ow,Nat.le_trans a.bs hc.on.size,a.Lo,a.nw⟩,e,f,d,g⟩
theorem Run.apart (h:Run t c0 w b0 nb fb own s top r){b:Nat}(hc:Chg w w' [b])(f:b<w.heap.size->∃cs:Array Value,w.heap[b]?=some (.cells cs 55 (0,0)))(l:own b=none):Run t c0 w' b0 nb fb own s top r:=by
 obtain⟨at1,d,c,n,a,g,i,k,j⟩:=h;refine⟨at1,d,c,n,⟨a.yR.apart hc f l,hc.at a.cD ?_,a.ow,Nat.le_trans a.bs hc.on.size,a.Lo,a.nw⟩,g,i,k,j⟩;intro e;simp at e;subst e;obtain⟨cs,h⟩:=f (gU a.cD);rw[a.cD]at h;exact absurd (Obj.cells.inj (Option.some.inj h)).2.1 (by decide)
theorem Run.cut (h:Run t c0 w b0 nb fb own s top r):∃a,Run t c0 w b0 nb fb a s top r/\(∀k,k<w.heap.size->a k=own k)/\∀k,w.heap.size<=k->a k=none:=by
 obtain⟨at1,e,c,n,b,g,i,f,l⟩:=h;refine⟨fun k=>if k<w.heap.size then own k else none,⟨at1,e,c,n,⟨⟨?_,b.yR.fuel,b.yR.Qf⟩,b.cD,?_,b.bs,b.Lo,fun k d=>?_⟩,g,i,f,l⟩,fun k d=>if_pos d,fun k d=>if_neg (by omega)⟩
 ·have:=wQ.more (own':=fun k=>if k<w.heap.size then own k else none) (at2:=at1) (new:=[]) b.yR.nd f (Chg.refl w) (fun k d=>if_pos d) (fun _ _=>rfl) (fun j p o=>by simp at o);rw[List.append_nil]at this;exact this
 ·show(if nb<w.heap.size then own nb else none)=none;split
  ·exact b.ow
  ·rfl
 ·show(if k<w.heap.size then own k else none)=none;split
  ·exact b.nw k d
  ·rfl
theorem Run.low (h:Run t c0 w b0 nb fb own s top r):b0<=w.heap.size/\b0<=nb/\b0<=fb/\(∀k,k<b0->own k=none)/\nb<w.heap.size/\fb<w.heap.size:=by
 obtain⟨at1,b,c,n,a,_⟩:=h;exact⟨a.bs,a.Lo,a.yR.Qf,a.nw,gU a.cD,gU a.yR.fuel⟩
def Es (t:Wt)(c0:Nat)(w:World)(b0 nb fb:Nat)(own:Nat->Option Own)(s:Rf.St)(top r:Nat)(e:Ending)(w':World):Prop:=
 On Z.bt w w'/\(∀k,k<w.heap.size->own k=none->k≠fb->k≠nb->w'.heap[k]?=w.heap[k]?)/\
  ((e=.returned (.int .i64 0)/\∃b,Rf.sym (fC t) s top r=some (b,none))\/∃b z a,e=.returned (.int .i64 (code z))/\Rf.sym (fC t) s top r=some (b,some z)/\Run t c0 w' b0 nb fb a b top (r+1)/\∀k,k<w.heap.size->own k=none->a k=none)
theorem aKx (U:c0<=3000)(h:Run t c0 w b0 nb fb own s top r)(O:r<=1000000):Calls prog 34 #[aA nb] w (Es t c0 w b0 nb fb own s top r):=by
 obtain⟨at1,g,c,n,M,q,T,y,j,u,L⟩:=h
 have A:c+g top+2<=fC t:=by unfold fC;omega
 obtain⟨x,p,C⟩:=Rf.total (fC t) s top r g c q (by omega) y n j u A;refine(aSr M q (by omega) y j u O A p fun P=>?_).mono ?_
 ·obtain⟨v,hv⟩:=Option.isSome_iff_exists.1 P;obtain⟨a,i,_,_,k,_⟩:=C.ex v hv;exact⟨a,i,k⟩
 ·rintro e w'⟨rfl,o,B,b,d⟩;obtain⟨D,z⟩:=x;refine⟨o,b,?_⟩
  cases z with
  |none=>exact Or.inl ⟨rfl,D,p⟩
  |some z=>
   obtain⟨a,i,S,E,F,H,R,I,J⟩:=C.ex z rfl;obtain⟨f,at2,l,N⟩:=d rfl;refine Or.inr ⟨D,z,f,rfl,p,⟨at2,a,i,R,l,E,by omega,F,I,J,?_⟩,N⟩;rw[H.agree top (List.getElem?_eq_some_iff.1 j).1];exact L
theorem aSp {c:Nat}(f:t.Ok)(p:aM w t z)(hc:c<=3000):Calls prog 32 #[z,.int .i64 c] w fun e w'=>∃ns d own nb fb n,Rf.of t []=some (ns,d)/\ns[d]?=some n/\e=.returned (aA nb)/\Chg w w' []/\Run t c w' w.heap.size nb fb own ⟨ns,c⟩ d 0:=by
 refine(aVa f p hc).mono ?_;rintro e w'⟨ns,d,own,at1,nb,fb,b,o,h,l⟩;obtain⟨q,g,u,a,k,j,i,_⟩:=Rf.qE t [] (fun _=>0) f hc (Rf.aJo _ c);rw[b]at a;cases a;exact⟨ns,d,own,nb,fb,ns[d],b,List.getElem?_eq_getElem j,o,h,at1,g,c,ns[d],l,rfl,Nat.le_refl _,k.inv,List.getElem?_eq_getElem j,Nat.zero_le _,i⟩
theorem aP3 {y:Nd}(h:Run t c0 w b0 nb fb own s top r)(b:s.nodes[top]?=some y):Calls prog 33 #[aA nb] w fun e w'=>e=.returned (.bool (!y.pos))/\Chg w w' []:=by
 obtain⟨at1,d,c,f,a,_⟩:=h;exact aLD a b
end
end Ab
open Ab
open Rf (Wt fC readK symsT)
structure ExAt (w:World) (xb:Nat) (t:Rd.Tr):Prop where
 ex:∃rb rv,w.heap[xb]?=some (.cells #[rv] 73 (0,0))/\fX rb w t rv
 wf:Rd.Wf t
 lY:Rd.lY t<=40
theorem ExAt.aT {w b:World}{a:Nat}{t:Rd.Tr}(h:ExAt w a t)(hc:Chg w b []):ExAt b a t:=by
 obtain⟨i,j,e,f⟩:=h.ex;exact⟨⟨i,j,hc.at e (by simp),fX.aT (Mq hc) f⟩,h.wf,h.lY⟩
theorem ExAt.ok {b:Nat}{t:Rd.Tr}(h:ExAt w b t){u:Wt}(a:planT t=some u):u.Ok:=(Um t u h.wf (by have:=h.lY;omega) a).1
theorem aJ5 (w:World)(b:Nat)(t:Rd.Tr)(k f:Int)(h:ExAt w b t)(k0:¬k<0)(k1:¬60<k)(f0:¬f<0)(f1:¬3000<f):Calls prog 31 #[.pointer (some ⟨b,0,none⟩),.int .i64 k,.int .i64 f] w (dG w (planT t)):=by
 obtain⟨x,n,i,j⟩:=h.ex;have p:=hid (aWE t h.wf (by have:=h.lY;omega) w n j);have c0:w.cell? ⟨b,0,none⟩=some n:=bK i rfl;clear i j h
 go_enter func31,ntmps31
 go_wp2_with fail
 refine(p.out).mono ?_;rintro e y a;obtain⟨v,q,rfl,_,_⟩:=a.one;have o:=hid a;clear a
 go_wp2_with fail
 refine bodyPost_ret (v:=.tuple #[v,.int .i64 q]) (by simp[results,results31,go_sem]) rfl ?_;exact o.out
def fM (z:Int):Value:=.int .i64 (code z)
def Et (w:World)(a:Option (List Int))(e:Ending)(b:World):Prop:=Chg w b []/\match a with
 |none=>e=.returned (.tuple #[.slice none 0 0,.int .i64 6])
 |some zs=>∃l g,e=.returned (.tuple #[l,.int .i64 0])/\RowOf b 55 (zs.map fM) l g
def lenOf:Value->Nat
 |.slice _ n _=>n
 |_=>0
theorem Vc {e:TypeId}{zs:List Int}{g:Option Nat}(h:RowOf w e (zs.map fM) z g):∃i cp,z=.slice i zs.length cp:=by
 rcases h with⟨n,a,_⟩|⟨b,j,f,_,a,_⟩
 ·have:zs=[]:=by simpa using a
  subst this;exact⟨_,_,n⟩
 ·exact⟨_,_,by simpa using a⟩
def oP (u:Wt)(c:Nat)(w:World)(B nb fb d k:Nat)(ans:Option (List Int))(l:Value)(wr:World):Prop:=
 ∃(zs:List Int) (g:Option Nat) (own:Nat->Option Own) (s:Rf.St) (r:Nat),RowOf wr 55 (zs.map fM) l g/\Run u c wr B nb fb own s d r/\zs.length<=k+1/\r<=zs.length/\(∀b,g=some b->own b=none/\w.heap.size<=b)/\On Z.bt w wr/\(∀j,j<w.heap.size->wr.heap[j]?=w.heap[j]?)/\ans=(readK (fC u) (k+1-zs.length) s d r).map (zs++·)
section
variable {u:Wt} {c:Nat} {w wr:World} {B nb fb d k r:Nat} {ans:Option (List Int)} {l:Value} {zs:List Int} {g:Option Nat} {own:Nat->Option Own} {s:Rf.St}
theorem SymRel.end (f:RowOf wr 55 (zs.map fM) l g)(o:zs.length<=k+1)(n:k<zs.length)(h:On Z.bt w wr)(b:∀j,j<w.heap.size->wr.heap[j]?=w.heap[j]?)(a:ans=(readK (fC u) (k+1-zs.length) s d r).map (zs++·)):Et w ans (.returned (.tuple #[l,.int .i64 0])) wr:=by
 have e:k+1-zs.length=0:=by omega
 rw[e,show readK (fC u) 0 s d r=some []from rfl,Option.map_some,List.append_nil]at a;subst a;exact⟨⟨h,fun j i _=>b j i⟩,l,g,rfl,f⟩
theorem aKY (T:Run u c wr B nb fb own s d r)(y:RowOf wr 55 (zs.map fM) l g)(N:∀b,g=some b->own b=none/\w.heap.size<=b)(p:On Z.bt w wr)(v:∀j,j<w.heap.size->wr.heap[j]?=w.heap[j]?)(hl:zs.length<=1000)(z:Int):
  ∃D o b h,(Builtin.append_ #[51,51] 51 #[l,.slice (some ⟨wr.heap.size,0,none⟩) 1 1]).run prog (wr.alloc (.cells #[fM z] 55))=.ok D o/\RowOf o 55 ((zs++[z]).map fM) D (some b)/\Run u c o B nb fb h s d r/\h b=none/\w.heap.size<=b/\On Z.bt w o/\∀j,j<w.heap.size->o.heap[j]?=w.heap[j]?:=by
 obtain⟨i,zv,i1,i2,i3,i4⟩:=aKX;have c1:Chg wr (wr.alloc (.cells #[fM z] 55)) []:=Chg.alloc _ _;have a:RowOf (wr.alloc (.cells #[fM z] 55)) 55 (zs.map fM) l g:=y.aT c1 (fun _ _=>by simp);obtain⟨n,F,I,x⟩:=(T.still c1).cut;generalize U:wr.alloc (.cells #[fM z] 55)=W at*
 have hx:W.heap[wr.heap.size]?=some (.cells ([]++[fM z]++[]).toArray 55 (0,0)):=by rw[<-U];exact jC _ _
 obtain⟨D,o,b,a1,R,J,L,M⟩:=aMv (bt:=Z.bt) (P:=Z.P) (t:=51) (t':=51) (ty:=51) (e:=55) rfl rfl (by kernel_rfl) i1 i2 i3 i4 (by decide) a (xv:=.slice (some ⟨wr.heap.size,0,none⟩) 1 1) (xc:=1) hx rfl rfl (by simp;omega);have q:=c1.on.size
 have f:n b=none/\w.heap.size<=b:=by
  rcases J with e|e
  ·refine⟨?_,(N b e).2⟩
   by_cases H:b<W.heap.size
   ·rw[I b H];exact(N b e).1
   ·exact x b (by omega)
  ·exact⟨x b e,Nat.le_trans p.size (Nat.le_trans q e)⟩
 have c2:Chg W o [b]:=⟨L,fun j C X=>M j C (by simpa using X)⟩
 have Y:b<W.heap.size->∃cs:Array Value,W.heap[b]?=some (.cells cs 55 (0,0)):=by
  intro hb
  rcases J with e|e
  ·rcases a with⟨_,_,E⟩|⟨b',S,O,A,_,E,_⟩
   ·rw[E]at e;cases e
   ·rw[A]at e;cases e;exact⟨_,E⟩
  ·omega
 refine⟨D,o,b,n,a1,by rw[List.map_append];exact R,F.apart c2 Y f.1,f.1,f.2,(p.trans c1.on).trans L,fun j C=>?_⟩;have A:j<wr.heap.size:=Nat.lt_of_lt_of_le C p.size;rw[M j (Nat.lt_of_lt_of_le A q) (by have:=f.2;omega),c1.low j A (by simp),v j C]
theorem SymRel.next (hB:w.heap.size<=B)(hR:Run u c wr B nb fb own s d r)(q:RowOf wr 55 (zs.map fM) l g)(T:∀b,g=some b->own b=none/\w.heap.size<=b)(A:On Z.bt w wr)(I:∀j,j<w.heap.size->wr.heap[j]?=w.heap[j]?)(a:ans=(readK (fC u) (k+1-zs.length) s d r).map (zs++·)){m:Nat}(hm:k+1-zs.length=m+1)(hk:k<=60)(hr:r<=zs.length){e:Ending}{w5:World}(hN:Es u c wr B nb fb own s d r e w5):
  (e=.returned (.int .i64 0)/\ans=none/\Chg w w5 [])\/∃z,e=.returned (.int .i64 (code z))/\∃M O,(Builtin.append_ #[51,51] 51 #[l,.slice (some ⟨w5.heap.size,0,none⟩) 1 1]).run prog (w5.alloc (.cells #[fM z] 55))=.ok M O/\oP u c w B nb fb d k ans M O/\k+1-lenOf M<k+1-zs.length:=by
 obtain⟨p,f,h⟩:=hN;obtain⟨ap,We,aq,W,ar,au⟩:=hR.low
 have v:∀j,j<w.heap.size->w5.heap[j]?=w.heap[j]?:=by
  intro j N;rw[f j (Nat.lt_of_lt_of_le N A.size) (W j (by omega)) (by omega) (by omega),I j N]
 rw[hm]at a
 rcases h with⟨S,X,U⟩|⟨X,z,ab,S,U,P,J⟩
 ·left;refine⟨S,?_,A.trans p,fun j N _=>v j N⟩;rw[a];unfold readK;rw[U];rfl
 ·right
  have H:∀b,g=some b->(b<wr.heap.size/\b≠fb/\b≠nb):=by
   intro b o
   rcases q with⟨_,_,i⟩|⟨b',D,y,E,_,i,_⟩
   ·rw[i]at o;cases o
   ·rw[E]at o;cases o;obtain⟨at1,az,c',n,F,_⟩:=hR;refine⟨gU i,?_,?_⟩
    ·rintro rfl;rw[F.yR.fuel]at i;exact absurd (Obj.cells.inj (Option.some.inj i)).2.1 (by decide)
    ·rintro rfl;rw[F.cD]at i;exact absurd (Obj.cells.inj (Option.some.inj i)).2.1 (by decide)
  have C:RowOf w5 55 (zs.map fM) l g:=by
   rcases q with h|⟨b,D,y,E,h2,i,h4⟩
   ·exact Or.inl h
   ·obtain⟨q1,q2,q3⟩:=H b E;exact Or.inr ⟨b,D,y,E,h2,by rw[f b q1 (T b E).1 q2 q3];exact i,h4⟩
  obtain⟨M,O,b,L,a1,Y,a3,a4,a5,a6,a7⟩:=aKY P C (fun b o=>⟨J b (H b o).1 (T b o).1,(T b o).2⟩) (A.trans p) v (by omega) z;refine⟨z,S,M,O,a1,⟨zs++[z],some b,L,X,r+1,Y,a3,by simp;omega,by simp;omega,fun b' R=>by cases R;exact⟨a4,a5⟩,a6,a7,?_⟩,?_⟩
  ·rw[a]
   have e:k+1-(zs++[z]).length=m:=by simp;omega
   rw[e];show(readK (fC u) (m+1) s d r).map _=_;rw[readK,U];simp only
   cases readK (fC u) m X d (r+1)with
   |none=>rfl
   |some x=>simp
  ·obtain⟨ao,cp,hv⟩:=Vc Y;rw[hv];simp[lenOf];omega
end
end Go.Proofs.YtkmojpfpfoaloaaGreatDoor
