import Derived.Test.YthhffdeihoofiaaGreatDoorCFu10
import Derived.Test.YthhffdeihoofiaaGreatDoorCFu05
import Derived.Deep.LoopGhost
import Derived.Lib.ItoaNum
set_option linter.all false
set_option maxRecDepth 100000
set_option maxHeartbeats 2000000
namespace Go.Proofs.YthhffdeihoofiaaGreatDoor
open Nat (le_refl zero_le le_trans)
open Bool (and_eq_true)
open List (mem_cons)
open Rd (Wd parse tk jF eB aB cJ cO aQ wordEnd)
open Go.Proofs.Tryz
open Go.RowKit
theorem aIz (v g j:Nat)(u:List Wd)(f:Nat)(IH:Hid (∀k,k<f->jP v g j u 122 4 k)):jP v g j u 93 2 f:=by
 intro w st res ad L d
 obtain⟨f0,rfl⟩:∃f0,f=f0+1:=by
  cases f with
  |zero=>cases d
  |succ f0=>exact⟨f0,rfl⟩
 obtain⟨l0,N,q,s⟩:=qA d;have p:Hid (parse u f0 4 none st=some (l0,N)):=q;have i:Hid (parse u f0 3 l0 N=some (res,ad)):=s;clear d q s
 go_enter func93,ntmps93
 go_wp2_with fail
 refine(IH.out f0 (by omega) _ st l0 N L p.out).mono ?_;rintro e w1⟨v1,rfl,X,aa,Y⟩;clear L p
 go_wp2_with fail
 go_loopg [3] f0 (fun k l wr=>∃lt a,k<=f0/\xA v wr lt l/\Rdr wr v g j u a/\bE v w wr/\parse u k 3 lt a=some (res,ad))
 case atStart=>exact⟨l0,N,le_refl _,X,aa,Y,i.out⟩
 case round=>
  obtain⟨lt,a,hk,hE,L,U,d⟩:=hrel;clear i X aa Y
  obtain⟨k,S⟩:∃k,gk=k+1:=by
   cases gk with
   |zero=>cases d
   |succ k=>exact⟨k,rfl⟩
  rw[S]at d;have J:Hid (gk=k+1):=S
  have ab:k<f0+1:=by omega
  clear S
  cases lt with
  |none=>
   simp only[parse,Option.some.injEq,Prod.mk.injEq]at d;obtain⟨rfl,rfl⟩:=d;rw[show _=Value.pointer none from hE];clear hE
   go_wp2_with fail
   go_ret
   exact eP.nil L U
  |some t=>
   obtain⟨⟨b,hb⟩,C⟩:=hE;rw[hb];rw[hb]at C;clear hb;rw[parse]at d
   cases ho:a.okB with
   |false=>rw[ho]at d;cases d
   |true=>
    rw[ho]at d;simp only[cond_true]at d;have ok:=Rd.St.yZ ho;have b2:a.next<1000:=ok.1;clear ho ok;cases W:tk u a ⟨#[42]⟩
    ·cases u2:tk u a ⟨#[47]⟩
     ·rw[W,u2]at d;simp only[cond_false,Option.some.injEq,Prod.mk.injEq]at d;obtain⟨rfl,rfl⟩:=d
      go_wp2_with fail
      refine(uN _ v g j u a _ L b2 W).mono ?_;rintro e w2⟨rfl,M,D⟩
      go_wp2_with fail
      refine(uN _ v g j u a _ M b2 u2).mono ?_;rintro e w3⟨rfl,A,n⟩
      go_wp2_with fail
      go_ret
      exact⟨_,rfl,⟨⟨b,rfl⟩,fZ.aS (D.trans n) C⟩,A,(U.trans D).trans n⟩
     ·rw[W,u2]at d;simp only[cond_true,cond_false]at d;obtain⟨r,h,q,s⟩:=qA d;have p:Hid (parse u k 4 none a.aM=some (r,h)):=q;have i:=aC s;clear d q s
      go_wp2_with fail
      refine(uN _ v g j u a _ L b2 W).mono ?_;rintro e w2⟨rfl,M,D⟩
      go_wp2_with fail
      refine(xR _ v g j u a _ M b2 u2).mono ?_;rintro e w3⟨rfl,A,n⟩
      go_wp2_with fail
      refine(IH.out k ab _ a.aM r h A p.out).mono ?_;rintro e w4⟨v4,rfl,x,o,y⟩;have P:fZ v w4 t (.pointer (some ⟨b,0,none⟩)):=fZ.aS ((D.trans n).trans y) C;have F:bE v w w4:=((U.trans D).trans n).trans y;clear U D n y L M A C p
      cases r with
      |none=>
       rw[show v4=Value.pointer none from x];clear x
       go_wp2_with fail
       refine(Tw _ _ _ _).mono ?_;rintro e w5⟨rfl,rfl⟩
       go_wp2_with fail
       go_roundg k
       case measure=>have:=J.out;omega
       case rel=>exact⟨none,h,by omega,rfl,o,F,i.out⟩
      |some r=>
       obtain⟨⟨b4,B⟩,E⟩:=x;rw[B];rw[B]at E;clear B;obtain⟨T,I⟩:=Ip i.out;clear i;have O:=aC I;have al:=o.lt;clear I
       go_wp2_with fail
       refine(Tu _ v g j u h _ _ _ o T).mono ?_;rintro e w5⟨rfl,R,z,H⟩;clear o
       go_wp2_with fail
       go_roundg k
       case measure=>have:=J.out;omega
       case rel=>exact⟨some (jF 9 t r),h.node,by omega,Co (by omega) H (Or.inl ⟨rfl,rfl⟩) (fZ.aS z P) (fZ.aS z E),R,F.trans z,O.out⟩
    ·rw[W]at d;simp only[cond_true,cond_false]at d;obtain⟨r,h,q,s⟩:=qA d;have p:Hid (parse u k 4 none a.aM=some (r,h)):=q;have i:=aC s;clear d q s
     go_wp2_with fail
     refine(xR _ v g j u a _ L b2 W).mono ?_;rintro e w3⟨rfl,A,n⟩
     go_wp2_with fail
     refine(IH.out k ab _ a.aM r h A p.out).mono ?_;rintro e w4⟨v4,rfl,x,o,y⟩;have P:fZ v w4 t (.pointer (some ⟨b,0,none⟩)):=fZ.aS (n.trans y) C;have F:bE v w w4:=(U.trans n).trans y;clear U n y L A C p
     cases r with
     |none=>
      rw[show v4=Value.pointer none from x];clear x
      go_wp2_with fail
      refine(Tw _ _ _ _).mono ?_;rintro e w5⟨rfl,rfl⟩
      go_wp2_with fail
      go_roundg k
      case measure=>have:=J.out;omega
      case rel=>exact⟨none,h,by omega,rfl,o,F,i.out⟩
     |some r=>
      obtain⟨⟨b4,B⟩,E⟩:=x;rw[B];rw[B]at E;clear B;obtain⟨T,I⟩:=Ip i.out;clear i;have O:=aC I;have al:=o.lt;clear I
      go_wp2_with fail
      refine(Tu _ v g j u h _ _ _ o T).mono ?_;rintro e w5⟨rfl,R,z,H⟩;clear o
      go_wp2_with fail
      go_roundg k
      case measure=>have:=J.out;omega
      case rel=>exact⟨some (jF 8 t r),h.node,by omega,Co (by omega) H (Or.inl ⟨rfl,rfl⟩) (fZ.aS z P) (fZ.aS z E),R,F.trans z,O.out⟩
variable {st:Rd.St}
theorem aKN (h:1<=st.around):(st.around:Int)-1=((st.around-1:Nat):Int):=by omega
theorem aFT (h:st.fV=true):st.ok/\1<=st.around:=by
 simp only[Rd.St.fV,and_eq_true,decide_eq_true_eq]at h;exact⟨Rd.St.yZ h.1,h.2⟩
variable {y:Option Rd.Tr×Rd.St}
theorem aLh {k:Int}{x:Rd.Tr}(h:eB k (some x) st=some y):st.ok/\y=(some (Rd.fD k x),st.node):=by
 simp only[eB]at h
 cases a:st.okB with
 |false=>rw[a]at h;cases h
 |true=>
  rw[a]at h;exact⟨Rd.St.yZ a,(Option.some.inj h).symm⟩
theorem aJQ (n g b:Nat)(v:List Wd)(f:Nat)(X:Hid (∀k,k<f->jP n g b v 122 4 k))(W:Hid (∀k,k<f->jP n g b v 137 5 k)):jP n g b v 122 4 f:=by
 intro w st res R M a
 obtain⟨f0,rfl⟩:∃f0,f=f0+1:=by
  cases f with
  |zero=>cases a
  |succ f0=>exact⟨f0,rfl⟩
 rw[parse]at a
 cases I:st.okB with
 |false=>rw[I]at a;cases a
 |true=>
  rw[I]at a;simp only[cond_true]at a;have ok:=Rd.St.yZ I;have b1:st.next<1000:=ok.1;have b2:st.aM.around<1000:=ok.2.1;clear I ok;cases J:tk v st ⟨#[45]⟩
  ·rw[J]at a;simp only[cond_false]at a;have U:=aC a;clear a
   go_enter func122,ntmps122
   go_wp2_with fail
   refine(uN _ n g b v st _ M b1 J).mono ?_;rintro e w1⟨rfl,d,o⟩
   go_wp2_with fail
   refine(W.out f0 (by omega) _ st res R d U.out).mono ?_;rintro e H⟨T,rfl,l,h,p⟩
   go_wp2_with fail
   go_ret
   exact⟨_,rfl,l,h,o.trans p⟩
  ·rw[J]at a;simp only[cond_true]at a;obtain⟨x,j,D,i⟩:=qA a
   cases q:j.fV with
   |false=>rw[q]at i;cases i
   |true=>
    rw[q]at i;simp only[cond_true]at i;obtain⟨E,F⟩:=aFT q;have b3:j.around<1000:=E.2.1;have y:=aC D;have s:=aC i;clear a D i q E
    go_enter func122,ntmps122
    go_wp2_with fail
    refine(xR _ n g b v st _ M b1 J).mono ?_;rintro e w1⟨rfl,d,o⟩;have d2:=d.c2;have f2:=d.fz 2
    go_wp2_with fail
    refine(X.out f0 (by omega) _ st.aM.lI x j (d.Fa (st.aM.around+1) (by simp)) y.out).mono ?_;rintro e H⟨T,rfl,l,h,p⟩;have A:bE n w H:=(o.setCell 2 _).trans p;clear d2 f2 o p d M y;have d2:=h.c2;have f2:=h.fz 2;have C:=h.Fa (j.around-1) (aKN F);have Y:=h.lt
    cases x with
    |none=>
     rw[show T=Value.pointer none from l];clear l;have e:=s.out;simp only[eB,Option.some.injEq,Prod.mk.injEq]at e;obtain⟨rfl,rfl⟩:=e
     go_wp2_with fail
     refine(aI2 _ _ _).mono ?_;rintro e w5⟨rfl,rfl⟩
     go_wp2_with fail
     go_ret
     exact eP.nil C (A.setCell 2 _)
    |some x=>
     obtain⟨⟨b4,u⟩,z⟩:=l;rw[u];rw[u]at z;clear u;obtain⟨P,S⟩:=aLh s.out;simp only[Prod.mk.injEq]at S;obtain⟨rfl,rfl⟩:=S;have L:bE n H (H.setCell ⟨n,2,none⟩ (.int .i64 ((j.around:Int)-1))):=(bE.refl _ _).setCell 2 _;clear s
     go_wp2_with fail
     refine(aGB _ n g b v j.out _ _ C P).mono ?_;rintro e w5⟨rfl,N,B,r⟩;rw[Ie]at r
     have O:H.heap.size≠n:=by omega
     go_wp2_with fail
     go_ret
     refine⟨_,rfl,Co O r (Or.inl ⟨rfl,rfl⟩) (fZ.aS (L.trans B) z) rfl,N,(A.setCell 2 _).trans B⟩
theorem aGN (p g d:Nat)(q:List Wd)(f:Nat)(O:Hid (∀k,k<f->jP p g d q 65 0 k)):jP p g d q 159 6 f:=by
 intro w st res R M i
 obtain⟨f0,rfl⟩:∃f0,f=f0+1:=by
  cases f with
  |zero=>cases i
  |succ f0=>exact⟨f0,rfl⟩
 rw[parse]at i
 ·cases H:st.okB with
  |false=>rw[H]at i;cases i
  |true=>
   rw[H]at i;simp only[cond_true]at i;have ok:=Rd.St.yZ H;have b1:st.next<1000:=ok.1;have b2:st.aM.around<1000:=ok.2.1;clear H ok;cases I:tk q st ⟨#[40]⟩
   ·rw[I]at i;simp only[cond_false,Option.some.injEq,Prod.mk.injEq]at i;obtain⟨rfl,rfl⟩:=i
    go_enter func159,ntmps159
    go_wp2_with fail
    refine(uN _ p g d q st _ M b1 I).mono ?_;rintro e T⟨rfl,h,j⟩
    go_wp2_with fail
    go_ret
    exact eP.nil h j
   ·rw[I]at i;simp only[cond_true]at i;obtain⟨x,a,E,b⟩:=qA i;unfold Rd.iE at b
    cases o:a.fV with
    |false=>rw[o]at b;cases b
    |true=>
     rw[o]at b;simp only[cond_true]at b;obtain⟨A,F⟩:=aFT o;have W:a.around<1000:=A.2.1;have b4:a.out.next<1000:=A.1;have B:=aC E;have r:=aC b;clear i E b o A
     go_enter func159,ntmps159
     go_wp2_with fail
     refine(xR _ p g d q st _ M b1 I).mono ?_;rintro e T⟨rfl,h,j⟩;have d2:=h.c2;have f2:=h.fz 2
     go_wp2_with fail
     refine(O.out f0 (by omega) _ st.aM.lI x a (h.Fa (st.aM.around+1) (by simp)) B.out).mono ?_;rintro e N⟨S,rfl,s,n,D⟩;have u:bE p w N:=(j.setCell 2 _).trans D;clear d2 f2 j D h M B;have d2:=n.c2;have f2:=n.fz 2;have v:=n.Fa (a.around-1) (aKN F);have P:=n.lt
     cases x with
     |none=>
      rw[show S=Value.pointer none from s];clear s;have e:=r.out;simp only[Option.some.injEq,Prod.mk.injEq]at e;obtain⟨rfl,rfl⟩:=e
      go_wp2_with fail
      go_ret
      exact eP.nil v (u.setCell 2 _)
     |some x=>
      obtain⟨⟨b5,z⟩,C⟩:=s;rw[z];rw[z]at C;clear z;have L:bE p N (N.setCell ⟨p,2,none⟩ (.int .i64 ((a.around:Int)-1))):=(bE.refl _ _).setCell 2 _;have e:=r.out;clear r;cases J:tk q a.out ⟨#[41]⟩
      ·simp only[J,cond_false,Option.some.injEq,Prod.mk.injEq]at e;obtain⟨rfl,rfl⟩:=e
       go_wp2_with fail
       refine(uN _ p g d q a.out _ v b4 J).mono ?_;rintro e U⟨rfl,y,l⟩
       go_wp2_with fail
       go_ret
       exact eP.nil y ((u.setCell 2 _).trans l)
      ·simp only[J,cond_true,Option.some.injEq,Prod.mk.injEq]at e;obtain⟨rfl,rfl⟩:=e
       go_wp2_with fail
       refine(xR _ p g d q a.out _ v b4 J).mono ?_;rintro e U⟨rfl,y,l⟩
       go_wp2_with fail
       go_ret
       exact⟨_,rfl,⟨⟨b5,rfl⟩,fZ.aS (L.trans l) C⟩,y,(u.setCell 2 _).trans l⟩
 all_goals omega
theorem Pl {t:Rd.Tr}{a:Rd.St}(h:(bif st.okB then some (some t,a)else none)=some y):st.ok/\y=(some t,a):=by
 cases b:st.okB with
 |false=>rw[b]at h;cases h
 |true=>
  rw[b]at h;exact⟨Rd.St.yZ b,(Option.some.inj h).symm⟩
theorem aNM (p g j:Nat)(q:List Wd)(f:Nat)(E:kV q)(W:Hid (jP p g j q 159 6 f))(w:World)(k:Int)(st:Rd.St)(res:Option Rd.Tr)(z:Rd.St)(r:Rdr w p g j q st)(b1:st.next<1000)
  (d:Rd.nameOf q k st (fun s=>parse q f 6 none s)=some (res,z)):Calls prog 158 #[.pointer (some ⟨p,0,none⟩),.int .i64 k] w (eP p g j q w res z):=by
 unfold Rd.nameOf at d;have L:=aC E;clear E;cases H:(k==0)
 ·have d1:=r.c1;have f1:=r.fz 1;have l:=r.yL (st.next+1) (m:=(st.next:Int)+1) (by simp);have o:bE p w (w.setCell ⟨p,1,none⟩ (.int .i64 ((st.next:Int)+1))):=(bE.refl _ _).setCell 1 _;have X:=l.lt;cases I:(k==2)
  ·cases O:(k==3)
   ·cases S:(k==4)
    ·rw[H,I,O,S]at d;simp only[cond_false,Bool.or_self]at d;obtain⟨x,F,C,D⟩:=qA d;have J:=aC C;have v:=aC D;clear d C D
     go_enter func158,ntmps158
     go_wp2_with fail
     refine(W.out _ st.aM x F l J.out).mono ?_;rintro e P⟨T,rfl,n,h,a⟩;have R:=h.lt;clear r l d1 f1
     cases x with
     |none=>
      rw[show T=Value.pointer none from n];clear n;have e:=v.out;simp only[eB,Option.some.injEq,Prod.mk.injEq]at e;obtain⟨rfl,rfl⟩:=e
      go_wp2_with fail
      refine(aI2 _ _ _).mono ?_;rintro e Y⟨rfl,rfl⟩
      go_wp2_with fail
      go_ret
      exact eP.nil h (o.trans a)
     |some x=>
      obtain⟨⟨b4,y⟩,A⟩:=n;rw[y];rw[y]at A;clear y;obtain⟨N,u⟩:=aLh v.out;simp only[Prod.mk.injEq]at u;obtain⟨rfl,rfl⟩:=u;clear v
      go_wp2_with fail
      refine(aGB _ p g j q F _ _ h N).mono ?_;rintro e Y⟨rfl,M,B,i⟩
      go_wp2_with fail
      go_ret
      exact⟨_,rfl,Co (by omega) i (Or.inl ⟨rfl,rfl⟩) (fZ.aS B A) rfl,M,(o.trans a).trans B⟩
    ·rw[H,I,O,S]at d;simp only[cond_true,cond_false,Bool.or_self]at d;have U:=aC d;clear d
     go_enter func158,ntmps158
     go_wp2_with fail
     refine(aGY _ p g j q st.aM l L.out res z U.out).mono ?_;rintro e P⟨T,rfl,n,h,a⟩
     go_wp2_with fail
     go_ret
     exact⟨_,rfl,n,h,o.trans a⟩
   ·rw[H,I,O]at d;simp only[cond_true,cond_false,Bool.or_true]at d;obtain⟨ok,u⟩:=Pl d;simp only[Prod.mk.injEq]at u;obtain⟨rfl,rfl⟩:=u;clear d
    go_enter func158,ntmps158
    go_wp2_with fail
    refine(Vd _ p g j q st.aM _ (l.alloc _) ok).mono ?_;rintro e P⟨rfl,h,a⟩;have i:=Oo (b:=w.heap.size) a (Ie _ _ _).symm (by have:=r.lt;omega)
    go_wp2_with fail
    go_ret
    exact⟨_,rfl,Co (by have:=r.lt;omega) i (Or.inl ⟨rfl,rfl⟩) rfl rfl,h,(o.alloc _).trans a⟩
  ·rw[H,I]at d;simp only[cond_true,cond_false,Bool.true_or]at d;obtain⟨ok,u⟩:=Pl d;simp only[Prod.mk.injEq]at u;obtain⟨rfl,rfl⟩:=u;clear d
   go_enter func158,ntmps158
   go_wp2_with fail
   refine(Vd _ p g j q st.aM _ (l.alloc _) ok).mono ?_;rintro e P⟨rfl,h,a⟩;have i:=Oo (b:=w.heap.size) a (Ie _ _ _).symm (by have:=r.lt;omega)
   go_wp2_with fail
   go_ret
   exact⟨_,rfl,Co (by have:=r.lt;omega) i (Or.inl ⟨rfl,rfl⟩) rfl rfl,h,(o.alloc _).trans a⟩
 ·rw[H]at d;simp only[cond_true,Option.some.injEq,Prod.mk.injEq]at d;obtain⟨rfl,rfl⟩:=d
  go_enter func158,ntmps158
  go_wp2_with fail
  go_ret
  exact eP.nil r (bE.refl _ _)
theorem aMC (q g i:Nat)(n:List Wd)(f:Nat)(p:kV n)(H:Hid (∀k,k<f->jP q g i n 159 6 k)):jP q g i n 137 5 f:=by
 intro w st res v r a
 obtain⟨f0,rfl⟩:∃f0,f=f0+1:=by
  cases f with
  |zero=>cases a
  |succ f0=>exact⟨f0,rfl⟩
 rw[parse]at a
 cases y:st.okB with
 |false=>rw[y]at a;cases a
 |true=>
  rw[y]at a;simp only[cond_true]at a;have ok:=Rd.St.yZ y;have b1:st.next<1000:=ok.1;clear y ok;have u:=p st.next;have C:=aC p;clear p
  have D:Hid (∀W,Rdr W q g i n st->Calls prog 66 #[.pointer (some ⟨q,0,none⟩)] W fun e E=>e=.returned (.agg #[.int .i64 (aB n st.next).kind,.string (aB n st.next).text,.int .i64 (aB n st.next).pos])/\Below W.heap.size W E):=fun W N=>Ii W q g i n st N
  generalize aB n st.next=x at*;have B:=aC u;clear u;cases z:(x.kind==1)
  ·cases J:(x.kind==2)
   ·rw[z,J]at a;simp only[cond_false]at a;have A:=aC a;clear a
    go_enter func137,ntmps137
    go_wp2_with fail
    refine(D.out _ r).mono ?_;rintro e F⟨rfl,h⟩;have d:=r.below h
    go_wp2_with fail
    refine(H.out f0 (by omega) _ st res v (d.alloc _) A.out).mono ?_;rintro e L⟨P,rfl,o,l,j⟩
    go_wp2_with fail
    go_ret
    exact⟨_,rfl,o,l,((bE.eF h).alloc _).trans j⟩
   ·rw[z,J]at a;simp only[cond_true,cond_false]at a;have A:=aC a;clear a;have M:=aC (H.out f0 (by omega))
    go_enter func137,ntmps137
    go_wp2_with fail
    refine(D.out _ r).mono ?_;rintro e F⟨rfl,h⟩;have d:=r.below h
    go_wp2_with (go_at_call 157;refine(aNN _ _).mono ?_;rintro e E⟨rfl,rfl⟩)
    refine(aNM q g i n f0 C.out M _ _ st res v (d.alloc _) b1 A.out).mono ?_;rintro e L⟨P,rfl,o,l,j⟩
    go_wp2_with fail
    go_ret
    exact⟨_,rfl,o,l,((bE.eF h).alloc _).trans j⟩
  ·have O:x.text.size<=9:=B.out (by simpa using z);rw[z]at a;simp only[cond_true]at a;obtain⟨ok,I⟩:=Pl a;simp only[Prod.mk.injEq]at I;obtain⟨rfl,rfl⟩:=I;clear a
   go_enter func137,ntmps137
   go_wp2_with fail
   refine(D.out _ r).mono ?_;rintro e F⟨rfl,h⟩;have d:=r.below h;have d1:=d.c1;have f1:=d.fz 1;have R:=d.lt
   go_wp2_with (go_at_call 155;refine(Zv _ _ _ _ O).mono ?_;rintro e E⟨rfl,rfl⟩)
   refine(Vd _ q g i n st.aM _ ((((d.yL (st.next+1) (by simp)).alloc _).alloc _).alloc _) ok).mono ?_;rintro e L⟨rfl,l,j⟩;have s:=Oo (b:=F.heap.size+1+1) j (by simp[Ie]) (by omega)
   go_wp2_with fail
   go_ret
   exact⟨_,rfl,Co (by omega) s (Or.inl ⟨rfl,rfl⟩) rfl rfl,l,(((((bE.eF h).setCell 1 _).alloc _).alloc _).alloc _).trans j⟩
theorem Oh (e g a:Nat)(d:List Wd)(i:kV d):∀n f,f<=n->
  jP e g a d 65 0 f/\jP e g a d 93 2 f/\jP e g a d 122 4 f/\jP e g a d 137 5 f/\jP e g a d 159 6 f:=by
 intro n
 induction n with
 |zero=>
  intro f j
  obtain rfl:f=0:=by omega
  refine⟨?_,?_,?_,?_,?_⟩<;>(intro w st res o _ l;cases l)
 |succ n h=>
  intro f j
  have lt:∀k,k<f->k<=n:=fun k b=>by omega
  exact ⟨aQz e g a d f (fun k b=>(h k (lt k b)).2.1),aIz e g a d f (fun k b=>(h k (lt k b)).2.2.1),
   aJQ e g a d f (fun k b=>(h k (lt k b)).2.2.1) (fun k b=>(h k (lt k b)).2.2.2.1),
   aMC e g a d f i (fun k b=>(h k (lt k b)).2.2.2.2),aGN e g a d f (fun k b=>(h k (lt k b)).1)⟩
theorem aJI (s:ByteArray)(a:Nat):∀f e,e<=a+9->cJ s a f e<=a+9:=by
 intro f
 induction f with
 |zero=>intro e h;exact h
 |succ f b=>
  intro e h;unfold cJ
  cases hc:decide (e<s.size/\e-a<9)&&cO (aQ s e)with
  |false=>exact h
  |true=>
   simp only[and_eq_true,decide_eq_true_eq]at hc;exact b (e+1) (by omega)
theorem aL9 (s:ByteArray):∀f a,∀x∈Rd.split s f a,x.kind=1->x.text.size<=9:=by
 intro f
 induction f with
 |zero=>intro a x hx;simp[Rd.split]at hx
 |succ f i=>
  intro a x hx;rw[Rd.split]at hx
  cases b:decide (a<s.size)with
  |false=>
   rw[b]at hx;simp at hx;subst hx;intro h;simp at h
  |true=>
   rw[b]at hx;simp only[decide_eq_true_eq]at b
   cases g:(aQ s a != 32)with
   |false=>
    rw[g]at hx;exact i _ x hx
   |true=>
    rw[g]at hx;simp only[cond_true,mem_cons]at hx
    rcases hx with rfl|hx
    ·intro e;simp only at e
     have d:cO (aQ s a)=true:=by
      cases d:cO (aQ s a)with
      |true=>rfl
      |false=>
       rw[Rd.kindOf,d]at e
       cases j:Rd.isLet (aQ s a)<;>simp[j]at e
     have k:wordEnd s a<=a+9:=by
      rw[wordEnd,d];exact aJI s a 9 (a+1) (by omega)
     show(s.extract a (wordEnd s a)).size<=9;rw[ByteArray.size_extract];omega
    ·exact i _ x hx
theorem aHE (s:ByteArray)(f a:Nat):kV (Rd.split s f a):=by
 intro n b;unfold aB at*
 rcases Nat.lt_or_ge n (Rd.split s f a).length with h|h
 ·rw[show(Rd.split s f a).getD n ⟨0,⟨#[]⟩,0⟩=(Rd.split s f a)[n] by simp[List.getD,h]]at*;exact aL9 s f a _ (List.getElem_mem h) b
 ·rw[show(Rd.split s f a).getD n ⟨0,⟨#[]⟩,0⟩=⟨0,⟨#[]⟩,0⟩ by simp[List.getD,h]]at b;simp at b
theorem aOF (s:ByteArray):∀f a,s.size<f+a->a<=s.size->0<(Rd.split s f a).length:=by
 intro f
 induction f with
 |zero=>intro a h e;omega
 |succ f g=>
  intro a h e;rw[Rd.split]
  cases b:decide (a<s.size)with
  |false=>simp
  |true=>
   simp only[decide_eq_true_eq]at b
   cases j:(aQ s a != 32)with
   |true=>simp
   |false=>
    have i:=Rd.Ic s a;have d:=Rd.Lq s a b;exact g _ (by omega) d
theorem aHf (s:ByteArray)(w:World)(D:s.size<=120):
  Calls prog 64 #[.string s] w fun e q=>∃l g a,e=.returned (.pointer (some ⟨l,0,none⟩))/\w.heap.size<=l/\Rdr q l g a (Rd.split s (s.size+1) 0) ⟨0,0,0,0⟩/\Below w.heap.size w q:=by
 have p:=aOF s (s.size+1) 0 (by omega) (by omega);have y:=aC (aOC s w D);generalize Rd.split s (s.size+1) 0=n at*
 go_enter func64,ntmps64
 go_wp2_with fail
 refine(y.out).mono ?_;rintro e r⟨v,rfl,d,o⟩
 obtain⟨g,a,b,hv,E,k,f⟩:∃g a b,v=.slice (some ⟨g,0,none⟩) n.length a/\w.heap.size<=g/\r.heap[g]?=some (.cells b 121 (0,0))/\b.toList.take (n.length*3)=Rd.eC n:=by
  rcases d.2 with⟨_,h⟩|⟨g,a,b,z,A,B,_,_,_,C⟩
  ·omega
  ·exact⟨g,a,b,z,A,B,C⟩
 rw[hv];have j:=o.size;have i:=fQ k;have u:=aC k;have x:=aC f;clear hv d k f
 go_wp2_with fail
 go_ret
 refine⟨r.heap.size,g,a,rfl,j,⟨kO _ _,⟨b,?_,x.out⟩,by omega⟩,o.alloc j _⟩;rw[Below.heap_alloc _ _ _ i];exact u.out
variable {w d:Nat}{n:World}
theorem Ns {b J:World}(h:Below w n b)(a:bE d b J)(f:w<=d)(g:w<=b.heap.size):Below w n J:=
 h.trans ⟨a.os,a.tape,a.output,a.size,fun k e=>a.block k (by omega) (by omega)⟩
def zQ (w:World)(x:Option Rd.Tr×Int×Int)(e:Ending)(b:World):Prop:=
 ∃a v,e=.returned (.tuple #[v,.int .i64 x.2.1,.int .i64 x.2.2])/\w.heap.size<=a/\xA a b x.1 v/\Below w.heap.size w b
theorem aI0 (f:Nat)(s:ByteArray)(w:World)(x:Option Rd.Tr×Int×Int)(Y:s.size<=maxLen)(q:Rd.read f s=some x):Calls prog 38 #[.string s] w (zQ w x):=by
 unfold maxLen at Y;unfold Rd.read at q
 by_cases U:120<s.size
 ·rw[decide_eq_true U]at q;simp only[cond_true,Option.some.injEq]at q;subst q
  go_enter func38,ntmps38
  go_wp2_with fail
  go_ret3
  exact⟨_,_,rfl,le_refl _,rfl,Below.refl _ _⟩
 ·rw[decide_eq_false U]at q;simp only[cond_false]at q;have I:=aHE s (s.size+1) 0;generalize T:parse (Rd.split s (s.size+1) 0) f 0 none ⟨0,0,0,0⟩=R at q;have F:=aC (aHf s w (by omega));generalize Rd.split s (s.size+1) 0=B at*;have D:=aC I;have C:=aC T;clear I T
  cases R with
  |none=>cases q
  |some y=>
   obtain⟨t,st⟩:=y
   have H:Hid (∀W u g l,Rdr W u g l B st->Calls prog 66 #[.pointer (some ⟨u,0,none⟩)] W fun e w'=>e=.returned (.agg #[.int .i64 (aB B st.next).kind,.string (aB B st.next).text,.int .i64 (aB B st.next).pos])/\Below W.heap.size W w'):=fun W u g l X=>Ii W u g l B st X
   cases t with
   |none=>
    simp only[Option.some.injEq]at q;generalize aB B st.next=x at*;subst q
    go_enter func38,ntmps38
    go_wp2_with fail
    refine(F.out).mono ?_;rintro e M⟨u,g,l,rfl,j,o,b⟩
    go_wp2_with fail
    refine((Oh u g l B D.out f f (le_refl _)).1 _ _ _ st o C.out).mono ?_;rintro e N⟨J,rfl,r,p,n⟩;have d:=Ns b n j b.size;have k:=d.size;rw[show J=Value.pointer none from r]
    go_wp2_with fail
    refine(H.out _ _ _ _ p).mono ?_;rintro e E⟨rfl,a⟩;have A:=a.size
    go_wp2_with fail
    go_quiet (fail)
    go_wp2_with fail
    go_ret3
    exact⟨u,_,rfl,j,rfl,below_drewN ((d.trans (a.mono k)).alloc (by omega) _) _⟩
   |some t=>
    simp only at q;generalize aB B st.next=x at*;cases L:(x.kind==0)
    ·have S:(x.kind != 0)=true:=by simp[bne,L]
     rw[L]at q;simp only[cond_false,Option.some.injEq]at q;subst q
     go_enter func38,ntmps38
     go_wp2_with fail
     refine(F.out).mono ?_;rintro e M⟨u,g,l,rfl,j,o,b⟩
     go_wp2_with fail
     refine((Oh u g l B D.out f f (le_refl _)).1 _ _ _ st o C.out).mono ?_;rintro e N⟨J,rfl,r,p,n⟩;have d:=Ns b n j b.size;have k:=d.size;obtain⟨⟨b5,i⟩,v⟩:=r;rw[i];rw[i]at v;clear i
     go_wp2_with fail
     refine(H.out _ _ _ _ p).mono ?_;rintro e E⟨rfl,a⟩;have A:=a.size;have z:Below w.heap.size w E:=d.trans (a.mono k);have h:=p.below a;have d3:=h.c3;have O:=h.c4;have P:=h.lt;clear b o n d
     go_wp2_with fail
     go_quiet (fail)
     go_wp2_with fail
     go_ret3
     exact⟨u,_,rfl,j,rfl,below_drewN (z.alloc (by omega) _) _⟩
    ·have S:(x.kind != 0)=false:=by simp[bne,L]
     rw[L]at q;simp only[cond_true]at q
     by_cases u2:(12:Int)<st.deepest
     ·rw[decide_eq_true (show 12<st.deepest by omega)]at q;simp only[Bool.true_or,cond_true,Option.some.injEq]at q;subst q
      go_enter func38,ntmps38
      go_wp2_with fail
      refine(F.out).mono ?_;rintro e M⟨u,g,l,rfl,j,o,b⟩
      go_wp2_with fail
      refine((Oh u g l B D.out f f (le_refl _)).1 _ _ _ st o C.out).mono ?_;rintro e N⟨J,rfl,r,p,n⟩;have d:=Ns b n j b.size;have k:=d.size;obtain⟨⟨b5,i⟩,v⟩:=r;rw[i];rw[i]at v;clear i
      go_wp2_with fail
      refine(H.out _ _ _ _ p).mono ?_;rintro e E⟨rfl,a⟩;have A:=a.size;have z:Below w.heap.size w E:=d.trans (a.mono k);have h:=p.below a;have d3:=h.c3;have O:=h.c4;have P:=h.lt;clear b o n d
      go_wp2_with fail
      go_ret3
      exact⟨u,_,rfl,j,rfl,z.alloc (by omega) _⟩
     ·rw[decide_eq_false (show¬12<st.deepest by omega)]at q
      by_cases u3:(40:Int)<st.nodes
      ·rw[decide_eq_true (show 40<st.nodes by omega)]at q;simp only[Bool.or_true,cond_true,Option.some.injEq]at q;subst q
       go_enter func38,ntmps38
       go_wp2_with fail
       refine(F.out).mono ?_;rintro e M⟨u,g,l,rfl,j,o,b⟩
       go_wp2_with fail
       refine((Oh u g l B D.out f f (le_refl _)).1 _ _ _ st o C.out).mono ?_;rintro e N⟨J,rfl,r,p,n⟩;have d:=Ns b n j b.size;have k:=d.size;obtain⟨⟨b5,i⟩,v⟩:=r;rw[i];rw[i]at v;clear i
       go_wp2_with fail
       refine(H.out _ _ _ _ p).mono ?_;rintro e E⟨rfl,a⟩;have A:=a.size;have z:Below w.heap.size w E:=d.trans (a.mono k);have h:=p.below a;have d3:=h.c3;have O:=h.c4;have P:=h.lt;clear b o n d
       go_wp2_with fail
       go_ret3
       exact⟨u,_,rfl,j,rfl,z.alloc (by omega) _⟩
      ·rw[decide_eq_false (show¬40<st.nodes by omega)]at q;simp only[Bool.or_false,cond_false,Option.some.injEq]at q;subst q
       go_enter func38,ntmps38
       go_wp2_with fail
       refine(F.out).mono ?_;rintro e M⟨u,g,l,rfl,j,o,b⟩
       go_wp2_with fail
       refine((Oh u g l B D.out f f (le_refl _)).1 _ _ _ st o C.out).mono ?_;rintro e N⟨J,rfl,r,p,n⟩;have d:=Ns b n j b.size;have k:=d.size;obtain⟨⟨b5,i⟩,v⟩:=r;rw[i];rw[i]at v;clear i
       go_wp2_with fail
       refine(H.out _ _ _ _ p).mono ?_;rintro e E⟨rfl,a⟩;have A:=a.size;have z:Below w.heap.size w E:=d.trans (a.mono k);have h:=p.below a;have d3:=h.c3;have O:=h.c4;have P:=h.lt;clear b o n d
       go_wp2_with fail
       go_ret3
       exact⟨u,_,rfl,j,⟨⟨b5,rfl⟩,fZ.aS ((bE.eF a).alloc _) v⟩,z.alloc (by omega) _⟩
def hO (B:Nat)(w:World)(x:Option Rd.Tr)(v:Value):Prop:=
 match x with
 |none=>v=.pointer none
 |some t=>∃b a d,v=.pointer (some ⟨a,0,none⟩)/\B<=b/\B<=a/\w.heap[a]?=some (.cells #[d] 68 (0,0))/\xA b w (some t) d
def zI (w:World)(x:Option Rd.Tr×Int×Int)(e:Ending)(a:World):Prop:=
 ∃v,e=.returned (.tuple #[v,.int .i64 x.2.1,.int .i64 x.2.2])/\hO w.heap.size a x.1 v/\Below w.heap.size w a
theorem aTr {s:ByteArray}{x:Option Rd.Tr×Int×Int}(h:Rd.read w s=some x):(x.1=none/\(x.2.1 != 0)=true)\/(∃t,x=(some t,0,0)):=by
 unfold Rd.read at h
 cases a:decide (120<s.size)with
 |true=>
  rw[a]at h;simp only[cond_true,Option.some.injEq]at h;subst h;exact Or.inl ⟨rfl,rfl⟩
 |false=>
  rw[a]at h;simp only[cond_false]at h;split at h
  ·cases h
  ·simp only[Option.some.injEq]at h;subst h;exact Or.inl ⟨rfl,rfl⟩
  ·rename_i t st _;generalize ((aB (Rd.split s (s.size+1) 0) st.next).kind==0)=b at h;generalize (decide (12<st.deepest)||decide (40<st.nodes))=c at h;cases b
   ·simp only[cond_false,Option.some.injEq]at h;subst h;exact Or.inl ⟨rfl,rfl⟩
   ·cases c
    ·simp only[cond_true,cond_false,Option.some.injEq]at h;exact Or.inr ⟨t,h.symm⟩
    ·simp only[cond_true,Option.some.injEq]at h;subst h;exact Or.inl ⟨rfl,rfl⟩
theorem Nl (f:Nat)(s:ByteArray)(w:World)(x:Option Rd.Tr×Int×Int)(j:s.size<=maxLen)(i:Rd.read f s=some x):Calls prog 19 #[.string s] w (zI w x):=by
 have k:=aC (aI0 f s w x j i)
 rcases aTr i with⟨l,q⟩|⟨t,rfl⟩
 ·obtain⟨t,r,u⟩:=x;simp only at l q;subst l;clear i j
  go_enter func19,ntmps19
  go_wp2_with fail
  refine(k.out).mono ?_;rintro e p⟨o,v,rfl,d,n,h⟩
  go_wp2_with fail
  go_ret3
  exact⟨_,rfl,rfl,h⟩
 ·clear i j
  go_enter func19,ntmps19
  go_wp2_with fail
  refine(k.out).mono ?_;rintro e p⟨o,v,rfl,d,n,h⟩;obtain⟨⟨b,hv⟩,a⟩:=n;rw[hv];rw[hv]at a;clear hv;have g:=h.size
  go_wp2_with fail
  go_ret3
  exact⟨_,rfl,⟨o,p.heap.size,_,rfl,d,g,kO _ _,⟨b,rfl⟩,fZ.aS ((bE.refl _ _).alloc _) a⟩,h.alloc g _⟩
theorem Wo {e size o:Nat}{x:Value}{i:LB}(h:n.ownsRow w e size x o i):∃a ln cp,x=.slice a ln cp:=by
 rcases h.2 with⟨rfl,_⟩|⟨g,b,d,rfl,_⟩
 ·exact⟨_,_,_,rfl⟩
 ·exact⟨_,_,_,rfl⟩
theorem Uo {a:Addr}{x:Value}(h:n.cell? a=some x):a.block<n.heap.size:=by
 unfold World.cell? at h;split at h
 ·rename_i e;exact fQ e
 ·cases h
variable {ts:LN}
theorem aOQ {c:Nat}(h:c<ts.length):ts.take (c+1)=ts.take c++[ts[c]]:=(List.take_append_getElem h).symm
def Jc (w:World)(ts:LN)(l i:Value)(wr:World):Prop:=
 ∃c:Nat,c<=ts.length/\i=.int .i64 c/\wr.ownsRow w.heap.size 3 1 l c ((ts.take c).map (Value.int .i64))/\Below w.heap.size w wr
theorem aGX (w:World)(b:Nat)(y x:Int)(ts:LN)(A:Option Addr)(p:Nat)(R S:Value)(U:ts.length<=1000)(v:w.heap[b]?=some (.cells #[.int .i64 y,.int .i64 x,.slice A ts.length p,R,S] 91 (0,0)))(hc:∀k,(h:k<ts.length)->∃tb,A=some ⟨tb,0,none⟩/\w.cell? ⟨tb,k,none⟩=some (.int .i64 ts[k])):
  Calls prog 48 #[.pointer (some ⟨b,0,none⟩)] w fun e H=>∃l,∃m,e=.returned (.pointer (some ⟨m,0,none⟩))/\H.ownsRow w.heap.size 3 1 l ts.length (ts.map (Value.int .i64))/\H.heap[m]?=some (.cells #[.int .i64 y,.bool false,.slice none 0 0,.bool false,.slice none 0 0,l,.pointer none,.pointer none] 131 (0,0))/\Below w.heap.size w H:=by
 obtain⟨i,hi,P,n,C⟩:=info_parts wF;have k0:w.cell? ⟨b,0,none⟩=some (.int .i64 y):=bH v rfl;have J:w.cell? ⟨b,2,none⟩=some (.slice A ts.length p):=bH v rfl;have N:=fQ v;clear v
 go_enter func48,ntmps48
 go_wp2_with fail
 go_loopw [3,4] (fun l i wr=>Jc w ts l i wr) (fun _ i _=>ts.length-(intOf i).toNat)
 case atStart=>
  refine⟨0,zero_le _,rfl,⟨rfl,Or.inr ⟨w.heap.size,0,#[],rfl,le_refl _,kO _ _,le_refl _,by decide,rfl,rfl⟩⟩,(Below.refl _ _).alloc (le_refl _) _⟩
 case round=>
  obtain⟨c,O,rfl,d,a⟩:=hrel;have B:=a.size;have d0:=(a.cell (Uo k0)).trans k0;have d2:=(a.cell (Uo J)).trans J
  by_cases r:c<ts.length
  ·obtain⟨tb,rfl,F⟩:=hc c r;have T:=(a.cell (Uo F)).trans F;have M:=hid (aOQ r);obtain⟨o,s,q,rfl⟩:=Wo d
   have E:(c:Int)<ts.length:=by omega
   clear F hc;generalize ts[c]=x at*
   go_wp2_with (at_builtin;(refine wpList_append_own _ rfl _ _ 87 rfl w.heap.size 3 i (.int .i64 0) 1 8 underlying87 hi P n C rfl (by decide) _ _ _ rfl (d.alloc _) ⟨wr.heap.size,0,none⟩ 1 1 [.int .i64 x] rfl rfl (cell_one_new _ _ _) (fun u I=>by simp at I;subst I;rfl) (by unfold maxLen;omega) (by omega) (by simp;omega) ?_;intro W X g f j;have L:=hid (Fm d a a.size _ f);have z:=hid g;clear j f g))
   go_roundw
   case rel=>
    refine⟨c+1,by omega,by go_num,?_,L.out⟩;rw[M.out,List.map_append];exact z.out
   case measure=>simp[intOf];omega
  ·have D:c=ts.length:=by omega
   have E:¬(c:Int)<ts.length:=by omega
   have z:=hid d;obtain⟨o,s,q,rfl⟩:=Wo d;clear d
   go_wp2_with fail
   go_ret
   refine⟨_,_,rfl,?_,kO _ _,a.alloc B _⟩;have:=(z.out).alloc (.cells #[.int .i64 y,.bool false,.slice none 0 0,.bool false,.slice none 0 0,.slice o s q,.pointer none,.pointer none] 131 (0,0));rw[D,List.take_length]at this;exact this
namespace Ab
open Rf (Nd Inv aZ Wt)
def sT (kd x:Int)(tv lv rv:Value)(a:List AT):AS:=⟨a,[(0,ext [.int .i64 kd,.sint .i64 x,.lit tv,.lit lv,.lit rv] 91)],1,[],[]⟩
def sU (a:List AT):AS:=⟨a,[],0,[],[]⟩
def stT (a:List (K (List AT))):Bool:=lN (fun o=>aF 32 o||aF 48 o||aF 49 o||aF 50 o||aF 51 o) a
abbrev Mz:List AT:=P0::List.replicate 78 .fX
noncomputable def yN (b:PH)(a:List (K (List AT)))(s:AS):Option XT:=(run Z (aD tP) bP (aK Z (aD tP)) stT 400 a s).bind (eD (eX [0] [] 1 []) (eX [0] b 1 []))
noncomputable def tK':List (K (List AT)):=[.code (aE f32),.top f32]
noncomputable def nA (a:List (K (List AT)))(s:AS):Option Tr:=run Z (aD tP) bP (aK Z (aD tP)) (fun _=>false) 50 a s
abbrev nS (v:Value)(e:Int):AT:=fW (.lit v) e
noncomputable def o1 (x:Int)(tv lv rv:Value):Option Tr:=run Z (aD tP) bP (aK Z (aD tP)) (fun _=>false) 400 tK' (sT 1 x tv lv rv Mz)
noncomputable def o1S (x:Int)(tv lv rv:Value):AS:=(((o1 x tv lv rv).bind (dD [])).map (·.2)).getD ⟨[],[],0,[],[]⟩
section
variable (x kd e:Int) (tv lv rv v v1 v2:Value)
theorem u_1:o1 x tv lv rv=some (.need [x.natAbs<1000000000000000000] (.ret (fW (.ptr 2 0) 0) (o1S x tv lv rv))):=by kernel_rfl
theorem bAT:gH (o1S x tv lv rv) 2 1 [x,1] (.lit aA) (.lit aA):=⟨by kernel_rfl,by kernel_rfl⟩
theorem bAS:clean (o1S x tv lv rv)=true:=by kernel_rfl
theorem u_C {kd:Int}(h:kd=2\/kd=3\/kd=4):yN [25] tK' (sT kd x tv lv rv Mz)=some (.stp (dY (pD 26) f32) (sT kd x tv lv rv (slot [(25,P0)] 0 79))):=by
 rcases h with rfl|rfl|rfl<;>kernel_rfl
theorem u_L {kd:Int}(h:kd=5\/kd=6\/kd=7\/kd=8\/kd=9\/kd=10\/kd=11\/kd=12\/kd=13):yN [0,31] tK' (sT kd x tv lv rv Mz)=some (.stp (dY (pD 32) f32) (sT kd x tv lv rv (slot [(0,P0),(31,litT lv)] 0 79))):=by
 rcases h with rfl|rfl|rfl|rfl|rfl|rfl|rfl|rfl|rfl<;>kernel_rfl
theorem bAW:(nA (fJ (pD 32) f32) (sU (slot [(32,nS aA 5)] 0 79))).bind jA=some (nS aA 5,true):=by kernel_rfl
theorem u_M:yN [44] (fJ (pD 32) f32) (sT 5 x tv lv rv (slot [(0,P0),(32,nS v1 0)] 0 79))=some (.stp (dY (pD 45) f32) (sT 5 x tv lv rv (slot [(44,litT v1)] 0 79))):=by kernel_rfl
theorem u_F {kd:Int}(h:kd=10\/kd=11\/kd=12\/kd=13):yN [54,55] (fJ (pD 32) f32) (sT kd x tv lv rv (slot [(0,P0),(32,nS v1 0)] 0 79))=some (.stp (dY (pD 56) f32) (sT kd x tv lv rv (slot [(54,.val (.one (.int .i64 kd))),(55,litT v1)] 0 79))):=by
 rcases h with rfl|rfl|rfl|rfl<;>kernel_rfl
theorem u_B (a:Rf.Kind):yN [0,4,63] (fJ (pD 32) f32) (sT (dA a) x tv lv rv (slot [(0,P0),(32,nS v1 0)] 0 79))=some (.stp (dY (pD 64) f32) (sT (dA a) x tv lv rv (slot [(0,P0),(4,litT v1),(63,litT rv)] 0 79))):=by
 cases a<;>kernel_rfl
theorem bAV:(nA (fJ (pD 64) f32) (sU (slot [(64,nS aA 5)] 0 79))).bind jA=some (nS aA 5,true):=by kernel_rfl
theorem bAU (a:Rf.Kind):yN [73,74,75] (fJ (pD 64) f32) (sT (dA a) x tv lv rv (slot [(0,P0),(4,litT v1),(64,nS v2 0)] 0 79))=some (.stp (dY (pD 76) f32) (sT (dA a) x tv lv rv (slot [(73,.val (.one (.int .i64 (dA a)))),(74,litT v1),(75,litT v2)] 0 79))):=by
 cases a<;>kernel_rfl
theorem y_C:(nA (fJ (pD 26) f32) (sU (slot [(26,litT v)] 0 79))).bind jA=some (nS v 0,true):=by kernel_rfl
theorem y_M:(nA (fJ (pD 45) f32) (sU (slot [(45,litT v)] 0 79))).bind jA=some (nS v 0,true):=by kernel_rfl
theorem y_F:(nA (fJ (pD 56) f32) (sU (slot [(56,nS v e)] 0 79))).bind jA=some (nS v e,true):=by kernel_rfl
theorem y_B:(nA (fJ (pD 76) f32) (sU (slot [(76,nS v e)] 0 79))).bind jA=some (nS v e,true):=by kernel_rfl
theorem z_C:cM Z (sT kd x tv lv rv (slot [(25,P0)] 0 79)) (dY (pD 26) f32)=some (48,[.one (.ptr 0 0)],some 26,fJ (pD 26) f32):=by kernel_rfl
theorem z_L:cM Z (sT kd x tv lv rv (slot [(0,P0),(31,litT lv)] 0 79)) (dY (pD 32) f32)=some (32,[.one (.lit lv)],some 32,fJ (pD 32) f32):=by kernel_rfl
theorem z_M:cM Z (sT kd x tv lv rv (slot [(44,litT v1)] 0 79)) (dY (pD 45) f32)=some (49,[.one (.lit v1)],some 45,fJ (pD 45) f32):=by kernel_rfl
theorem z_F:cM Z (sT kd x tv lv rv (slot [(54,.val (.one (.int .i64 kd))),(55,litT v1)] 0 79)) (dY (pD 56) f32)=some (50,[.one (.int .i64 kd),.one (.lit v1)],some 56,fJ (pD 56) f32):=by kernel_rfl
theorem z_B:cM Z (sT kd x tv lv rv (slot [(0,P0),(4,litT v1),(63,litT rv)] 0 79)) (dY (pD 64) f32)=some (32,[.one (.lit rv)],some 64,fJ (pD 64) f32):=by kernel_rfl
theorem bA1:cM Z (sT kd x tv lv rv (slot [(73,.val (.one (.int .i64 kd))),(74,litT v1),(75,litT v2)] 0 79)) (dY (pD 76) f32)=some (51,[.one (.int .i64 kd),.one (.lit v1),.one (.lit v2)],some 76,fJ (pD 76) f32):=by kernel_rfl
theorem Dw:noFr (dY (pD 26) f32)=true/\noFr (dY (pD 32) f32)=true/\noFr (dY (pD 45) f32)=true/\noFr (dY (pD 56) f32)=true/\noFr (dY (pD 64) f32)=true/\noFr (dY (pD 76) f32)=true:=⟨by kernel_rfl,by kernel_rfl,by kernel_rfl,by kernel_rfl,by kernel_rfl,by kernel_rfl⟩
end
end Ab
namespace Rd
open Go.Deep (BT)
def aN (k:Int):Int:=bif k==6||k==7 then 1 else bif k==8||k==9 then 2 else bif k==5 then 3 else 4
def sym (k:Int):EW:=
 bif k==2 then [112,105]else bif k==3 then [101]else bif k==4 then [99,102]else bif k==10 then [115,113,114,116]
 else bif k==11 then [101,120,112]else bif k==12 then [108,110,49,112]else bif k==13 then [97,116,97,110]
 else bif k==6 then [43]else bif k==5||k==7 then [45]else bif k==8 then [42]else bif k==9 then [47]else []
def oA (b:Bool)(x:EW):EW:=bif b then 40::(x++[41])else x
def aR:Tr->Int
 |.nil=>0
 |.node _ _ a _ _=>a.1
def dec (v:Int):EW:=Lib.decDigits v.toNat
def sep (k:Nat):EW:=bif k==0 then []else bif k==1 then [59,32]else [44,32]
def eY (ts:LN):Nat->List UInt8
 |0=>[99,102,91]
 |k+1=>eY ts k++(sep k++dec (ts.getD k 0))
def eE (ts:LN):EW:=eY ts ts.length++[93]
def pC (a:Int×Int×List Int)(b d:Int)(x y:EW):EW:=
 bif a.1==1 then dec a.2.1
 else bif a.1==4 then eE a.2.2
 else bif a.1==5 then 45::oA (decide (aN b<3)) x
 else bif decide (10<=a.1/\a.1<=13)then sym a.1++40::(x++[41])
 else bif decide (6<=a.1/\a.1<=9)then oA (decide (aN b<aN a.1)) x++32::(sym a.1++32::oA (decide (aN d<aN a.1+1)) y)
 else sym a.1
def text:Tr->List UInt8
 |.nil=>[]
 |.node _ _ a l r=>pC a (aR l) (aR r) (text l) (text r)
def cQ (v:Int):Prop:=0<=v/\v<1000000000
def Wf:Tr->Prop
 |.nil=>False
 |.node _ _ a l r=>
  (a.1=1/\cQ a.2.1/\a.2.2=[]/\l=.nil/\r=.nil)\/
  ((a.1=2\/a.1=3)/\a.2.1=0/\a.2.2=[]/\l=.nil/\r=.nil)\/
  (a.1=4/\(∀x∈a.2.2,cQ x)/\2<=a.2.2.length/\a.2.2.length<=9/\a.2.1=0/\l=.nil/\r=.nil)\/
  ((a.1=5\/a.1=10\/a.1=11\/a.1=12\/a.1=13)/\Wf l/\a.2.2=[]/\r=.nil)\/
  ((a.1=6\/a.1=7\/a.1=8\/a.1=9)/\Wf l/\Wf r/\a.2.2=[])
def mF:Tr->Nat
 |.nil=>0
 |.node _ _ _ l r=>mF l+mF r+1
theorem yV {v:Int}(h:cQ v):(dec v).length<=9:=by
 unfold dec;rw[Lib.decDigits_length]
 have b:v.toNat<1000000000:=by have:=h.2;omega
 generalize v.toNat=u at b
 have a:∀k u,u<10^(k+1)->Lib.nDigits u<=k+1:=by
  intro k
  induction k with
  |zero=>intro u h;rw[Lib.nDigits_small (by simpa using h)];omega
  |succ k e=>
   intro u h
   by_cases d:u<10
   ·rw[Lib.nDigits_small d];omega
   ·rw[Lib.nDigits_big d];have:=e (u/10) (by rw[Nat.pow_succ]at h ⊢;rw[Nat.pow_succ]at h;omega);omega
 exact a 8 u b
theorem aTy (k:Nat):(sep k).length<=2:=by grind [sep]
theorem Pf (k:Int):(sym k).length<=4:=by
 unfold sym
 cases k==2<;>cases k==3<;>cases k==4<;>cases k==10<;>cases k==11<;>cases k==12<;>cases k==13<;>(try (simp;done))<;>cases k==6<;>(try (simp;done))<;>cases k==5<;>cases k==7<;>cases k==8<;>cases k==9<;>simp
theorem aNk (h:∀x∈ts,cQ x)(k:Nat):cQ (ts.getD k 0):=by grind [cQ]
theorem Zb (h:∀x∈ts,cQ x):∀k,(eY ts k).length<=3+11*k:=by
 intro k
 induction k with
 |zero=>simp[eY]
 |succ k a=>
  have:=yV (aNk h k);have:=aTy k;simp only[eY,List.length_append];omega
theorem Mg (b:Bool)(x:EW):(oA b x).length<=x.length+2:=by
 cases b<;>simp[oA]
theorem aQG:∀t,Wf t->(text t).length<=200*mF t:=by
 intro t
 induction t with
 |nil=>intro h;exact h.elim
 |node p q a l r e g=>
  intro h;obtain⟨k,v,ts⟩:=a;simp only[text,mF]
  rcases h with⟨b,d,_⟩|⟨b,_⟩|⟨b,d,_,f,_⟩|⟨b,d,_,f⟩|⟨b,d,f,_⟩
  ·simp only at b d;subst b;have:=yV d;simp only[pC,beq_self_eq_true,cond_true];omega
  ·simp only at b;have:=Pf k
   rcases b with rfl|rfl
   ·simp only[pC,sym];simp;omega
   ·simp only[pC,sym];simp;omega
  ·simp only at b d f;subst b;have:=Zb d ts.length;simp only[pC,eE];simp;omega
  ·simp only at b;have i:=e d;have s:=Pf k;have b1:=Mg (decide (aN (aR l)<3)) (text l)
   rcases b with rfl|rfl|rfl|rfl|rfl<;>(simp only[pC];simp;try omega)
  ·simp only at b;have i:=e d;have j:=g f;have s:=Pf k;have b1:=Mg (decide (aN (aR l)<aN k)) (text l);have b2:=Mg (decide (aN (aR r)<aN k+1)) (text r)
   rcases b with rfl|rfl|rfl|rfl<;>(simp only[pC];simp at b1 b2 ⊢;omega)
end Rd
variable {v:Int}
theorem aTm {m:Nat}(h:Bits w v)(a:w<=m):Bits m v:=eJ h a
theorem Xg (h:Bits w v):Bits w (-v):=yX h
theorem uP {m:Nat}{x z:Int}(h:Bits w x)(a:Bits m z):Bits (w+m) (x*z):=fY h a
theorem Xf {n:Nat}{x z:Int}(h:Bits n x)(a:Bits n z):Bits (n+1) (x+z):=pM h a
namespace Ab
open Rf (Nd Inv aZ Wt)
def vE (k:Int):Rf.Op:=if k=2 then .pi else if k=3 then .e else if k=4 then .cf else if k=10 then .sqrt else if k=11 then .exp else if k=12 then .fL else .atan
def Ko (k:Int):Rf.Kind:=if k=6 then .add else if k=7 then .sub else if k=8 then .mul else .div
def planT:Rd.Tr->Option Wt
 |.nil=>none
 |.node _ _ a l r=>
  if a.1=1 then some (.fr a.2.1 1)
  else if a.1<=4 then some (.fK (vE a.1) a.2.2)
  else if a.1=5 then(planT l).map Bh
  else if a.1<=9 then(planT l).bind fun u=>(planT r).bind fun v=>yJ (Ko a.1) u v
  else(planT l).bind fun u=>Mu (vE a.1) u
def yS (n:Nat)(u:Wt):Prop:=u.Ok/\∀p q,u=.fr p q->0<q/\RB n p/\RB n q
theorem aRF (h:Rd.cQ v):RB 30 v:=by
 have a:=h.1;have b:=h.2;show v.natAbs<2^30
 have:(2:Nat)^30=1073741824:=by decide
 omega
theorem sO {n m:Nat}(h:RB n v)(a:n<=m):RB m v:=aTm h a
theorem Xc {p q:Int}(f:0<q)(a:RB w p)(b:RB w q)(d:w<=6100):yS w (.fr p q):=by
 refine⟨⟨f,sO a d,sO b d⟩,?_⟩;intro g h e;cases e;exact⟨f,a,b⟩
variable {H:Wt}
theorem Gj (h:H.Ok)(a:∀p q,H≠.fr p q):yS w H:=⟨h,fun p q e=>absurd e (a p q)⟩
theorem aS9 {m:Nat}(h:yS w H)(d:w<=m)(j:m<=6100):yS m (Bh H):=by
 cases H with
 |fr p q=>
  obtain⟨f,g,i⟩:=h.2 p q rfl;exact Xc f (sO (Xg g) d) (sO i d) j
 |fK op ts=>exact Gj (show(Wt.fK op ts).Ok from h.1) (fun _ _ e=>by cases e)
 |neg t=>exact Gj (show(Wt.neg t).Ok from h.1) (fun _ _ e=>by cases e)
 |two k a b=>exact Gj (show(Wt.two k a b).Ok from h.1) (fun _ _ e=>by cases e)
 |fn op t=>exact Gj (show(Wt.fn op t).Ok from h.1) (fun _ _ e=>by cases e)
theorem aV3 {m:Nat}{op:Rf.Op}(i:Rf.fn op){j:Wt}(h:yS w H)(l:m<=6100)(g:1<=m)(f:Mu op H=some j):yS m j:=by
 have d:∀{t:Wt},t.Ok->(∀p q,t=.fr p q->0<p)->yS m (.fn op t):=fun r o=>Gj ⟨i,r,o⟩ (fun _ _ e=>by cases e)
 cases H with
 |fr p q=>
  simp only[Mu]at f;split at f
  ·cases f
  ·split at f
   ·cases f;refine Xc (by decide) ?_ (Rf.eK g) l;split
    ·exact Rf.eK g
    ·exact Rf.aY
   ·cases f;refine d h.1 ?_;intro s v e;cases e;omega
 |fK op ts=>cases f;exact d h.1 (fun _ _ e=>by cases e)
 |neg t=>cases f;exact d h.1 (fun _ _ e=>by cases e)
 |two k a b=>cases f;exact d h.1 (fun _ _ e=>by cases e)
 |fn op t=>cases f;exact d h.1 (fun _ _ e=>by cases e)
theorem aT0 {m:Nat}{kk:Rf.Kind}{p q a b:Int}(g:RB w p)(d:RB w q)(h:RB m a)(f:RB m b):RB (w+m+1) (Hu (dA kk) p q a b)/\RB (w+m+1) (Ht (dA kk) p q a b):=by
 have s:w+m<=w+m+1:=by omega
 have e:m+w=w+m:=by omega
 cases kk with
 |add=>exact⟨Xf (uP g f) (e▸uP h d),sO (uP d f) s⟩
 |sub=>exact⟨Xf (uP g f) (e▸uP (Xg h) d),sO (uP d f) s⟩
 |mul=>exact⟨sO (uP g h) s,sO (uP d f) s⟩
 |div=>exact⟨sO (uP g f) s,sO (uP d h) s⟩
theorem aV4 {m l:Nat}{f:Rf.Kind}{v x:Wt}(h:yS w H)(j:yS m v)(r:w+m+1<=l)(C:l<=6100)(d:yJ f H v=some x):yS l x:=by
 have i:∀{t y:Wt},t.Ok->y.Ok->yS l (.two f t y):=fun D o=>Gj ⟨D,o⟩ (fun _ _ e=>by cases e)
 by_cases hv:∃a b,v=.fr a b
 ·obtain⟨a,b,rfl⟩:=hv;obtain⟨z,A,B⟩:=j.2 a b rfl
  by_cases s:∃p q,H=.fr p q
  ·obtain⟨p,q,rfl⟩:=s;obtain⟨f1,f2,f3⟩:=h.2 p q rfl;simp only[yJ]at d;split at d
   ·cases d
   ·rename_i k;cases d;have g:=aR1 (p:=p) f1 z k;obtain⟨I,J⟩:=aT0 (kk:=f) f2 f3 A B;obtain⟨E,F⟩:=aJz (Zr (t:=Hu (dA f) p q a b) g);refine Xc (aPW g) (sO (Nat.lt_of_le_of_lt E I) r) (sO (Nat.lt_of_le_of_lt F J) r) C
  ·have:yJ f H (.fr a b)=if f=.div/\a=0 then none else some (.two f H (.fr a b)):=by
    cases H with
    |fr p q=>exact absurd ⟨p,q,rfl⟩ s
    |_=>rfl
   rw[this]at d;split at d
   ·cases d
   ·cases d;exact i h.1 j.1
 ·have:yJ f H v=some (.two f H v):=by
   cases v with
   |fr p q=>exact absurd ⟨p,q,rfl⟩ hv
   |_=>cases H<;>rfl
  rw[this]at d;cases d;exact i h.1 j.1
theorem Wp:∀(t:Rd.Tr) (u:Wt),Rd.Wf t->32*Rd.mF t<=6100->planT t=some u->yS (32*Rd.mF t) u:=by
 intro t
 induction t with
 |nil=>intro u h;exact h.elim
 |node y z a l r g p=>
  intro u h hc b;have i:Rd.mF (.node y z a l r)=Rd.mF l+Rd.mF r+1:=rfl;rw[i]at hc ⊢;rw[planT]at b
  rcases h with⟨hk,s,_,rfl,rfl⟩|⟨hk,_,_,rfl,rfl⟩|⟨hk,k,q,B,_,rfl,rfl⟩|⟨hk,d,_,rfl⟩|⟨hk,d,o,_⟩
  ·rw[if_pos hk]at b;cases b;exact Xc (by decide) (sO (aRF s) (by omega)) (Rf.eK (by omega)) hc
  ·rw[if_neg (by omega),if_pos (by omega)]at b;cases b;refine Gj ?_ (fun _ _ e=>by cases e)
   rcases hk with hk|hk<;>rw[hk]
   ·exact Or.inl rfl
   ·exact Or.inr (Or.inl rfl)
  ·rw[if_neg (by omega),if_pos (by omega)]at b;cases b;refine Gj ?_ (fun _ _ e=>by cases e);rw[hk];exact Or.inr (Or.inr ⟨rfl,q,fun x w=>sO (aRF (k x w)) (by decide)⟩)
  ·rw[if_neg (by omega),if_neg (by omega)]at b
   rcases hk with hk|hk
   ·rw[if_pos hk]at b;obtain⟨v,hv,rfl⟩:=Option.map_eq_some_iff.1 b;exact aS9 (g v d (by omega) hv) (by omega) hc
   ·rw[if_neg (by omega),if_neg (by omega)]at b;obtain⟨v,hv,f⟩:=Option.bind_eq_some_iff.1 b;refine aV3 ?_ (g v d (by omega) hv) hc (by omega) f
    rcases hk with hk|hk|hk|hk<;>rw[hk]
    ·exact Or.inl rfl
    ·exact Or.inr (Or.inl rfl)
    ·exact Or.inr (Or.inr (Or.inl rfl))
    ·exact Or.inr (Or.inr (Or.inr rfl))
  ·rw[if_neg (by omega),if_neg (by omega),if_neg (by omega),if_pos (by omega)]at b;obtain⟨v,hv,j⟩:=Option.bind_eq_some_iff.1 b;obtain⟨A,n,f⟩:=Option.bind_eq_some_iff.1 j;exact aV4 (g v d (by omega) hv) (p A o (by omega) n) (by omega) hc f
variable {w:World}
theorem Qd {k:Nat}{kd x:Int}{tv lv rv:Value}(h:w.heap[k]?=some (.cells #[.int .i64 kd,.int .i64 x,tv,lv,rv] 91 (0,0)))(o1:One tv)(o2:One lv)(o3:One rv)(f:List AT):RepW Z w (ph1 0 k) (ph1 0 k) (sT kd x tv lv rv f) w:=by
 refine sN rfl ?_ ?_ ?_
 ·intro b B d;have:=nC d;simp only[sT,List.mem_singleton,Prod.mk.injEq]at this;obtain⟨rfl,rfl⟩:=this;exact⟨rfl,rfl,rfl,k,0,rfl,[],[.int .i64 kd,.int .i64 x,tv,lv,rv],[],h,rfl,rfl,rfl,⟨rfl,o1⟩,⟨rfl,o2⟩,⟨rfl,o3⟩,trivial⟩
 ·intro b e;have:1<=b:=e;unfold ph1;rw[if_neg (by omega)]
 ·intro b g o a;unfold ph1 at a;split at a
  ·cases a;exact gE h
  ·cases a
theorem aTx {r:AT}{ts:List AT}(h:ts.length=79)(a:putT (List.replicate 79 .top) (some d) r=slot [(d,r)] 0 79):(sU (slot [(d,r)] 0 79)).tmps=putT (jE [] [] 0 ts) (some d) r:=by
 rw[Zy,h];exact a.symm
variable {φ:LI}{ν:LV}
theorem Mb {x:Value}{e:Int}(o:One x):relT Z φ ν w (nS x e) (.tuple #[x,.int .i64 e]):=⟨[x,.int .i64 e],rfl,⟨rfl,o⟩,rfl,trivial⟩
variable {R:NN}
theorem Cc {r:AT}{v:Value}{e:Int}{p:List (K (List AT))}(y:(nA p (sU (slot [(d,r)] 0 79))).bind jA=some (nS v e,true))(hR:∀i,Chg n i []->R (.returned (.tuple #[v,.int .i64 e])) i){g:List (K Act)}{a:Act}(j:∀o l k,SR Z o l k p g)(u:Rep Z n (fun _=>none) (fun _=>none) (sU (slot [(d,r)] 0 79)) a n):gC Z.P R g .normal a n:=by
 obtain⟨A,q,f⟩:=aT y
 match A,f with
 |.ret r s,f=>
  simp only[jA,Option.some.injEq,Prod.mk.injEq]at f;obtain⟨rfl,hc⟩:=f;refine sI (cZ qO) uG (pN mixed (cZ qO)) (fun r s=>r=nS v e/\clean s=true) (fun _ _=>False) (fun _ _ h=>h.elim) ?_ _ _ _ _ q ⟨rfl,hc⟩ g _ a n (j _ _ _) u;rintro r s φ x i⟨rfl,hc⟩ hrel z;rw[zW hrel cL];exact hR i (Chg.eF (RepF.below z hc))
 |.br _ _ _,f=>cases f
 |.need _ _,f=>cases f
 |.stop _ _,f=>cases f
theorem wH {q:LI}{s:AS}{a:Act}{z j:List (K (List AT))}{i:List (K Act)}{M:FuncId}{I:List AV}(h:cM Z s z=some (M,I,some d,j))(o:Enters Z.P M)(p:noFr z=true)(u:∀D C B,SR Z D C B z i)(E:Rep Z n q φ s a w)(S:s.tmps.length=79)(U:∀r,putT (List.replicate 79 .top) (some d) r=slot [(d,r)] 0 79)
  (H:∀k:LB,All2 (dW Z φ s.nums w) I k->Calls Z.P M k.toArray w fun e A=>∃v x,∃r:AT,∃l:Int,e=.returned x/\relT Z (fun _=>none) [] A r x/\(nA j (sU (slot [(d,r)] 0 79))).bind jA=some (nS v l,true)/\∀J,Chg A J []->R (.returned (.tuple #[v,.int .i64 l])) J):gC Z.P R i .normal a w:=by
 refine pP h o p (u φ s.nums w) E fun k y=>(H k y).mono ?_
 rintro e A⟨v,x,r,l,rfl,T,W,L⟩;refine⟨x,rfl,fun F O g=>?_⟩;exact Cc W L g (nM (kb:=[]) (kt:=[]) E zV (aTx S (U r)) (fun b N=>by simp at N) T)
theorem dQ.on {w b J f:World}{x:Option Wt}{e:Ending}(d:Chg w b [])(h:dQ b x e J)(a:Chg J f []):dQ w x e f:=by
 cases x with
 |none=>exact⟨(d.trans h.1).trans a,h.2⟩
 |some t=>
  obtain⟨hc,v,g,i⟩:=h;exact⟨(d.trans hc).trans a,v,g,aJ.aS a.on t v i⟩
theorem dH.one {rb:Nat}{tv:Value}(h:dH rb w ts tv):One tv:=by
 rcases h with⟨_,rfl⟩|⟨tb,a,d,rfl,_⟩<;>rfl
theorem fZ.one {rb:Nat}:∀{t:Rd.Tr} {v:Value},fZ rb w t v->One v
 |.nil,_,h=>by rw[show _=Value.pointer none from h];rfl
 |.node _ _ _ _ _,_,⟨b,tv,lv,rv,h,_⟩=>by rw[h];rfl
theorem dQ.one {b:World}{x:Option Wt}{e:Ending}(h:dQ w x e b):∃v a,e=.returned (.tuple #[v,.int .i64 a])/\One v/\((x=none/\v=aA/\a=5)\/(∃t,x=some t/\a=0/\aJ b t v)):=by
 cases x with
 |none=>exact⟨aA,5,h.2,rfl,Or.inl ⟨rfl,rfl,rfl⟩⟩
 |some t=>
  obtain⟨hc,v,f,d⟩:=h;obtain⟨k,rfl⟩:=aJ.ptr t v d;exact⟨ptrB k,0,f,rfl,Or.inr ⟨t,rfl,rfl,d⟩⟩
section
variable {w:World} {b rb:Nat} {kd x:Int} {tv lv rv:Value} {R:NN}
theorem aV9 {b:World}{s:AS}{k:Nat}{x:Value}(a:RepW Z n (ph1 0 k) φ s b)(h:dW Z φ ν b (.one (.ptr 0 0)) x):x=ptrB k:=uE (a.base 0 (k,0) rfl) h
theorem bAh (g:x.natAbs<1000000000000000000)(f:w.heap[b]?=some (.cells #[.int .i64 1,.int .i64 x,tv,lv,rv] 91 (0,0)))(o1:One tv)(o2:One lv)(o3:One rv):Calls prog 32 #[ptrB b] w (dQ w (some (.fr x 1))):=by
 refine uD (φ:=ph1 0 b) (s:=sT 1 x tv lv rv Mz) (vs:=[.one (.ptr 0 0)]) (args:=[ptrB b]) (bF func32 rfl rfl) (cZ qO) uG (by kernel_rfl) ⟨⟨b,0,rfl,rfl⟩,trivial⟩ (Qd f o1 o2 o3 _) (u_1 x tv lv rv) (fun r s=>r=fW (.ptr 2 0) 0/\gH s 2 1 [x,1] (.lit aA) (.lit aA)/\clean s=true) ⟨bL g,rfl,bAT x tv lv rv,bAS x tv lv rv⟩ ?_;rintro r s φ v k⟨rfl,e,hc⟩ hrel d;have a:Chg w k []:=Chg.eF (RepF.below d hc);obtain⟨m,l,h,i,j⟩:=e.at d cL cL;exact .yes (v:=ptrB m) rfl a (by rw[zW hrel (cN h)]) (Xu i j)
theorem bAi (i:kd=2\/kd=3\/kd=4)(q:w.heap[b]?=some (.cells #[.int .i64 kd,.int .i64 x,tv,lv,rv] 91 (0,0)))(o1:One tv)(o2:One lv)(o3:One rv)(a:∀g,Chg w g []->Calls prog 48 #[ptrB b] g fun e n=>∃v,e=.returned v/\One v/\∀o,Chg n o []->R (.returned (.tuple #[v,.int .i64 0])) o):Calls prog 32 #[ptrB b] w R:=by
 have F:=bF func32 rfl rfl;refine nV F (φ:=ph1 0 b) (vs:=[.one (.ptr 0 0)]) (args:=[ptrB b]) (s:=sT kd x tv lv rv Mz) (by kernel_rfl) ⟨⟨b,0,rfl,rfl⟩,trivial⟩ (Qd q o1 o2 o3 _) ?_;refine cC (cZ qO) uG lH (jD lH) (u_C x tv lv rv i) (fun _ _=>False) (fun l s=>l=dY (pD 26) f32/\s=sT kd x tv lv rv (slot [(25,P0)] 0 79)) ⟨rfl,rfl⟩ (fun _ _ _ _ _ h=>h.elim) ?_;rintro l s⟨rfl,rfl⟩;refine⟨Dw.1,fun y A a1 g f d=>?_⟩;have c1:Chg w g []:=Chg.eF (RepF.below d.wd rfl)
 refine wH (z_C x kd tv lv rv) (bF func48 rfl rfl).en Dw.1 f d rfl (fun r=>by kernel_rfl) fun z k=>?_
 match z,k with
 | [B],⟨j,_⟩=>
 rw[aV9 d.wd j];refine(a g c1).mono ?_;rintro e n⟨v,rfl,u,p⟩;exact⟨v,v,litT v,0,rfl,⟨rfl,u⟩,y_C v,p⟩
theorem Ky (B:kd=5\/kd=6\/kd=7\/kd=8\/kd=9\/kd=10\/kd=11\/kd=12\/kd=13)(u:w.heap[b]?=some (.cells #[.int .i64 kd,.int .i64 x,tv,lv,rv] 91 (0,0)))(o1:One tv)(o2:One lv)(o3:One rv){J:Option Wt}(g:∀k,Chg w k []->Calls prog 32 #[lv] k (dQ k J))
  (C:J=none->∀y,Chg w y []->R (.returned (.tuple #[aA,.int .i64 5])) y)
  (p:∀t v l j a,J=some t->Chg w l []->aJ l t v->One v->(∀M L I,SR Z M L I (fJ (pD 32) f32) j)->Rep Z l (ph1 0 b) (ph1 0 b) (sT kd x tv lv rv (slot [(0,P0),(32,nS v 0)] 0 79)) a l->gC Z.P R j .normal a l):Calls prog 32 #[ptrB b] w R:=by
 have F:=bF func32 rfl rfl;refine nV F (φ:=ph1 0 b) (vs:=[.one (.ptr 0 0)]) (args:=[ptrB b]) (s:=sT kd x tv lv rv Mz) (by kernel_rfl) ⟨⟨b,0,rfl,rfl⟩,trivial⟩ (Qd u o1 o2 o3 _) ?_;refine cC (cZ qO) uG lH (jD lH) (u_L x tv lv rv B) (fun _ _=>False) (fun S s=>S=dY (pD 32) f32/\s=sT kd x tv lv rv (slot [(0,P0),(31,litT lv)] 0 79)) ⟨rfl,rfl⟩ (fun _ _ _ _ _ h=>h.elim) ?_;rintro S s⟨rfl,rfl⟩;refine⟨Dw.2.1,fun j N a1 k o d=>?_⟩;have c1:Chg w k []:=Chg.eF (RepF.below d.wd rfl)
 refine pP (z_L x kd tv lv rv) F.en Dw.2.1 (o N [] k) d fun Y E=>?_
 match Y,E with
 | [X],⟨i,_⟩=>
 have i:X=lv:=i.1;rw[i];refine(g k c1).mono ?_;rintro e l O;have c2:=O.1;obtain⟨v,e',rfl,D,h⟩:=O.one;refine⟨_,rfl,fun q U f=>?_⟩
 rcases h with⟨H,rfl,rfl⟩|⟨t,H,rfl,W⟩
 ·exact Cc bAW (hR:=fun y A=>C H y ((c1.trans c2).trans A)) f (nM (kb:=[]) (kt:=[]) d zV (aTx rfl (by kernel_rfl)) (fun b u=>by simp at u) (Mb D))
 ·have n:=c1.trans c2;refine p t v l q _ H n W D f ?_;refine nM (kb:=[0]) (kt:=[0]) (r:=nS v 0) d (Qd (n.at u (by simp)) o1 o2 o3 _) (by kernel_rfl) (fun T z=>?_) (Mb D)
  have:T=0:=by simpa using z
  subst this;exact(d.wd.base 0 (b,0) rfl).symm
theorem bAk (D:w.heap[b]?=some (.cells #[.int .i64 5,.int .i64 x,tv,lv,rv] 91 (0,0)))(o1:One tv)(o2:One lv)(o3:One rv){y:Option Wt}(o:∀t,y=some t->t.Ok)(d:∀u,Chg w u []->Calls prog 32 #[lv] u (dQ u y)):Calls prog 32 #[ptrB b] w (dQ w (y.map Bh)):=by
 refine Ky (Or.inl rfl) D o1 o2 o3 d (fun e C hc=>.no (by rw[e];rfl) hc rfl) ?_;intro t v L l a A n E O p F;refine cC (cZ qO) uG lH (jD lH) (u_M x tv lv rv v) (fun _ _=>False) (fun B s=>B=dY (pD 45) f32/\s=sT 5 x tv lv rv (slot [(44,litT v)] 0 79)) ⟨rfl,rfl⟩ (fun _ _ _ _ _ h=>h.elim) ?_ l _ _ _ (p _ _ _) F;rintro B s⟨rfl,rfl⟩;refine⟨Dw.2.2.1,fun l M N C j i=>?_⟩;have c3:Chg L C []:=Chg.eF (RepF.below i.wd rfl)
 refine wH (z_M x 5 tv lv rv v) (bF func49 rfl rfl).en Dw.2.2.1 j i rfl (fun r=>by kernel_rfl) fun I q=>?_
 match I,q with
 | [H],⟨f,_⟩=>
 have f:H=v:=f.1;rw[f];refine(aP1 (o t A) (aJ.aS c3.on t v E)).mono ?_;rintro e P⟨J,rfl,c4,g⟩;obtain⟨k,rfl⟩:=aJ.ptr _ J g;exact⟨ptrB k,ptrB k,litT (ptrB k),0,rfl,⟨rfl,rfl⟩,y_M _,fun S z=>.yes (by rw[A];rfl) (((n.trans c3).trans c4).trans z) rfl (aJ.aS z.on _ _ g)⟩
theorem bAj {op:Rf.Op}(i:Rf.fn op)(I:w.heap[b]?=some (.cells #[.int .i64 (aH op),.int .i64 x,tv,lv,rv] 91 (0,0)))(o1:One tv)(o2:One lv)(o3:One rv){z:Option Wt}(p:∀t,z=some t->t.Ok)(d:∀y,Chg w y []->Calls prog 32 #[lv] y (dQ y z)):Calls prog 32 #[ptrB b] w (dQ w (z.bind (Mu op))):=by
 have J:=Ls i;refine Ky (by omega) I o1 o2 o3 d (fun e F hc=>.no (by rw[e];rfl) hc rfl) ?_;intro t v S l a C n L W q M;refine cC (cZ qO) uG lH (jD lH) (u_F x tv lv rv v J) (fun _ _=>False) (fun D s=>D=dY (pD 56) f32/\s=sT (aH op) x tv lv rv (slot [(54,.val (.one (.int .i64 (aH op)))),(55,litT v)] 0 79)) ⟨rfl,rfl⟩ (fun _ _ _ _ _ h=>h.elim) ?_ l _ _ _ (q _ _ _) M;rintro D s⟨rfl,rfl⟩;refine⟨Dw.2.2.2.1,fun l T U F k j=>?_⟩;have c3:Chg S F []:=Chg.eF (RepF.below j.wd rfl)
 refine wH (z_F x (aH op) tv lv rv v) (bF func50 rfl rfl).en Dw.2.2.2.1 k j rfl (fun r=>by kernel_rfl) fun P u=>?_
 match P,u with
 | [N,O],⟨f,g,_⟩=>
 have f:N=.int .i64 (aH op):=f;have g:O=v:=g.1;rw[f,g];refine(aJt i (p t C) (aJ.aS c3.on t v L)).mono ?_;rintro e X B;obtain⟨E,A,rfl,o,h⟩:=B.one;refine⟨E,_,nS E A,A,rfl,Mb o,y_F _ _,fun Y H=>?_⟩;rw[C];exact B.on (n.trans c3) H
theorem of_B (d:Rf.Kind)(P:w.heap[b]?=some (.cells #[.int .i64 (dA d),.int .i64 x,tv,lv,rv] 91 (0,0)))(o1:One tv)(o2:One lv)(o3:One rv){xl xr:Option Wt}(ab:∀t,xl=some t->t.Ok)(I:∀t,xr=some t->t.Ok)(o:∀A,Chg w A []->Calls prog 32 #[lv] A (dQ A xl))(i:∀A,Chg w A []->Calls prog 32 #[rv] A (dQ A xr)):Calls prog 32 #[ptrB b] w (dQ w (xl.bind fun u=>xr.bind fun v=>yJ d u v)):=by
 have F:=bF func32 rfl rfl
 have hk:dA d=6\/dA d=7\/dA d=8\/dA d=9:=by cases d<;>simp[dA]
 refine Ky (by omega) P o1 o2 o3 o (fun e S hc=>.no (by rw[e];rfl) hc rfl) ?_;intro t v w2 z a hx T hp ho af hr;refine cC (cZ qO) uG lH (jD lH) (u_B x tv lv rv v d) (fun _ _=>False) (fun O s=>O=dY (pD 64) f32/\s=sT (dA d) x tv lv rv (slot [(0,P0),(4,litT v),(63,litT rv)] 0 79)) ⟨rfl,rfl⟩ (fun _ _ _ _ _ h=>h.elim) ?_ z _ _ _ (af _ _ _) hr;rintro O s⟨rfl,rfl⟩;obtain⟨_,_,_,_,C,D⟩:=Dw;refine⟨C,fun z am a3 S L g=>?_⟩;have c3:Chg w2 S []:=Chg.eF (RepF.below g.wd rfl);have n:=T.trans c3
 refine pP (z_B x (dA d) tv lv rv v) F.en C (L am [] S) g fun us y=>?_
 match us,y with
 | [u1],⟨f,_⟩=>
 have f:u1=rv:=f.1;rw[f];refine(i S n).mono ?_;rintro e w4 E;have c4:=E.1;obtain⟨l,W,rfl,H,h⟩:=E.one;refine⟨_,rfl,fun N ax k=>?_⟩
 rcases h with⟨j,rfl,rfl⟩|⟨t2,j,rfl,ad⟩
 ·exact Cc bAV (hR:=fun w5 Y=>.no (by rw[hx,j];rfl) ((n.trans c4).trans Y) rfl) k (nM (kb:=[]) (kt:=[]) g zV (aTx rfl (by kernel_rfl)) (fun b P=>by simp at P) (Mb H))
 ·have B:=n.trans c4
  have ae:Rep Z w4 (ph1 0 b) (ph1 0 b) (sT (dA d) x tv lv rv (slot [(0,P0),(4,litT v),(64,nS l 0)] 0 79)) (a3.put (some 64) (.tuple #[l,.int .i64 0])) w4:=by
   refine nM (kb:=[0]) (kt:=[0,4]) (r:=nS l 0) g (Qd (B.at P (by simp)) o1 o2 o3 _) (by kernel_rfl) (fun b' X=>?_) (Mb H)
   have:b'=0:=by simpa using X
   subst this;exact(g.wd.base 0 (b,0) rfl).symm
  refine cC (cZ qO) uG lH (jD lH) (bAU x tv lv rv v l d) (fun _ _=>False) (fun O s=>O=dY (pD 76) f32/\s=sT (dA d) x tv lv rv (slot [(73,.val (.one (.int .i64 (dA d)))),(74,litT v),(75,litT l)] 0 79)) ⟨rfl,rfl⟩ (fun _ _ _ _ _ h=>h.elim) ?_ N _ _ _ (k _ _ _) ae;rintro O s⟨rfl,rfl⟩;refine⟨D,fun z a4 a5 w5 M J=>?_⟩;have U:Chg w4 w5 []:=Chg.eF (RepF.below J.wd rfl)
  refine wH (bA1 x (dA d) tv lv rv v l) (bF func51 rfl rfl).en D M J rfl (fun r=>by kernel_rfl) fun us y=>?_
  match us,y with
  | [u1,u2,u3],⟨f,p,q,_⟩=>
  have f:u1=.int .i64 (dA d):=f;have p:u2=v:=p.1;have q:u3=l:=q.1;rw[f,p,q];refine(aIx d (ab t hx) (aJ.aS ((c3.trans c4).trans U).on t v hp) (I t2 j) (aJ.aS U.on t2 l ad)).mono ?_;rintro e w6 E;obtain⟨v',W,rfl,aa,h⟩:=E.one;refine⟨v',_,nS v' W,W,rfl,Mb aa,y_B _ _,fun w7 c7=>?_⟩;rw[hx,j];exact E.on (B.trans U) c7
end
end Ab
variable {rb:Nat}{w:World}
theorem aMR {tv:Value}(h:dH rb w ts tv):∃f a,tv=.slice f ts.length a/\∀k,(h:k<ts.length)->∃tb,f=some ⟨tb,0,none⟩/\w.cell? ⟨tb,k,none⟩=some (.int .i64 ts[k]):=by
 rcases h with⟨rfl,rfl⟩|⟨tb,a,d,rfl,_,i,l,j⟩
 ·exact⟨none,0,rfl,fun k h=>absurd h (Nat.not_lt_zero k)⟩
 ·refine⟨some ⟨tb,0,none⟩,a,rfl,fun k g=>⟨tb,rfl,?_⟩⟩
  have e:d.toList[k]?=some (.int .i64 ts[k]):=by
   have:(d.toList.take ts.length)[k]?=(ts.map (Value.int .i64))[k]?:=by rw[j]
   rw[List.getElem?_take_of_lt g,List.getElem?_map,List.getElem?_eq_getElem g]at this;exact this
  exact bH i (by simpa using e)
namespace Ab
open Rf (Nd Inv aZ Wt)
theorem Oe {b:World}(h:Chg w b []):bE rb w b:=bE.eF (h.below (le_refl _) (fun k a=>by simp at a))
theorem Ga {b:Nat}{kd x:Int}{tv lv rv:Value}(i:kd=2\/kd=3\/kd=4)(L:ts.length<=9)(y:kd=4->2<=ts.length)(p:w.heap[b]?=some (.cells #[.int .i64 kd,.int .i64 x,tv,lv,rv] 91 (0,0)))(q:dH rb w ts tv)(o2:One lv)(o3:One rv):Calls prog 32 #[ptrB b] w (dQ w (some (.fK (vE kd) ts))):=by
 refine bAi i p (dH.one q) o2 o3 fun r c1=>?_
 obtain⟨s,f,rfl,hc⟩:=aMR (q.aS (Oe c1));refine(aGX r b kd x ts s f lv rv (by omega) (c1.at p (by simp)) hc).mono ?_;rintro e n⟨l,m,rfl,d,F,j⟩;have c2:Chg r n []:=Chg.eF j
 have k:aH (vE kd)=kd:=by rcases i with h|h|h<;>subst h<;>rfl
 have H:aJ n (.fK (vE kd) ts) (ptrB m):=by
  obtain⟨u,I,v,E⟩:=Wo d;refine⟨m,[.bool false,.slice none 0 0,.bool false,.slice none 0 0],[0,0],l,aA,aA,rfl,?_,⟨rfl,aHc true n,rfl,aHc true n,trivial⟩,rfl,fun z k=>jX z (by simp at k;simp[k]),by rw[E];rfl,rfl,rfl,fun e=>?_⟩
  ·rw[k];exact F
  ·have B:kd=4:=by
    rcases i with h|h|h
    ·subst h;cases e
    ·subst h;cases e
    ·exact h
   have:=y B
   rcases d.2 with⟨_,h⟩|⟨g,f,a,h,D,A,J,_,_,C⟩
   ·omega
   ·refine⟨g,f,a.toList.drop ts.length,h,by omega,?_⟩;rw[A]
    have o:a.toList.take ts.length=ts.map (Value.int .i64):=by simpa using C
    have:ts.map (fun t=>Value.int .i64 t)++a.toList.drop ts.length=a.toList:=by
     rw[show ts.map (fun t=>Value.int .i64 t)=a.toList.take ts.length from o.symm];exact List.take_append_drop _ _
    rw[this]
 exact⟨ptrB m,rfl,rfl,fun M c3=>.yes rfl ((c1.trans c2).trans c3) rfl (aJ.aS c3.on _ _ H)⟩
theorem aXu:∀(t:Rd.Tr),Rd.Wf t->32*Rd.mF t<=6100->∀(w:World) (v:Value),fZ rb w t v->Calls prog 32 #[v] w (dQ w (planT t)):=by
 intro t
 induction t with
 |nil=>intro h;exact h.elim
 |node I J a l r p A=>
  intro h hc w v F;obtain⟨kd,x,ts⟩:=a;have y:Rd.mF (.node I J (kd,x,ts) l r)=Rd.mF l+Rd.mF r+1:=rfl;rw[y]at hc;obtain⟨b,tv,lv,rv,rfl,H,i,s,z,C⟩:=F;have o1:=dH.one s;have o2:=fZ.one z;have o3:=fZ.one C;rw[planT];simp only at h i s ⊢
  rcases h with⟨hk,B,_,rfl,rfl⟩|⟨hk,_,n,rfl,rfl⟩|⟨hk,n,D,E,_,rfl,rfl⟩|⟨hk,g,_,rfl⟩|⟨hk,g,o,_⟩
  ·subst hk;rw[if_pos rfl];have:0<=x:=B.1;have:x<1000000000:=B.2;exact bAh (by omega) i o1 o2 o3
  ·rw[if_neg (by omega),if_pos (by omega)];exact Ga (by omega) (by rw[show ts=[]from n];exact zero_le _) (by omega) i s o2 o3
  ·rw[if_neg (by omega),if_pos (by omega)];exact Ga (by omega) E (fun _=>D) i s o2 o3
  ·rw[if_neg (by omega),if_neg (by omega)]
   have f:∀d,Chg w d []->Calls prog 32 #[lv] d (dQ d (planT l)):=fun d c1=>p g (by omega) d lv (fZ.aS (Oe c1) z)
   have j:∀t,planT l=some t->t.Ok:=fun t e=>(Wp l t g (by omega) e).1
   rcases hk with hk|hk
   ·subst hk;rw[if_pos rfl];exact bAk i o1 o2 o3 j f
   ·rw[if_neg (by omega),if_neg (by omega)]
    have u:kd=aH (vE kd)/\Rf.fn (vE kd):=by
     rcases hk with hk|hk|hk|hk<;>subst hk
     ·exact⟨rfl,Or.inl rfl⟩
     ·exact⟨rfl,Or.inr (Or.inl rfl)⟩
     ·exact⟨rfl,Or.inr (Or.inr (Or.inl rfl))⟩
     ·exact⟨rfl,Or.inr (Or.inr (Or.inr rfl))⟩
    rw[u.1]at i;exact bAj u.2 i o1 o2 o3 j f
  ·rw[if_neg (by omega),if_neg (by omega),if_neg (by omega),if_pos (by omega)]
   have f:∀d,Chg w d []->Calls prog 32 #[lv] d (dQ d (planT l)):=fun d c1=>p g (by omega) d lv (fZ.aS (Oe c1) z)
   have j:∀t,planT l=some t->t.Ok:=fun t e=>(Wp l t g (by omega) e).1
   have q:∀d,Chg w d []->Calls prog 32 #[rv] d (dQ d (planT r)):=fun d c1=>A o (by omega) d rv (fZ.aS (Oe c1) C)
   have k:∀t,planT r=some t->t.Ok:=fun t e=>(Wp r t o (by omega) e).1
   have u:kd=dA (Ko kd):=by rcases hk with hk|hk|hk|hk<;>subst hk<;>rfl
   rw[u]at i;exact of_B (Ko kd) i o1 o2 o3 j k f q
end Ab
namespace Rf
def dU (t:Wt):Nat:=3002+3200*t.size
end Rf
namespace Ab
open Rf (Nd Inv aZ Wt dU)
theorem Net.apart {w':World}{b0 fb p:Nat}{own:Nat->Option Own}{at1:NU}{s:Rf.St}(h:Net w b0 own at1 fb s)(hc:Chg w w' [p])(b:p<w.heap.size->∃cs:Array Value,w.heap[p]?=some (.cells cs 110 (0,0)))(g:own p=none):Net w' b0 own at1 fb s:=by
 refine h.side hc fun k cs ty a i f=>?_
 subst f;obtain⟨d,b⟩:=b (gE a);rw[b]at a;cases a
 rcases i with e|e|e|⟨_,o,e⟩
 ·exact absurd e (by decide)
 ·exact absurd e (by decide)
 ·exact absurd e (by decide)
 ·rw[g]at e;cases e
def Run (t:Wt)(c0:Nat)(w:World)(b0 nb fb:Nat)(own:Nat->Option Own)(s:Rf.St)(top r:Nat):Prop:=
 ∃at1 a c n,NbAt w b0 nb fb own at1 s top r/\s.clock=((c:Nat):Int)/\c<=c0/\Inv s.nodes a c/\s.nodes[top]?=some n/\r<=n.out.length/\a top<=3200*t.size
section
variable {t:Wt} {c0:Nat} {w w':World} {b0 nb fb:Nat} {own:Nat->Option Own} {s:Rf.St} {top r:Nat}
theorem Run.still (h:Run t c0 w b0 nb fb own s top r)(hc:Chg w w' []):Run t c0 w' b0 nb fb own s top r:=by
 obtain⟨at1,b,c,n,a,e,f,d,g⟩:=h;exact⟨at1,b,c,n,⟨a.yG.still d hc,hc.at a.bV (by simp),a.ow,le_trans a.bs hc.on.size,a.Hj,a.nw⟩,e,f,d,g⟩
theorem Run.apart (h:Run t c0 w b0 nb fb own s top r){b:Nat}(hc:Chg w w' [b])(f:b<w.heap.size->∃cs:Array Value,w.heap[b]?=some (.cells cs 110 (0,0)))(l:own b=none):Run t c0 w' b0 nb fb own s top r:=by
 obtain⟨at1,d,c,n,a,g,i,k,j⟩:=h;refine⟨at1,d,c,n,⟨a.yG.apart hc f l,hc.at a.bV ?_,a.ow,le_trans a.bs hc.on.size,a.Hj,a.nw⟩,g,i,k,j⟩;intro e;simp at e;subst e;obtain⟨cs,h⟩:=f (gE a.bV);rw[a.bV]at h;exact absurd (Obj.cells.inj (Option.some.inj h)).2.1 (by decide)
theorem Run.cut (h:Run t c0 w b0 nb fb own s top r):∃a,Run t c0 w b0 nb fb a s top r/\(∀k,k<w.heap.size->a k=own k)/\∀k,w.heap.size<=k->a k=none:=by
 obtain⟨at1,e,c,n,b,g,i,f,l⟩:=h;refine⟨fun k=>if k<w.heap.size then own k else none,⟨at1,e,c,n,⟨⟨?_,b.yG.fuel,b.yG.Rr⟩,b.bV,?_,b.bs,b.Hj,fun k d=>?_⟩,g,i,f,l⟩,fun k d=>if_pos d,fun k d=>if_neg (by omega)⟩
 ·have:=xD.more (own':=fun k=>if k<w.heap.size then own k else none) (at2:=at1) (new:=[]) b.yG.nd f (Chg.refl w) (fun k d=>if_pos d) (fun _ _=>rfl) (fun j p o=>by simp at o);rw[List.append_nil]at this;exact this
 ·show(if nb<w.heap.size then own nb else none)=none;split
  ·exact b.ow
  ·rfl
 ·show(if k<w.heap.size then own k else none)=none;split
  ·exact b.nw k d
  ·rfl
theorem Run.low (h:Run t c0 w b0 nb fb own s top r):b0<=w.heap.size/\b0<=nb/\b0<=fb/\(∀k,k<b0->own k=none)/\nb<w.heap.size/\fb<w.heap.size:=by
 obtain⟨at1,b,c,n,a,_⟩:=h;exact⟨a.bs,a.Hj,a.yG.Rr,a.nw,gE a.bV,gE a.yG.fuel⟩
def Ng (t:Wt)(c0:Nat)(w:World)(b0 nb fb:Nat)(own:Nat->Option Own)(s:Rf.St)(top r:Nat)(e:Ending)(w':World):Prop:=
 On Z.bt w w'/\(∀k,k<w.heap.size->own k=none->k≠fb->k≠nb->w'.heap[k]?=w.heap[k]?)/\
  ((e=.returned (.int .i64 0)/\∃b,Rf.sym (dU t) s top r=some (b,none))\/∃b z a,e=.returned (.int .i64 (code z))/\Rf.sym (dU t) s top r=some (b,some z)/\Run t c0 w' b0 nb fb a b top (r+1)/\∀k,k<w.heap.size->own k=none->a k=none)
theorem aP5 (U:c0<=3000)(h:Run t c0 w b0 nb fb own s top r)(O:r<=1000000):Calls prog 60 #[ptrB nb] w (Ng t c0 w b0 nb fb own s top r):=by
 obtain⟨at1,g,c,n,M,q,T,y,j,u,L⟩:=h
 have A:c+g top+2<=dU t:=by unfold dU;omega
 obtain⟨x,p,C⟩:=Rf.total (dU t) s top r g c q (by omega) y n j u A;refine(aS4 M q (by omega) y j u O A p fun P=>?_).mono ?_
 ·obtain⟨v,hv⟩:=Option.isSome_iff_exists.1 P;obtain⟨a,i,_,_,k,_⟩:=C.ex v hv;exact⟨a,i,k⟩
 ·rintro e w'⟨rfl,o,B,b,d⟩;obtain⟨D,z⟩:=x;refine⟨o,b,?_⟩
  cases z with
  |none=>exact Or.inl ⟨rfl,D,p⟩
  |some z=>
   obtain⟨a,i,S,E,F,H,R,I,J⟩:=C.ex z rfl;obtain⟨f,at2,l,N⟩:=d rfl;refine Or.inr ⟨D,z,f,rfl,p,⟨at2,a,i,R,l,E,by omega,F,I,J,?_⟩,N⟩;rw[H.agree top (List.getElem?_eq_some_iff.1 j).1];exact L
theorem aS2 {x:Value}{c:Nat}(f:t.Ok)(p:aJ w t x)(hc:c<=3000):Calls prog 52 #[x,.int .i64 c] w fun e w'=>∃ns d own nb fb n,Rf.of t []=some (ns,d)/\ns[d]?=some n/\e=.returned (ptrB nb)/\Chg w w' []/\Run t c w' w.heap.size nb fb own ⟨ns,c⟩ d 0:=by
 refine(aVV f p hc).mono ?_;rintro e w'⟨ns,d,own,at1,nb,fb,b,o,h,l⟩;obtain⟨q,g,u,a,k,j,i,_⟩:=Rf.qB t [] (fun _=>0) f hc (Rf.Vq _ c);rw[b]at a;cases a;exact⟨ns,d,own,nb,fb,ns[d],b,List.getElem?_eq_getElem j,o,h,at1,g,c,ns[d],l,rfl,le_refl _,k.inv,List.getElem?_eq_getElem j,zero_le _,i⟩
end
def yO (t b:Int):Int:=bif decide (Nm.cmp b 0<0)then -t else t
def nK (b:Int):Int:=bif decide (Nm.cmp b 0<0)then -b else b
def Bg (t b m:Int):Bool:=decide (Nm.cmp ((t-m*b).natAbs:Int) b<=0)
def fP (c d:Int):Bool:=(Nm.cmp c 0 != 0)&&(Nm.cmp c 0==Nm.cmp d 0)
def Hf:List G->List Prop
 | [.ns [_,b]]=>[0<b]
 |_=>[]
def Js:List G->Option RG
 | []=>some (.one (.ns [1,0,0,1]))
 |_=>none
theorem aUo:bI Z 53 (cY true Js aX 1 []):=dM Du (bF func53 rfl rfl) fun _ _ h=>by
 unfold Js at h
 split at h<;>cases h
 kernel_rfl
def Ju:List G->Option RG
 | [.ns [a,b,c,d],.i .i64 s]=>some (.one (.ns [a*gN s+b*gU s,a*gQ s+b*gV s,c*gN s+d*gU s,c*gQ s+d*gV s]))
 |_=>none
theorem aUq:bI Z 61 (cY true Ju aX 7 [3,0]):=dM Du (bF func61 rfl rfl) fun _ _ h=>by
 unfold Ju at h
 split at h<;>cases h
 kernel_rfl
def Jt:List G->Option RG
 | [.ns [a,b,c,d]]=>some (.one (.b (fP c d)))
 |_=>none
theorem aUp:bI Z 54 (cY true Jt aX 0 [3]):=dM Du (bF func54 rfl rfl) fun _ _ h=>by
 unfold Jt at h
 split at h<;>cases h
 kernel_rfl
def Jk:List G->Option RG
 | [.ns [t,b]]=>some (.one (.ns [yO t b,nK b]))
 |_=>none
theorem aUh:bI Z 81 (cY true Jk aX 3 [3]):=dM Du (bF func81 rfl rfl) fun _ _ h=>by
 unfold Jk at h
 split at h<;>cases h
 kernel_rfl
def Ji:List G->Option RG
 | [.ns [t,b],.ns [n]]=>some (.one (.ns [t*n,b]))
 |_=>none
theorem aUf:bI Z 57 (cY true Ji aX 6 [3,3]):=dM Du (bF func57 rfl rfl) fun _ _ h=>by
 unfold Ji at h
 split at h<;>cases h
 kernel_rfl
def Jf:List G->Option RG
 | [.ns [t,b]]=>some (.one (.ns [t/b]))
 |_=>none
theorem aUc:bI Z 84 (cY true Jf Hf 21 [20]):=by
 refine iA (l:=Ys) Du dG (bF func84 rfl rfl) ?_;intro d out h;unfold Jf at h;split at h
 ·rename_i t b;cases h;exact⟨[0<b],21,by kernel_rfl,by decide,fun a _=>fH a.one gG⟩
 ·cases h
def Jh:List G->Option RG
 | [.ns [t,b],.ns [m]]=>some (.one (.b (Bg t b m)))
 |_=>none
theorem aUe:bI Z 59 (cY true Jh aX 0 [6,30]):=dM Du (bF func59 rfl rfl) fun _ _ h=>by
 unfold Jh at h
 split at h<;>cases h
 kernel_rfl
noncomputable def tK0:List (FuncId×TE):=(53,cY true Js aX 1 [])::(61,cY true Ju aX 7 [3,0])::(54,cY true Jt aX 0 [3])::(81,cY true Jk aX 3 [3])::(57,cY true Ji aX 6 [3,3])::(84,cY true Jf Hf 21 [20])::(59,cY true Jh aX 0 [6,30])::Ys
theorem aOM:cG Z tK0:=⟨aUo,aUq,aUp,aUh,aUf,aUc,aUe,Du⟩
def Se (t b s c:Int):Int:=(t*c+s*b+b*c)/(b*c+b*c)
def Hg:List G->List Prop
 | [.ns [t,b],.ns [s,c]]=>[0<b*c+b*c]
 |_=>[]
def Jg:List G->Option RG
 | [.ns [t,b],.ns [s,c]]=>some (.one (.ns [Se t b s c]))
 |_=>none
theorem aUd:bI Z 58 (cY true Jg Hg 21 [6,6]):=by
 refine iA (l:=tK0) aOM dG (bF func58 rfl rfl) ?_;intro d out h;unfold Jg at h;split at h
 ·rename_i t b s c;cases h;exact⟨[0<b*c+b*c],21,by kernel_rfl,by decide,fun a _=>fH a.one gG⟩
 ·cases h
def Jr:List G->Option RG
 | [.ns [a,b,c,d]]=>some (.tup [.ns [yO a c,nK c],.ns [yO b d,nK d]])
 |_=>none
theorem aUn:bI Z 55 (cY true Jr aX 3 [3]):=dM aOM (bF func55 rfl rfl) fun _ _ h=>by
 unfold Jr at h
 split at h<;>cases h
 kernel_rfl
noncomputable def tK1:List (FuncId×TE):=(58,cY true Jg Hg 21 [6,6])::(55,cY true Jr aX 3 [3])::tK0
theorem aWl:cG Z tK1:=⟨aUd,aUn,aOM⟩
variable {d:Int}
theorem aIO {c:Int}(h:fP c d=true):0<nK c/\0<nK d:=by
 unfold fP at h;simp only[and_eq_true,bne_iff_ne,ne_eq,beq_iff_eq]at h
 have a:∀x:Int,Nm.cmp x 0≠0->0<nK x:=by
  intro x b;unfold nK
  rcases Int.lt_trichotomy x 0 with g|g|g
  ·rw[Nm.iV g];show 0 < -x;omega
  ·exact absurd (Nm.iU g) b
  ·rw[Nm.gX g];exact g
 exact⟨a c h.1,a d (by rw[<-h.2];exact h.1)⟩
noncomputable def tK2:List (FuncId×TE):=tK1
theorem aWm:cG Z tK2:=aWl
def Hd:List G->List Prop
 | [.ns _,.i .i64 n]=>[0<=n/\n<=100000]
 |_=>[]
noncomputable def tK3:List (FuncId×TE):=tK2
theorem aRP:cG Z tK3:=aWm
def Ed (a b c d n:Int):Int:=Se (yO a c*10^n.toNat) (nK c) (yO b d*10^n.toNat) (nK d)
def oG (a b c d n:Int):Bool:=Bg (yO a c*10^n.toNat) (nK c) (Ed a b c d n)
def Gx (a b c d n:Int):Bool:=Bg (yO b d*10^n.toNat) (nK d) (Ed a b c d n)
theorem aNJ {c:Int}(h:fP c d=true):0<nK c*nK d+nK c*nK d:=by
 have:=Int.mul_pos (aIO h).1 (aIO h).2;omega
def Jq:List G->Option RG
 | [.ns [a,b,c,d],.i .i64 n]=>some (.tup [.ns [bif !fP c d then 0 else Ed a b c d n],.b (bif !fP c d then false else bif oG a b c d n then Gx a b c d n else false)])
 |_=>none
theorem aRa:bI Z 34 (cY true Jq Hd 21 [3,0]):=by
 refine iA (l:=tK3) aRP dG (bF func34 rfl rfl) ?_;intro f out h;unfold Jq at h;split at h
 ·rename_i a b c d n;cases h;exact⟨[(!fP c d)=false->Int.natAbs 10<=16/\0<=n/\n<=100000,(!fP c d)=false->0<nK c*nK d+nK c*nK d,(!fP c d)=false->(oG a b c d n==true)=true->Holds [(oG a b c d n==true)=true,(oG a b c d n==true)=true],(!fP c d)=false->oG a b c d n=true->(oG a b c d n==true)=true],21,by kernel_rfl,by decide,fun e _=>fH (fun _=>⟨by decide,e.one⟩) (fH (fun h=>aNJ (by simpa using h)) (fH (fun _ h=>fH h (fH h gG)) (fH (fun _ h=>by rw[h];rfl) gG)))⟩
 ·cases h
noncomputable def tK:List (FuncId×TE):=(34,cY true Jq Hd 21 [3,0])::tK3
theorem Gm:cG Z tK:=⟨aRa,aRP⟩
open Rf (Nd Inv aZ Wt)
def kG (w:World)(g f:Nat)(h:LN):Prop:=∃e:LB,w.heap[g]?=some (.cells (ptrB f::e).toArray 78 (0,0))/\aU true w h e
def Bt (a b c d:Int)(e:List AT):AS:=⟨e,[(0,yR (.ptr 1 0::bJ true 0 4) 78),(1,ext [] 145)],2,[(a,1),(b,1),(c,1),(d,1)],[]⟩
abbrev P1:AT:=.val (.one (.ptr 1 0))
def Te (e:List (K (List AT))):Bool:=lN (aF 60) e||lN (aF 52) e
noncomputable def moK:List (K (List AT)):=[.code (aE f35),.top f35]
noncomputable def nrK:List (K (List AT)):=[.code (aE f33),.top f33]
noncomputable def moA (a b c d z:Int):Option Tr:=run Z (aD tK) bT (aK Z (aD tK)) (fun _=>false) 100 (fJ (pD 13) f35) (Bt a b c d (slot [(0,P0),(13,cB z)] 0 25))
noncomputable def Kq (a b c d z:Int)(l:List Bool):AS:=(((moA a b c d z).bind (dD l)).map (·.2)).getD ⟨[],[],0,[],[]⟩
noncomputable def nrA (v:Value)(n:Int):Option Tr:=run Z (aD tK) bT (aK Z (aD tK)) (fun _=>false) 100 (fJ (pD 7) f33) (Bu v n (slot [(7,litT v)] 0 11))
noncomputable def My (v:Value)(n:Int):AS:=(((nrA v n).bind (dD [])).map (·.2)).getD ⟨[],[],0,[],[]⟩
section
variable (a b c d z n:Int) (v:Value)
theorem aZW:(run Z (aD tK) bT (aK Z (aD tK)) Te 100 moK (Bt a b c d (P0::List.replicate 24 .fX))).bind (eD (eX [0,1] [] 2 []) (eX [0,1] [0,12] 2 []))=some (.stp (dY (pD 13) f35) (Bt a b c d (slot [(0,P0),(12,P1)] 0 25))):=by kernel_rfl
theorem aZS:cM Z (Bt a b c d (slot [(0,P0),(12,P1)] 0 25)) (dY (pD 13) f35)=some (60,[.one (.ptr 1 0)],some 13,fJ (pD 13) f35):=by kernel_rfl
theorem Si:noFr (dY (pD 13) f35)=true:=by kernel_rfl
theorem aZV:moA a b c d z=some (.br (z==0) (.ret (.val (.one (.bool false))) (Kq a b c d z [true])) (.ret (.val (.one (.bool true))) (Kq a b c d z [false]))):=by kernel_rfl
def sV (e:List AT):AS:=⟨e,[],0,[],[]⟩
theorem aZQ:(run Z (aD tK) bT (aK Z (aD tK)) (fun _=>false) 100 (fJ (pD 13) f35) (sV (slot [(13,.val (.one (.int .i64 0)))] 0 25))).bind jA=some (.val (.one (.bool false)),true):=by kernel_rfl
theorem aXl:putT (jE [] [] 0 (Bt a b c d (slot [(0,P0),(12,P1)] 0 25)).tmps) (some 13) (.val (.one (.int .i64 0)))=slot [(13,.val (.one (.int .i64 0)))] 0 25:=by kernel_rfl
theorem aXm:putT (jE [0,1] [0] 0 (Bt a b c d (slot [(0,P0),(12,P1)] 0 25)).tmps) (some 13) (cB z)=slot [(0,P0),(13,cB z)] 0 25:=by kernel_rfl
theorem aZR:(Kq a b c d z [false]).dirty=[0]:=by kernel_rfl
theorem aZT:look (Kq a b c d z [false]).boxes 0=some (yR (.ptr 1 0::(qR (Kq a b c d z [false]) 0).drop 1) 78):=by kernel_rfl
theorem aZU:numOf (Kq a b c d z [false]).nums ((qR (Kq a b c d z [false]) 0).drop 1)=some [a*gN z+b*gU z,a*gQ z+b*gV z,c*gN z+d*gU z,c*gQ z+d*gV z]:=by kernel_rfl
theorem aZ3:(run Z (aD tK) bT (aK Z (aD tK)) Te 100 nrK (Bu v n (litT v::cB n::List.replicate 9 .fX))).bind (eD (eX [] [] 0 []) (eX [] [5,6] 0 []))=some (.stp (dY (pD 7) f33) (Bu v n (slot [(5,litT v),(6,cB n)] 0 11))):=by kernel_rfl
theorem aZY:cM Z (Bu v n (slot [(5,litT v),(6,cB n)] 0 11)) (dY (pD 7) f33)=some (52,[.one (.lit v),.one (.sint .i64 n)],some 7,fJ (pD 7) f33):=by kernel_rfl
theorem Sm:noFr (dY (pD 7) f33)=true:=by kernel_rfl
theorem aZ2:nrA v n=some (.ret (.val (.one (.ptr 0 0))) (My v n)):=by kernel_rfl
theorem aZ0:look (My v n).boxes 0=some ⟨.lit v::(qR (My v n) 0).drop 1,78,true,false,false⟩:=by kernel_rfl
theorem aZ1:numOf (My v n).nums ((qR (My v n) 0).drop 1)=some [1,0,0,1]:=by kernel_rfl
theorem aZZ:clean (My v n)=true:=by kernel_rfl
end
variable {nb:Nat}{s:LN}
theorem kG.aS {w':World}(h:kG w rb nb s)(e:On Z.bt w w')(i:w'.heap[rb]?=w.heap[rb]?):kG w' rb nb s:=by
 obtain⟨j,f,g⟩:=h;exact⟨j,by rw[i];exact f,mC e g⟩
theorem kG.lt (h:kG w rb nb s):rb<w.heap.size:=by
 obtain⟨f,e,_⟩:=h;exact gE e
theorem aRC {a b:Nat}:∀k x,phH a b k=some x->[0,1].contains k=true
 |0,_,_=>rfl
 |1,_,_=>rfl
 |k+2,_,e=>by cases e
variable {a b:Int}{i:LB}
theorem aOv {c:Int}{u:Array Value}(q:w.heap[rb]?=some (.cells (ptrB nb::i).toArray 78 (0,0)))(y:aU true w [a,b,c,d] i)(x:∀z∈[a,b,c,d],Bits 1 z)(p:w.heap[nb]?=some (.cells u 145 (0,0)))(D:List AT):RepW Z w (phH rb nb) (phH rb nb) (Bt a b c d D) w:=by
 have l:rb≠nb:=by
  rintro rfl;rw[q]at p;exact absurd (Obj.cells.inj (Option.some.inj p)).2.1 (by decide)
 refine Wv rfl ?_ ?_ ?_ ?_
 ·intro k B v;have:=nC v;simp only[Bt,mem_cons,List.not_mem_nil,or_false,Prod.mk.injEq]at this
  rcases this with⟨rfl,rfl⟩|⟨rfl,rfl⟩
  ·refine⟨rfl,rfl,rb,0,rfl,[],ptrB nb::i,[],(show w.heap[rb]?=some (.cells ([]++(ptrB nb::i)++[]).toArray 78 (0,0)) by simpa using q),rfl,⟨nb,0,rfl,rfl⟩,sL (n:=1) [a,b,c,d] i 0 _ y x ?_⟩;intro j z f
   match j,f with
   |0,f=>cases f;rfl
   |1,f=>cases f;rfl
   |2,f=>cases f;rfl
   |3,f=>cases f;rfl
   |j+4,f=>simp at f
  ·exact⟨rfl,rfl,nb,0,rfl,[],[],u.toList,(show w.heap[nb]?=some (.cells ([]++[]++u.toList).toArray 145 (0,0)) by simpa using p),rfl,trivial⟩
 ·intro k C B E m o I F H h g
  match k,C,h,g with
  |0,0,_,_=>exact Or.inl rfl
  |1,1,_,_=>exact Or.inl rfl
  |0,1,h,g=>cases h;cases g;exact absurd rfl l
  |1,0,h,g=>cases h;cases g;exact absurd rfl l
  |k+2,_,h,_=>cases h
  |0,k+2,_,g=>cases g
  |1,k+2,_,g=>cases g
 ·intro k A;have:2<=k:=A
  match k,this with
  |k+2,_=>rfl
 ·intro k m o e
  match k,e with
  |0,e=>cases e;exact gE q
  |1,e=>cases e;exact gE p
  |k+2,e=>cases e
section
variable {t:Wt} {c0:Nat} {w w':World} {b0 nb fb rb:Nat} {own:Nat->Option Own} {s:Rf.St} {top r:Nat} {a b c d:Int}
theorem Run.bV (h:Run t c0 w b0 nb fb own s top r):(∃e:Array Value,w.heap[nb]?=some (.cells e 145 (0,0)))/\∃e:Array Value,w.heap[fb]?=some (.cells e 143 (0,0)):=by
 obtain⟨at1,g,c,n,f,_⟩:=h;exact⟨⟨_,f.bV⟩,⟨_,f.yG.fuel⟩⟩
theorem Run.rd (h:Run t c0 w b0 nb fb own s top r){x:LN}(v:kG w rb nb x)(hc:Chg w w' [rb]):Run t c0 w' b0 nb fb own s top r:=by
 obtain⟨at1,g,c,n,e,o,p,u,q⟩:=h;obtain⟨y,l,_⟩:=v
 have ne:∀{k:Nat} {cs:Array Value} {ty:TypeId},w.heap[k]?=some (.cells cs ty (0,0))->ty≠78->k ∉ [rb]:=by
  intro k cs ty i f j;simp at j;subst j;rw[l]at i;cases i;exact f rfl
 refine⟨at1,g,c,n,⟨e.yG.aside hc ⟨_,l⟩ (by decide),hc.at e.bV (ne e.bV (by decide)),e.ow,le_trans e.bs hc.on.size,e.Hj,e.nw⟩,o,p,u,q⟩
def withZ (z a b c d:Int):LN:=[a*(Mt.sym z).a+b*(Mt.sym z).c,a*(Mt.sym z).b+b*(Mt.sym z).d,c*(Mt.sym z).a+d*(Mt.sym z).c,c*(Mt.sym z).b+d*(Mt.sym z).d]
def Fk (t:Wt)(c0:Nat)(w:World)(b0 nb fb rb:Nat)(own:Nat->Option Own)(s:Rf.St)(top r:Nat)(a b c d:Int)(e:Ending)(w':World):Prop:=
 On Z.bt w w'/\(∀k,k<w.heap.size->own k=none->k≠fb->k≠nb->k≠rb->w'.heap[k]?=w.heap[k]?)/\
  ((e=.returned (.bool false)/\∃g,Rf.sym (dU t) s top r=some (g,none))\/∃g z f,e=.returned (.bool true)/\Rf.sym (dU t) s top r=some (g,some z)/\Run t c0 w' b0 nb fb f g top (r+1)/\kG w' rb nb (withZ z a b c d)/\∀k,k<w.heap.size->own k=none->f k=none)
theorem aQs (M:c0<=3000)(h:Run t c0 w b0 nb fb own s top r)(hr:r<=1000000)(L:kG w rb nb [a,b,c,d])(hb:∀z∈[a,b,c,d],Bits 1 z)(ho:own rb=none):Calls prog 35 #[ptrB rb] w (Fk t c0 w b0 nb fb rb own s top r a b c d):=by
 have F:=bF func35 rfl rfl;obtain⟨⟨ys,E⟩,⟨fs,N⟩⟩:=h.bV;obtain⟨xs,J,hh⟩:=id L
 have ao:rb≠nb:=by
  rintro rfl;rw[J]at E;exact absurd (Obj.cells.inj (Option.some.inj E)).2.1 (by decide)
 have am:rb≠fb:=by
  rintro rfl;rw[J]at N;exact absurd (Obj.cells.inj (Option.some.inj N)).2.1 (by decide)
 refine nV F (φ:=phH rb nb) (vs:=[.one (.ptr 0 0)]) (args:=[ptrB rb]) (s:=Bt a b c d (P0::List.replicate 24 .fX)) (by kernel_rfl) ⟨⟨rb,0,rfl,rfl⟩,trivial⟩ (aOv J hh hb E _) ?_;refine cC (cZ Gm) nW aRC (jD aRC) (aZW a b c d) (fun _ _=>False) (fun ks s=>ks=dY (pD 13) f35/\s=Bt a b c d (slot [(0,P0),(12,P1)] 0 25)) ⟨rfl,rfl⟩ (fun _ _ _ _ _ h=>h.elim) ?_;rintro ks s0⟨rfl,rfl⟩;refine⟨Si,fun bo ay a1 w1 U g=>?_⟩;have c1:Chg w w1 []:=qN g.wd rfl
 refine pP (aZS a b c d) (bF func60 rfl rfl).en Si (U ay [] w1) g fun us ar=>?_
 match us,ar with
 | [u1],⟨aq,_⟩=>
 rw[uE (g.wd.base 1 (nb,0) rfl) aq];refine(aP5 M (h.still c1) hr).mono ?_;rintro e A⟨ak,D,T⟩;have q:=c1.on.trans ak
 have i:∀k,k<w.heap.size->own k=none->k≠fb->k≠nb->A.heap[k]?=w.heap[k]?:=by
  intro k f H hf hn;rw[D k (Nat.lt_of_lt_of_le f c1.on.size) H hf hn,c1.low k f (by simp)]
 have C:kG A rb nb [a,b,c,d]:=L.aS q (i rb L.lt ho am ao)
 rcases T with⟨rfl,hs⟩|⟨s',z,X,rfl,hs,hR,R⟩
 ·refine⟨_,rfl,fun p ah n=>?_⟩;obtain⟨tr,g1,l⟩:=aT aZQ
  match tr,l with
  |.ret r s,l=>
   simp only[jA,Option.some.injEq,Prod.mk.injEq]at l;obtain⟨rfl,hc⟩:=l;refine sI (cZ Gm) nW (pN mixed (cZ Gm)) (fun r s=>r=.val (.one (.bool false))/\clean s=true) (fun _ _=>False) (fun _ _ h=>h.elim) ?_ _ _ _ _ g1 ⟨rfl,hc⟩ p _ _ A (n _ _ _) (nM (kb:=[]) (kt:=[]) g zV (aXl a b c d).symm (fun b hb=>by simp at hb) rfl);rintro r s φ x w3⟨rfl,hc⟩ hrel v;have hx:x=.bool false:=hrel;have c3:Chg A w3 []:=Chg.eF (RepF.below v hc);rw[hx];exact⟨q.trans c3.on,fun k f h1 h2 M _=>by rw[c3.low k (Nat.lt_of_lt_of_le f q.size) (by simp),i k f h1 h2 M],Or.inl ⟨rfl,hs⟩⟩
  |.br _ _ _,l=>cases l
  |.need _ _,l=>cases l
  |.stop _ _,l=>cases l
 ·refine⟨_,rfl,fun p ah n=>?_⟩;obtain⟨⟨bu,P⟩,_⟩:=hR.bV;obtain⟨ax,B,O⟩:=id C
  have al:Rep Z A (phH rb nb) (phH rb nb) (Bt a b c d (slot [(0,P0),(13,cB (code z))] 0 25)) (a1.put (some 13) (.int .i64 (code z))) A:=nM (kb:=[0,1]) (kt:=[0]) (r:=cB (code z)) g (aOv B O hb P _) (aXm a b c d (code z)).symm (fun k f=>by
   have:k=0\/k=1:=by simpa using f
   rcases this with rfl|rfl
   ·exact(g.wd.base 0 (rb,0) rfl).symm
   ·exact(g.wd.base 1 (nb,0) rfl).symm) rfl
  refine sI (cZ Gm) nW (pN mixed (cZ Gm)) (fun r s=>r=.val (.one (.bool true))/\s.dirty=[0]/\look s.boxes 0=some (yR (.ptr 1 0::(qR s 0).drop 1) 78)/\numOf s.nums ((qR s 0).drop 1)=some (withZ z a b c d)) (fun _ _=>False) (fun _ _ h=>h.elim) ?_ _ _ _ _ (aZV a b c d (code z)) ⟨fun e=>absurd (by simpa using e) (Vx z),fun _=>⟨rfl,aZR a b c d _,aZT a b c d _,?_⟩⟩ p _ _ A (n _ _ _) al
  ·rintro r s3 φ x w3⟨rfl,hd,hl,hn⟩ hrel v;have hx:x=.bool true:=hrel;rw[hx]
   have c3:Chg A w3 [rb]:=⟨v.on,fun j hj hm=>v.low j hj fun k f o e=>by
    rw[hd]at f;simp only[List.mem_singleton]at f;subst f;rw[v.base 0 (rb,0) rfl]at e;cases e
    exact hm (by simp)⟩
   obtain⟨k',o,av,zs,Y,g1,l,g3,g4⟩:=v.box 0 _ hl;rw[v.base 0 (rb,0) rfl]at g1;cases g1;have S:av=[]:=List.length_eq_zero_iff.1 g3;subst S
   match zs,g4 with
   |y::zs,⟨gy,g5⟩=>
   have hy:y=ptrB nb:=cN (ν:=s3.nums) (w:=w3) (v.base 1 (nb,0) rfl) y gy;subst hy;have W:=Il _ _ _ hn g5;have bi:zs.length=8:=Gb _ _ W;have ai:ax.length=8:=Gb _ _ O;have u:=v.on.shape (show A.shape? rb=some (78,9) by unfold World.shape?;rw[B];simp[ai]);unfold World.shape? at u;rw[l]at u;simp only[Option.some.injEq,Prod.mk.injEq,List.size_toArray,List.nil_append,List.length_append,List.length_cons]at u;have I:Y=[]:=List.length_eq_zero_iff.1 (by have:=u.2;omega);subst I;refine⟨q.trans c3.on,fun k f h1 h2 M h4=>?_,Or.inr ⟨s',z,X,rfl,hs,hR.rd C c3,⟨zs,by rw[l];simp[yR],W⟩,fun k f H=>R k (Nat.lt_of_lt_of_le f c1.on.size) H⟩⟩;rw[c3.low k (Nat.lt_of_lt_of_le f q.size) (by simpa using h4),i k f h1 h2 M]
  ·obtain⟨e1,e2,e3,e4⟩:=Pc z;rw[aZU,e1,e2,e3,e4];rfl
end
theorem aOt {w:World}{n:Nat}:∀{zs:LN} {a:LB},aU true w zs a->(∀z∈zs,Bits n z)->RT Z w (zs.map fun z=>Tok.num true z n) a
 | [],[],_,_=>trivial
 |z::zs,_::_::a,⟨d,e,f⟩,b=>⟨d,e,b z (by simp),aOt f fun y g=>b y (by simp[g])⟩
 | [],_::_,h,_=>h.elim
 |_::_,[],h,_=>h.elim
 |_::_,[_],h,_=>h.elim
theorem aNs {w:World}{n:Nat}:∀{zs:LN} {a:LB},RT Z w (zs.map fun z=>Tok.num true z n) a->aU true w zs a
 | [],[],_=>trivial
 |z::zs,_::_::a,⟨b,d,_,e⟩=>⟨b,d,aNs e⟩
 | [],_::_,h=>h.elim
 |_::_,[],h=>h.elim
 |_::_,[_],h=>h.elim
theorem aVT {x:Value}(h:Yf true w v x):∃a ln cp,x=.slice a ln cp:=by
 obtain⟨d,b,_⟩:=h;exact Wo b
def fU (a b c d n:Int):Int:=bif !fP c d then 0 else Ed a b c d n
def oF (a b c d n:Int):Bool:=bif !fP c d then false else bif oG a b c d n then Gx a b c d n else false
theorem aGr {c n:Int}(s:aU true w [a,b,c,d] i)(r:∀z∈[a,b,c,d],Bits 1 z)(u:0<=n/\n<=100000):Calls prog 34 #[.agg i.toArray,.int .i64 n] w fun e o=>∃ao ln cp,e=.returned (.tuple #[.agg #[.bool (decide (fU a b c d n<0)),.slice ao ln cp],.bool (oF a b c d n)])/\aU true o [fU a b c d n] [.bool (decide (fU a b c d n<0)),.slice ao ln cp]/\Below w.heap.size w o:=by
 refine(aRa.2 [.agg [.num true a 1,.num true b 1,.num true c 1,.num true d 1],.one (.sint .i64 n)] _ _ rfl (bL u) w [.agg i.toArray,.int .i64 n] ⟨⟨i,rfl,aOt (zs:=[a,b,c,d]) s r⟩,⟨rfl,rfl⟩,trivial⟩).mono ?_;rintro e o⟨v,rfl,⟨A,rfl,x⟩,g⟩
 match A,x with
 | [C,y],⟨⟨B,p,q⟩,⟨_,j⟩,_⟩=>
 have j:y=.bool (oF a b c d n):=j;have f:=aNs (zs:=[fU a b c d n]) (n:=21) q
 match B,f with
 | [y1,y2],f=>
  have k:=f.1;obtain⟨ao,ln,cp,l⟩:=aVT f.2.1;subst k l;exact⟨ao,ln,cp,by rw[p,j],f,g⟩
 | [],h=>exact h.elim
 | [_],h=>exact h.elim
 |_::_::_::_,⟨_,_,h⟩=>exact h.elim
section
variable {t:Wt} {w:World}
theorem aHg {v:Value}{c:Nat}(H:t.Ok)(P:aJ w t v)(hc:c<=3000):Calls prog 33 #[v,.int .i64 c] w fun e L=>∃ns d own a A z b0,Rf.of t []=some (ns,d)/\e=.returned (ptrB z)/\Chg w L []/\w.heap.size<=b0/\Run t c L b0 a A own ⟨ns,c⟩ d 0/\own z=none/\w.heap.size<=z/\kG L z a [1,0,0,1]:=by
 have F:=bF func33 rfl rfl;refine nV F (φ:=fun _=>none) (vs:=[.one (.lit v),.one (.sint .i64 c)]) (args:=[v,.int .i64 c]) (s:=Bu v c (litT v::cB c::List.replicate 9 .fX)) (by kernel_rfl) ⟨⟨rfl,Ir P⟩,rfl,trivial⟩ zV ?_
 have k:∀b x,(fun _:Nat=>(none:Option (Nat×Nat))) b=some x->([]:PH).contains b=true:=fun b x e=>by cases e
 refine cC (cZ Gm) nW k (jD k) (aZ3 c v) (fun _ _=>False) (fun U s=>U=dY (pD 7) f33/\s=Bu v c (slot [(5,litT v),(6,cB c)] 0 11)) ⟨rfl,rfl⟩ (fun _ _ _ _ _ h=>h.elim) ?_;rintro U s⟨rfl,rfl⟩;refine⟨Sm,fun ah O a1 M o f=>?_⟩;have c1:Chg w M []:=Chg.eF (RepF.below f.wd rfl)
 refine pP (aZY c v) (bF func52 rfl rfl).en Sm (o O [] M) f fun us I=>?_
 match us,I with
 | [u1,u2],⟨g,i,_⟩=>
 have g:u1=v:=g.1;have i:u2=.int .i64 c:=i;rw[g,i];refine(aS2 H (aJ.aS c1.on t v P) hc).mono ?_;rintro e W⟨ns,d,own,a,A,n,E,hn,rfl,c2,hR⟩;obtain⟨u,B,af,D⟩:=hR.cut;refine⟨ptrB a,rfl,fun q ad p=>?_⟩;refine sI (cZ Gm) nW (pN mixed (cZ Gm)) (fun r s=>r=.val (.one (.ptr 0 0))/\look s.boxes 0=some ⟨.lit (ptrB a)::(qR s 0).drop 1,78,true,false,false⟩/\numOf s.nums ((qR s 0).drop 1)=some [1,0,0,1]/\clean s=true) (fun _ _=>False) (fun _ _ h=>h.elim) ?_ _ _ _ _ (aZ2 c (ptrB a)) ⟨rfl,aZ0 c (ptrB a),aZ1 c (ptrB a),aZZ c (ptrB a)⟩ q _ _ W (p _ _ _) (nM (kb:=[]) (kt:=[]) (r:=litT (ptrB a)) f zV (by kernel_rfl) (fun b hb=>by simp at hb) ⟨rfl,Dm a⟩);rintro r s φ x X⟨rfl,hl,l,C⟩ hrel R;have c3:Chg W X []:=Chg.eF (RepF.below R C);obtain⟨m,N,k1,S,k3,T⟩:=zA R hl rfl rfl;have hv:x=ptrB m:=cN (ν:=s.nums) (w:=X) k1 x hrel
 match N,k3 with
 |y::N,⟨J,Y⟩=>
 have J:y=ptrB a:=J.1;rw[J]at S;have j:=c1.trans c2;exact⟨ns,d,u,a,A,m,M.heap.size,E,by rw[hv],j.trans c3,c1.on.size,B.still c3,D m T,le_trans j.on.size T,N,S,Il _ _ _ l Y⟩
end
noncomputable def mI (f:Nat)(n:Int)(top:Nat):Nat->Rf.St->Nat->Int->Int->Int->Int->Option Int
 |0,_,_,_,_,_,_=>none
 |m+1,s,r,a,b,c,d=>if oF a b c d n=true then some (fU a b c d n)else match Rf.sym f s top r with
  |some (e,some z)=>mI f n top m e (r+1) (a*(Mt.sym z).a+b*(Mt.sym z).c) (a*(Mt.sym z).b+b*(Mt.sym z).d) (c*(Mt.sym z).a+d*(Mt.sym z).c) (c*(Mt.sym z).b+d*(Mt.sym z).d)
  |_=>none
noncomputable def decT (u:Wt)(n c:Nat):Option Int:=(Rf.of u []).bind fun x=>mI (dU u) n x.2 3002 ⟨x.1,c⟩ 0 1 0 0 1
theorem aOJ (z:Int):(Mt.sym z).a.natAbs<=3/\(Mt.sym z).b.natAbs<=1/\(Mt.sym z).c.natAbs<=1/\(Mt.sym z).d.natAbs<=3:=by
 unfold Mt.sym;split
 ·decide
 ·split
  ·decide
  ·split
   ·decide
   ·split
    ·decide
    ·split
     ·decide
     ·split<;>decide
variable {r:Nat}
theorem aGC {c:Int}(h:∀x∈[a,b,c,d],x.natAbs<2^(2*r+1)):∀x∈withZ v a b c d,x.natAbs<2^(2*(r+1)+1):=by
 obtain⟨A,B,C,D⟩:=aOJ v;have j:=h a (by simp);have k:=h b (by simp);have hc:=h c (by simp);have l:=h d (by simp)
 have e:2^(2*(r+1)+1)=4*2^(2*r+1):=by rw[show 2*(r+1)+1=(2*r+1)+2 by omega,Nat.pow_add];omega
 rw[e]
 have f:∀x y p q:Int,x.natAbs<2^(2*r+1)->y.natAbs<2^(2*r+1)->p.natAbs+q.natAbs<=4->(x*p+y*q).natAbs<4*2^(2*r+1):=by
  intro x y p q i w g
  have n:(x*p+y*q).natAbs<=x.natAbs*p.natAbs+y.natAbs*q.natAbs:=by
   have:=Int.natAbs_add_le (x*p) (y*q);rw[Int.natAbs_mul,Int.natAbs_mul]at this;exact this
  generalize 2^(2*r+1)=N at*;have o:x.natAbs*p.natAbs<=(N-1)*p.natAbs:=Nat.mul_le_mul_right _ (by omega);have s:y.natAbs*q.natAbs<=(N-1)*q.natAbs:=Nat.mul_le_mul_right _ (by omega)
  have u:(N-1)*p.natAbs+(N-1)*q.natAbs<=(N-1)*4:=by rw[<-Nat.mul_add];exact Nat.mul_le_mul_left _ g
  omega
 intro x i;simp only[withZ,mem_cons,List.not_mem_nil,or_false]at i
 rcases i with rfl|rfl|rfl|rfl
 ·exact f _ _ _ _ j k (by omega)
 ·exact f _ _ _ _ j k (by omega)
 ·exact f _ _ _ _ hc l (by omega)
 ·exact f _ _ _ _ hc l (by omega)
theorem aJf (h:v.natAbs<2^(2*r+1))(a:r<=3001):Bits 1 v:=uR (sO (n:=2*r+1) h (by omega))
theorem Run.few {t:Wt}{c0:Nat}{b0 p o:Nat}{own:Nat->Option Own}{s:Rf.St}{top:Nat}(h:Run t c0 n b0 p o own s top r):r<=3000:=by
 obtain⟨at1,e,c,a,k,f,g,d,b,i,j⟩:=h;have:=(d.at' top a b).iP;omega
theorem Run.aside {t:Wt}{c0:Nat}{n b:World}{b0 p o g:Nat}{own:Nat->Option Own}{s:Rf.St}{top r:Nat}(a:Run t c0 n b0 p o own s top r)(hc:Chg n b [g]){h:TypeId}(f:∃cs:Array Value,n.heap[g]?=some (.cells cs h (0,0)))(y:h≠190/\h≠143/\h≠232/\h≠110)(i:h≠145):Run t c0 b b0 p o own s top r:=by
 obtain⟨at1,k,c,d,e,q,u,x,v⟩:=a;have j:=f;refine⟨at1,k,c,d,⟨e.yG.aside hc f y,hc.at e.bV ?_,e.ow,le_trans e.bs hc.on.size,e.Hj,e.nw⟩,q,u,x,v⟩;intro l;simp at l;subst l;obtain⟨cs,f⟩:=j;rw[e.bV]at f;exact i (Obj.cells.inj (Option.some.inj f)).2.1.symm
theorem aRD {w:Nat}(d:w<=60):RB 200 ((10:Int)^w):=by
 show((10:Int)^w).natAbs<2^200;rw[Int.natAbs_pow];have a:(10:Nat)^w<=10^60:=Nat.pow_le_pow_right (by decide) d
 have b:(10:Nat)^60<2^200:=by decide
 exact Nat.lt_of_le_of_lt a b
theorem aRY {m:Nat}{t:Int}(h:RB m t):RB m (yO t b):=by
 unfold yO;cases decide (Nm.cmp b 0<0)
 ·exact h
 ·exact Xg h
theorem aRX {m:Nat}(h:RB m b):RB m (nK b):=by
 unfold nK;cases decide (Nm.cmp b 0<0)
 ·exact h
 ·exact Xg h
theorem aSx {c:Int}{w m:Nat}(v:m<=6100)(h:RB m a)(i:RB m b)(hc:RB m c)(j:RB m d)(e:w<=60):RB 20000 (fU a b c d w):=by
 unfold fU
 cases l:fP c d with
 |false=>exact Rf.aY
 |true=>
  have k:=aNJ l;have s:RB (m+200) (yO a c*10^(w:Int).toNat):=uP (aRY h) (aRD (by simpa using e));have u:RB (m+200) (yO b d*10^(w:Int).toNat):=uP (aRY i) (aRD (by simpa using e));have f:=aRX hc;have g:=aRX j;have o:RB (m+200+m) (yO a c*10^(w:Int).toNat*nK d):=uP s g;have p:RB (m+200+m) (yO b d*10^(w:Int).toNat*nK c):=uP u f;have q:RB (m+200+m+1) (nK c*nK d):=sO (uP f g) (by omega);have r:=Xf (Xf o p) q;refine sO (n:=m+200+m+1+1) (Nat.lt_of_le_of_lt (aKs k) r) (by omega)
end Ab
end Go.Proofs.YthhffdeihoofiaaGreatDoor
