import Derived.Test.YthhffdeihoofiaaGreatDoorCFu02
set_option linter.all false
set_option maxRecDepth 100000
set_option maxHeartbeats 2000000
namespace Go.Proofs.YthhffdeihoofiaaGreatDoor
open List (take_length length_take)
open Nat (zero_le lt_or_ge min_eq_left)
open Int (mul_nonneg mul_comm lt_or_le zero_mul ediv_nonneg pow_add pow_mul le_of_lt pow_succ mul_assoc)
open Nm (dE yY Zu aIq aKF xI Cq Cn Fx iV iU gX Uf jZ rS xU uB Fz Lu Vl Ds Fl Mc)
open Go.Proofs.Tryz
open Go.RowKit
variable {s:LN}{k:Nat}
theorem Nm.Om {j:Nat}{x:Int}(h:k≠j):Nm.at' (s.set k x) j=Nm.at' s j:=by
 unfold Nm.at';simp[List.getD,List.getElem?_set_ne h]
theorem Nm.aKd (n i:Nat):Nm.at' (List.replicate n 0) i=0:=by
 unfold Nm.at';rw[List.getD_eq_getElem?_getD]
 cases h:(List.replicate n (0:Int))[i]? with
 |none=>rfl
 |some x=>have:=List.mem_of_getElem? h;rw[List.mem_replicate]at this;rw[this.2];rfl
def wY (w:World)(S L:LN)(i:Value)(wr:World):Prop:=
 ∃(k:Nat) (out:LN),i=.int .i64 k/\k<=S.length/\dR wr w.heap.size out/\out.length=S.length+L.length/\dE 4294967296 out/\Below w.heap.size w wr/\Nm.val 4294967296 out=Nm.val 4294967296 (S.take k)*Nm.val 4294967296 L/\(∀t,k+L.length<=t->Nm.at' out t=0)
def Ff (w:World)(S L:LN)(i:Nat)(c b:Value)(wr:World):Prop:=
 ∃(j:Nat) (a:Int) (out:LN),b=.int .i64 j/\c=.int .u64 a/\0<=a/\a<4294967296/\j<=L.length/\dR wr w.heap.size out/\out.length=S.length+L.length/\dE 4294967296 out/\Below w.heap.size w wr/\
  Nm.val 4294967296 out+a*4294967296^(i+j)=Nm.val 4294967296 (S.take i)*Nm.val 4294967296 L+Nm.at' S i*Nm.val 4294967296 (L.take j)*4294967296^i/\(∀t,i+L.length<=t->Nm.at' out t=0)
variable {v:Int}
theorem aR0 {a b out:LN}(d:k+b.length<out.length)(e:Nm.at' out (k+b.length)=0)(h:Nm.val 4294967296 out+v*4294967296^(k+b.length)=Nm.val 4294967296 (a.take k)*Nm.val 4294967296 b+Nm.at' a k*Nm.val 4294967296 (b.take b.length)*4294967296^k):
  Nm.val 4294967296 (out.set (k+b.length) v)=Nm.val 4294967296 (a.take (k+1))*Nm.val 4294967296 b:=by
 rw[take_length]at h;rw[Nm.aO6 _ _ _ _ d,e,yY];generalize (4294967296:Int)^(k+b.length)=P at*;grind
theorem Yx (w:World)(a b:LN)(u v:Value)(W:Lims w a u)(Y:Lims w b v)(a7:a.length<=10000000000)(a8:b.length<=10000000000)(ga:dE 4294967296 a)(gb:dE 4294967296 b):
  Calls prog 108 #[u,v] w (cR w fun xs=>Nm.Good 4294967296 xs/\Nm.val 4294967296 xs=Nm.val 4294967296 a*Nm.val 4294967296 b):=by
 obtain⟨ao,a3,rfl,av⟩:=W.shape;obtain⟨bo,az,rfl,au⟩:=Y.shape;have ak:=run_make_row' (P:=prog) 54 81 (.int .u32 0) 4 underlying54 kR rfl .i64 .i64 (a.length+b.length) (by omega) (by omega);rw[show((a.length+b.length:Nat):Int)=(a.length:Int)+b.length by omega]at ak
 by_cases a6:(b.length:Int)<a.length
 ·have T:=hid Y;have J:=hid W;have GS:=hid gb;have GL:=hid ga;clear W Y ga gb
  go_enter func108,ntmps108
  go_wp2_with fail
  go_loopw [8] (fun i wr=>wY w b a i wr) (fun i _=>b.length-(intOf i).toNat)
  case atStart=>exact⟨0,List.replicate (a.length+b.length) 0,rfl,zero_le _,dR.made w _,by simp;try omega,dE.mB (by decide) _,aW (Below.refl _ _) (Nat.le_refl _) _,by rw[Zu];simp[Nm.val],fun t _=>Nm.aKd _ _⟩
  case round=>
   obtain⟨k,out,rfl,hk,d,h,p,l,r,z⟩:=hrel;have HV:=hid r;have L:=hid h;have E:=hid p;have A:=hid l;have I:=hid d;have N:=hid z;have hs:=d.lt
   by_cases aj:(k:Int)<b.length
   ·obtain⟨g,rfl,_⟩:=T.out.place (by omega)
    obtain⟨wo,R⟩:∃wo:World,wo=wr:=⟨_,rfl⟩
    subst R;have x1:=(T.out.below A.out).oB k (by omega);clear r h p l d z;have a0:=GS.out.at' (by decide) k
    have i5:(k:Int)+a.length<=(a.length:Int)+b.length:=by omega
    have i6:IntKind.i64.wrap ((k:Int)+a.length)=(k:Int)+a.length:=by rw[IntKind.wrap_i64];omega
    have i7:((k:Int)+a.length).toNat=k+a.length:=by omega
    have i8:k+a.length-k=a.length:=by omega
    have i9:(0:Int)<=(k:Int)+a.length:=by omega
    have ap:(k:Int)<=(k:Int)+a.length:=by omega
    have aq:k+a.length<=a.length+b.length:=by omega
    have ar:k<=k+a.length:=by omega
    go_wp2_with fail
    go_loopw [11,12] (fun c j wr=>Ff w b a k c j wr) (fun _ j _=>a.length-(intOf j).toNat)
    case atStart=>
     refine⟨0,0,out,rfl,rfl,by omega,by omega,by omega,I.out,L.out,E.out,A.out,?_,N.out⟩;rw[HV.out];simp[Nm.val]
    case round=>
     obtain⟨j,H,f,rfl,rfl,c0,c1,hj,d,h,p,l,r,z⟩:=hrel;have am:=d.lt
     by_cases gg:(j:Int)<a.length
     ·have D:k+j<f.length:=by rw[h];omega
      obtain⟨g2,rfl,_⟩:=J.out.place (by omega);have y1:=(J.out.below l).oB j (by omega);have x2:=d.cell (k+j) D;have x3:=d.frozen (k+j);have b0:=GL.out.at' (by decide) j;have S:=p.at' (by decide) (k+j);have C:=aIq (x:=H+Nm.at' f (k+j)+Nm.at' b k*Nm.at' a j) (by decide) c0 c1 S.1 S.2 a0.1 a0.2 b0.1 b0.2 rfl;have ST:=hid (aKF (x:=H+Nm.at' f (k+j)+Nm.at' b k*Nm.at' a j) D r rfl)
      have F:Hid (∀X q,X=H+Nm.at' f (k+j)+Nm.at' b k*Nm.at' a j->Ff w b a k (.int .u64 (X/4294967296)) (.int .i64 ((j:Int)+1)) ((wr.drewN q).setCell ⟨w.heap.size,k+j,none⟩ (.int .u32 (X%4294967296)))):=by
       rintro X q rfl;refine⟨j+1,_,f.set (k+j) ((H+Nm.at' f (k+j)+Nm.at' b k*Nm.at' a j)%4294967296),by simp,rfl,C.2.1,C.2.2.1,by omega,(show dR (wr.drewN q) w.heap.size f from d).set _ _,by simpa using h,p.set _ (by omega) (by omega),(below_drewN l q).setCell (by simp) _,ST.out,?_⟩;intro t ht;rw[Nm.Om (by omega)];exact z t ht
      clear r h p l d z ST;generalize Nm.at' b k=x at*;generalize Nm.at' a j=y at*;generalize Nm.at' f (k+j)=o at*;obtain⟨a1,a2⟩:=a0;obtain⟨b1,b2⟩:=b0;obtain⟨o1,o2⟩:=S;obtain⟨k0,k1,k2,k3⟩:=C;have p0:0<=x*y:=mul_nonneg a1 b1;have p1:x*y<=4294967295*4294967295:=Int.mul_le_mul (by omega) (by omega) b1 (by omega)
      go_wp2_with fail
      go_quiet (fail)
      go_wp2_with fail
      go_roundw
      case rel=>exact F.out (H+(x*y+o)) _ (by rw[Int.add_comm (x*y) o,Int.add_assoc])
      case measure=>simp[intOf];omega
     ·obtain rfl:j=a.length:=by omega
      have D:k+a.length<f.length:=by rw[h];omega
      have M:=hid (aR0 D (z _ (Nat.le_refl _)) r);have x2:=d.cell (k+a.length) D;have x3:=d.frozen (k+a.length)
      have F:Hid (wY w b a (.int .i64 ((k:Int)+1)) (wr.setCell ⟨w.heap.size,k+a.length,none⟩ (.int .u32 H))):=by
       refine⟨k+1,f.set (k+a.length) H,by simp,by omega,d.set _ _,by simpa using h,p.set _ c0 c1,l.setCell (by simp) _,M.out,?_⟩;intro t ht;rw[Nm.Om (by omega)];exact z t (by omega)
      have i1:(k:Int)+a.length<(a.length:Int)+b.length:=by omega
      clear r h p l d z M;generalize Nm.at' f (k+a.length)=o at*
      go_wp2_with fail
      go_roundw
      case rel=>exact F.out
      case measure=>simp[intOf];omega
   ·obtain rfl:k=b.length:=by omega
    have HE:=hid (show Nm.val 4294967296 out=Nm.val 4294967296 b*Nm.val 4294967296 a by rw[r,take_length]);have U:=hid (Cm wr out _ 0 (d.rA (by omega)) (by omega))
    have s:out.length=a.length+b.length:=by omega
    rw[s]at U;have O:=xI out;rw[s]at O;have J:=hid (d.used (B:=w.heap.size) (by omega) (Nat.le_refl _));rw[s]at J;clear r h p l d z s;generalize hn:(Nm.strip out).length=n at*;clear hn
    go_wp2_with fail
    refine(U.out).mono ?_;rintro e w1⟨rfl,rfl⟩
    go_wp2_with fail
    go_ret
    exact⟨_,Nm.strip out,rfl,⟨Cq E.out,by rw[Cn,HE.out];exact mul_comm _ _⟩,J.out,A.out⟩
 ·have T:=hid W;have J:=hid Y;have GS:=hid ga;have GL:=hid gb;clear W Y ga gb
  go_enter func108,ntmps108
  go_wp2_with fail
  go_loopw [8] (fun i wr=>wY w a b i wr) (fun i _=>a.length-(intOf i).toNat)
  case atStart=>exact⟨0,List.replicate (a.length+b.length) 0,rfl,zero_le _,dR.made w _,by simp;try omega,dE.mB (by decide) _,aW (Below.refl _ _) (Nat.le_refl _) _,by rw[Zu];simp[Nm.val],fun t _=>Nm.aKd _ _⟩
  case round=>
   obtain⟨k,out,rfl,hk,d,h,p,l,r,z⟩:=hrel;have HV:=hid r;have L:=hid h;have E:=hid p;have A:=hid l;have I:=hid d;have N:=hid z;have hs:=d.lt
   by_cases aj:(k:Int)<a.length
   ·obtain⟨g,rfl,_⟩:=T.out.place (by omega)
    obtain⟨wo,R⟩:∃wo:World,wo=wr:=⟨_,rfl⟩
    subst R;have x1:=(T.out.below A.out).oB k (by omega);clear r h p l d z;have a0:=GS.out.at' (by decide) k
    have i5:(k:Int)+b.length<=(a.length:Int)+b.length:=by omega
    have i6:IntKind.i64.wrap ((k:Int)+b.length)=(k:Int)+b.length:=by rw[IntKind.wrap_i64];omega
    have i7:((k:Int)+b.length).toNat=k+b.length:=by omega
    have i8:k+b.length-k=b.length:=by omega
    have i9:(0:Int)<=(k:Int)+b.length:=by omega
    have ap:(k:Int)<=(k:Int)+b.length:=by omega
    have aq:k+b.length<=a.length+b.length:=by omega
    have ar:k<=k+b.length:=by omega
    go_wp2_with fail
    go_loopw [11,12] (fun c j wr=>Ff w a b k c j wr) (fun _ j _=>b.length-(intOf j).toNat)
    case atStart=>
     refine⟨0,0,out,rfl,rfl,by omega,by omega,by omega,I.out,L.out,E.out,A.out,?_,N.out⟩;rw[HV.out];simp[Nm.val]
    case round=>
     obtain⟨j,H,f,rfl,rfl,c0,c1,hj,d,h,p,l,r,z⟩:=hrel;have am:=d.lt
     by_cases gg:(j:Int)<b.length
     ·have D:k+j<f.length:=by rw[h];omega
      obtain⟨g2,rfl,_⟩:=J.out.place (by omega);have y1:=(J.out.below l).oB j (by omega);have x2:=d.cell (k+j) D;have x3:=d.frozen (k+j);have b0:=GL.out.at' (by decide) j;have S:=p.at' (by decide) (k+j);have C:=aIq (x:=H+Nm.at' f (k+j)+Nm.at' a k*Nm.at' b j) (by decide) c0 c1 S.1 S.2 a0.1 a0.2 b0.1 b0.2 rfl;have ST:=hid (aKF (x:=H+Nm.at' f (k+j)+Nm.at' a k*Nm.at' b j) D r rfl)
      have F:Hid (∀X q,X=H+Nm.at' f (k+j)+Nm.at' a k*Nm.at' b j->Ff w a b k (.int .u64 (X/4294967296)) (.int .i64 ((j:Int)+1)) ((wr.drewN q).setCell ⟨w.heap.size,k+j,none⟩ (.int .u32 (X%4294967296)))):=by
       rintro X q rfl;refine⟨j+1,_,f.set (k+j) ((H+Nm.at' f (k+j)+Nm.at' a k*Nm.at' b j)%4294967296),by simp,rfl,C.2.1,C.2.2.1,by omega,(show dR (wr.drewN q) w.heap.size f from d).set _ _,by simpa using h,p.set _ (by omega) (by omega),(below_drewN l q).setCell (by simp) _,ST.out,?_⟩;intro t ht;rw[Nm.Om (by omega)];exact z t ht
      clear r h p l d z ST;generalize Nm.at' a k=x at*;generalize Nm.at' b j=y at*;generalize Nm.at' f (k+j)=o at*;obtain⟨a1,a2⟩:=a0;obtain⟨b1,b2⟩:=b0;obtain⟨o1,o2⟩:=S;obtain⟨k0,k1,k2,k3⟩:=C;have p0:0<=x*y:=mul_nonneg a1 b1;have p1:x*y<=4294967295*4294967295:=Int.mul_le_mul (by omega) (by omega) b1 (by omega)
      go_wp2_with fail
      go_quiet (fail)
      go_wp2_with fail
      go_roundw
      case rel=>exact F.out (H+(x*y+o)) _ (by rw[Int.add_comm (x*y) o,Int.add_assoc])
      case measure=>simp[intOf];omega
     ·obtain rfl:j=b.length:=by omega
      have D:k+b.length<f.length:=by rw[h];omega
      have M:=hid (aR0 D (z _ (Nat.le_refl _)) r);have x2:=d.cell (k+b.length) D;have x3:=d.frozen (k+b.length)
      have F:Hid (wY w a b (.int .i64 ((k:Int)+1)) (wr.setCell ⟨w.heap.size,k+b.length,none⟩ (.int .u32 H))):=by
       refine⟨k+1,f.set (k+b.length) H,by simp,by omega,d.set _ _,by simpa using h,p.set _ c0 c1,l.setCell (by simp) _,M.out,?_⟩;intro t ht;rw[Nm.Om (by omega)];exact z t (by omega)
      have i1:(k:Int)+b.length<(a.length:Int)+b.length:=by omega
      clear r h p l d z M;generalize Nm.at' f (k+b.length)=o at*
      go_wp2_with fail
      go_roundw
      case rel=>exact F.out
      case measure=>simp[intOf];omega
   ·obtain rfl:k=a.length:=by omega
    have HE:=hid (show Nm.val 4294967296 out=Nm.val 4294967296 a*Nm.val 4294967296 b by rw[r,take_length]);have U:=hid (Cm wr out _ 0 (d.rA (by omega)) (by omega))
    have s:out.length=a.length+b.length:=by omega
    rw[s]at U;have O:=xI out;rw[s]at O;have J:=hid (d.used (B:=w.heap.size) (by omega) (Nat.le_refl _));rw[s]at J;clear r h p l d z s;generalize hn:(Nm.strip out).length=n at*;clear hn
    go_wp2_with fail
    refine(U.out).mono ?_;rintro e w1⟨rfl,rfl⟩
    go_wp2_with fail
    go_ret
    exact⟨_,Nm.strip out,rfl,⟨Cq E.out,by rw[Cn,HE.out]⟩,J.out,A.out⟩
variable {n:World}
theorem xK {o:Obj}(a:Obj)(h:n.heap[k]?=some o):(n.alloc a).heap[k]?=some o:=by rw[Below.heap_alloc _ _ _ (fQ h)];exact h
structure Yv (w w2:World) (B:Nat) (z:Int) (p q:Value):Prop where
 c0:((w2.setCell ⟨B,0,none⟩ p).setCell ⟨B,1,none⟩ q).cell? ⟨B,0,none⟩=some p
 c1:((w2.setCell ⟨B,0,none⟩ p).setCell ⟨B,1,none⟩ q).cell? ⟨B,1,none⟩=some q
 num:WhoAt ((w2.setCell ⟨B,0,none⟩ p).setCell ⟨B,1,none⟩ q) z (.agg #[p,q])
 below:Below w.heap.size w ((w2.setCell ⟨B,0,none⟩ p).setCell ⟨B,1,none⟩ q)
variable {w:Nat}
theorem vA {b:World}{x g p q:Value}(h:b.heap[w]?=some (.cells #[x,g] 56 (0,0)))(i:WhoAt b v (.agg #[p,q]))(f:Below n.heap.size n b)(e:n.heap.size<=w):Yv n b w v p q:=by
 have a:=sH h (o:=0) p;have d:=sH a (o:=1) q;exact⟨bH d rfl,bH d rfl,(i.other h (by decide) p).other a (by decide) q,(f.setCell e _).setCell e _⟩
theorem vB {b:World}{x g p q:Value}(h:b.heap[w]?=some (.cells #[x,g] 56 (0,0)))(e:WhoAt b v (.agg #[p,q]))(d:Below n.heap.size n b)(a:n.heap.size<=w):b.frozen? ⟨w,0,none⟩=false/\b.frozen? ⟨w,1,none⟩=false/\b.cell? ⟨w,0,none⟩=some x/\b.cell? ⟨w,1,none⟩=some g/\
  ((b.setCell ⟨w,0,none⟩ p).setCell ⟨w,1,none⟩ q).cell? ⟨w,0,none⟩=some p/\((b.setCell ⟨w,0,none⟩ p).setCell ⟨w,1,none⟩ q).cell? ⟨w,1,none⟩=some q/\Hid (WhoAt ((b.setCell ⟨w,0,none⟩ p).setCell ⟨w,1,none⟩ q) v (.agg #[p,q]))/\Hid (Below n.heap.size n ((b.setCell ⟨w,0,none⟩ p).setCell ⟨w,1,none⟩ q)):=
 have F:=vA h e d a
 ⟨kN h,kN h,bH h rfl,bH h rfl,F.c0,F.c1,F.num,F.below⟩
def kX (w:World)(a b c d:Value):World:=((w.alloc (.cells #[a,b] 56)).alloc (.cells #[c,d] 56)).alloc (.cells #[.bool false,.slice none 0 0] 56)
theorem Lo (w:World)(a b c d:Value):Below w.heap.size w (kX w a b c d).drew:=(aW (aW (aW (Below.refl _ _) (Nat.le_refl _) _) (by simp) _) (by simp;omega) _).trans ((vZ _).mono (by simp[kX];omega))
theorem zU (w:World)(a b c d:Value):(kX w a b c d).drew.heap.size=w.heap.size+3:=by simp[kX]
theorem Ol (w:World)(a b c d:Value):(kX w a b c d).drew.heap[w.heap.size]?=some (.cells #[a,b] 56 (0,0)):=xK _ (xK _ (vN _ _))
theorem Um (w:World)(a b c d:Value):(kX w a b c d).drew.heap[w.heap.size+1]?=some (.cells #[c,d] 56 (0,0)):=by
 have:=xK (.cells #[.bool false,.slice none 0 0] 56) (vN (w.alloc (.cells #[a,b] 56)) (.cells #[c,d] 56));rw[World.size_alloc]at this;exact this
theorem aGM (w:World)(a b c d:Value):(kX w a b c d).drew.heap[w.heap.size+2]?=some (.cells #[.bool false,.slice none 0 0] 56 (0,0)):=by
 have:=vN ((w.alloc (.cells #[a,b] 56)).alloc (.cells #[c,d] 56)) (.cells #[.bool false,.slice none 0 0] 56);rw[World.size_alloc,World.size_alloc]at this;exact this
theorem nB (w:World)(a b c d:Value):Below w.heap.size w (kX w a b c d):=aW (aW (aW (Below.refl _ _) (Nat.le_refl _) _) (by simp) _) (by simp;omega) _
theorem uC (w:World)(a b c d:Value):(kX w a b c d).heap.size=w.heap.size+3:=by simp[kX]
theorem Lk (w:World)(a b c d:Value):(kX w a b c d).heap[w.heap.size]?=some (.cells #[a,b] 56 (0,0)):=Ol w a b c d
theorem Im (w:World)(a b c d:Value):(kX w a b c d).heap[w.heap.size+1]?=some (.cells #[c,d] 56 (0,0)):=Um w a b c d
theorem zT (w:World)(a b c d:Value):(kX w a b c d).heap[w.heap.size+2]?=some (.cells #[.bool false,.slice none 0 0] 56 (0,0)):=aGM w a b c d
variable {z:Int}
theorem sJ {xs:LN}{v:Value}{a:Bool}(b:Lims n xs v)(e:Nm.Good 4294967296 xs)(hv:Nm.val 4294967296 xs=z.natAbs)(d:a=decide (z<0)):WhoAt n z (.agg #[.bool a,v]):=⟨xs,v,by rw[d],b,e,hv⟩
theorem aT2 (n:Int)(w:World)(r:-9223372036854775808<=n)(q:n<9223372036854775808)(hc:n<0):Calls prog 72 #[.int .i64 n] w (bR w n):=by
 have o:Hid (∀W N,N=-n->Calls prog 96 #[.int .u64 N] W (cR W fun b=>Nm.Good 4294967296 b/\Nm.val 4294967296 b=-n/\b.length<=2)):=by
  rintro W N rfl;exact Nz _ W (by omega) (by omega)
 have i:decide (n<0)=true:=by simpa using hc
 go_enter func72,ntmps72
 go_wp2_with fail
 refine(o.out _ _ (by omega)).mono ?_;rintro e x⟨C,b,rfl,⟨p,hv,_⟩,f,d⟩;have g:=d.size;rw[World.size_alloc]at g;obtain⟨o1,c1,rfl,_⟩:=f.shape;have a:=cP (by rw[World.size_alloc];omega) (vN w (.cells #[.bool false,.slice none 0 0] 56)) d;have h:WhoAt x n (.agg #[.bool true,.slice o1 b.length c1]):=sJ (f.bO (zero_le _)) p (by omega) i.symm;have j:=(aW (Below.refl w.heap.size w) (Nat.le_refl _) (.cells #[.bool false,.slice none 0 0] 56)).trans (d.mono (by rw[World.size_alloc];omega));obtain⟨y,z,A,B,s,u,l,k⟩:=vB a h j (by omega);clear h j a;clear d f i
 go_wp2_with fail
 refine bodyPost_ret (v:=.agg #[.bool true,.slice o1 b.length c1]) (by simp[results,results72,go_sem,s,u]) rfl ⟨_,rfl,l.out,k.out⟩
theorem aT3 (n:Int)(w:World)(r:-9223372036854775808<=n)(q:n<9223372036854775808)(hc:¬n<0):Calls prog 72 #[.int .i64 n] w (bR w n):=by
 have o:Hid (∀W N,N=n->Calls prog 96 #[.int .u64 N] W (cR W fun b=>Nm.Good 4294967296 b/\Nm.val 4294967296 b=n/\b.length<=2)):=by
  rintro W N rfl;exact Nz _ W (by omega) (by omega)
 have i:decide (n<0)=false:=by simpa using hc
 go_enter func72,ntmps72
 go_wp2_with fail
 refine(o.out _ _ (by omega)).mono ?_;rintro e x⟨C,b,rfl,⟨p,hv,_⟩,f,d⟩;have g:=d.size;rw[World.size_alloc]at g;obtain⟨o1,c1,rfl,_⟩:=f.shape;have a:=cP (by rw[World.size_alloc];omega) (vN w (.cells #[.bool false,.slice none 0 0] 56)) d;have h:WhoAt x n (.agg #[.bool false,.slice o1 b.length c1]):=sJ (f.bO (zero_le _)) p (by omega) i.symm;have j:=(aW (Below.refl w.heap.size w) (Nat.le_refl _) (.cells #[.bool false,.slice none 0 0] 56)).trans (d.mono (by rw[World.size_alloc];omega));obtain⟨y,z,A,B,s,u,l,k⟩:=vB a h j (by omega);clear h j a;clear d f i
 go_wp2_with fail
 refine bodyPost_ret (v:=.agg #[.bool false,.slice o1 b.length c1]) (by simp[results,results72,go_sem,s,u]) rfl ⟨_,rfl,l.out,k.out⟩
theorem aT1 (n:Int)(w:World)(b:-9223372036854775808<=n)(a:n<9223372036854775808):Calls prog 72 #[.int .i64 n] w (bR w n):=by
 by_cases h:n<0
 ·exact aT2 n w b a h
 ·exact aT3 n w b a h
theorem Pe (a:Nm.Good 4294967296 s)(hv:Nm.val 4294967296 s=v.natAbs):s=[]↔v=0:=by
 have:=Fx (by decide) a;rw[hv]at this;rw[<-this];omega
theorem aGa (w:World)(z:Int)(v:Value)(h:WhoAt w z v):Calls prog 80 #[v] w fun e j=>e=.returned (.int .i64 (Nm.cmp z 0))/\Below w.heap.size w j:=by
 obtain⟨b,k,f,rfl,g,d,hv⟩:=h.open;have a:=Pe d hv;clear g d hv h
 rcases Int.lt_trichotomy z 0 with h0|h0|h0
 ·have i:((b.length:Int)==0)=false:=by
   simp only[beq_eq_false_iff_ne,ne_eq];intro h;have:=a.1 (List.eq_nil_of_length_eq_zero (by omega));omega
  rw[iV h0,decide_eq_true h0];clear a
  go_enter func80,ntmps80
  go_wp2_with fail
  go_ret
  exact⟨rfl,aW (Below.refl _ _) (Nat.le_refl _) _⟩
 ·subst h0;have:=a.2 rfl;subst this;rw[iU rfl];clear a
  go_enter func80,ntmps80
  go_wp2_with fail
  go_ret
  exact⟨rfl,aW (Below.refl _ _) (Nat.le_refl _) _⟩
 ·have i:((b.length:Int)==0)=false:=by
   simp only[beq_eq_false_iff_ne,ne_eq];intro h;have:=a.1 (List.eq_nil_of_length_eq_zero (by omega));omega
  rw[gX h0,decide_eq_false (by omega)];clear a
  go_enter func80,ntmps80
  go_wp2_with fail
  go_ret
  exact⟨rfl,aW (Below.refl _ _) (Nat.le_refl _) _⟩
theorem aLo (w:World)(z:Int)(v:Value)(h:WhoAt w z v):Calls prog 97 #[v] w (bR w (-z)):=by
 obtain⟨d,i,b,rfl,n,j,hv⟩:=h.open;have o:=Pe j hv;have g:=hid n;have f:=hid j;have k:=hid hv;clear n j hv h
 by_cases a:z<0
 ·rw[decide_eq_true a]
  go_enter func97,ntmps97
  go_wp2_with fail
  refine bodyPost_ret (v:=.agg #[.bool false,.slice i d.length b]) (by simp[results,results97,go_sem]) rfl ⟨_,rfl,sJ ((g.out.alloc _).alloc _) f.out (by rw[k.out];omega) (by symm;simp;omega),aW (aW (Below.refl _ _) (Nat.le_refl _) _) (by simp) _⟩
 ·rw[decide_eq_false a]
  by_cases l:z=0
  ·have e:=o.2 l;subst e
   go_enter func97,ntmps97
   go_wp2_with fail
   refine bodyPost_ret (v:=.agg #[.bool false,.slice i 0 b]) (by simp[results,results97,go_sem]) rfl ⟨_,rfl,sJ (xs:=[]) ((g.out.alloc _).alloc _) f.out rfl rfl,aW (aW (Below.refl _ _) (Nat.le_refl _) _) (by simp) _⟩
  ·have q:(0:Int)<d.length:=by
    rcases Nat.eq_zero_or_pos d.length with h|h
    ·exact absurd (o.1 (List.eq_nil_of_length_eq_zero h)) l
    ·omega
   have p:0<d.length:=by omega
   go_enter func97,ntmps97
   go_wp2_with fail
   refine bodyPost_ret (v:=.agg #[.bool true,.slice i d.length b]) (by simp[results,results97,go_sem,p]) rfl ⟨_,rfl,sJ ((g.out.alloc _).alloc _) f.out (by rw[k.out];omega) (by symm;simp;omega),aW (aW (Below.refl _ _) (Nat.le_refl _) _) (by simp) _⟩
theorem aGb (w:World)(z:Int)(v:Value)(h:WhoAt w z v):Calls prog 86 #[v] w (bR w (z.natAbs:Int)):=by
 obtain⟨j,i,a,rfl,b,d,hv⟩:=h.open;have f:=hid b;have e:=hid d;have g:=hid hv;clear b d hv h;generalize decide (z<0)=k at*
 go_enter func86,ntmps86
 go_wp2_with fail
 refine bodyPost_ret (v:=.agg #[.bool false,.slice i j.length a]) (by simp[results,results86,go_sem]) rfl ⟨_,rfl,sJ ((f.out.alloc _).alloc _) e.out (by rw[g.out];simp) (by symm;simp),aW (aW (Below.refl _ _) (Nat.le_refl _) _) (by simp) _⟩
theorem aMo (w:World)(h y:Bool)(j k:Option Addr)(la n f d:Nat)(z:Int)(P:List Int->Prop)(F:h=y)
  (r:∀W,Below w.heap.size w W->Calls prog 109 #[.slice j la f,.slice k n d] W (cR W P))
  (s:∀W i v,P i->Lims W i v->WhoAt W z (.agg #[.bool (h),v])):
  Calls prog 83 #[.agg #[.bool h,.slice j la f],.agg #[.bool y,.slice k n d]] w (bR w z):=by
 subst F;have C:=hid r;have D:=hid s;clear r s
 have H:¬(w.heap.size=w.heap.size+1+1):=by omega
 have I:¬(w.heap.size+1+1=w.heap.size):=by omega
 go_enter func83,ntmps83
 go_wp2_with fail
 go_region_held3 (fun p=>p.cell? ⟨w.heap.size,0,none⟩=some (.bool h)/\p.cell? ⟨w.heap.size,1,none⟩=some (.slice j la f)/\p.cell? ⟨w.heap.size+1,1,none⟩=some (.slice k n d)) (go_keep) (
   (go_at_call 109
    refine(C.out _ (Lo w _ _ _ _)).mono ?_;rintro e M⟨T,i,rfl,u,g,a⟩;have l:=a.size;rw[zU]at l;obtain⟨o1,c1,rfl,_⟩:=g.shape;have b:=cP (by rw[zU];omega) (aGM _ _ _ _ _) a;have x0:=bH (o:=0) (cP (by rw[zU];omega) (Ol _ _ _ _ _) a) rfl;have x1:=bH (o:=1) (cP (by rw[zU];omega) (Ol _ _ _ _ _) a) rfl;have x2:=bH (o:=1) (cP (by rw[zU];omega) (Um _ _ _ _ _) a) rfl
    have E:w.heap.size+1<M.heap.size:=by omega
    have q:=D.out _ i _ u (g.bO (zero_le _));have x:=(Lo w _ _ _ _).trans (a.mono (Lo w _ _ _ _).size);obtain⟨N,O,R,S,J,L,B,A⟩:=vB b q x (by omega);clear q x b
    clear a g u))
 all_goals
  go_wp2_with fail
  refine bodyPost_ret (v:=.agg #[.bool (h),.slice o1 i.length c1]) (by simp[results,results83,go_sem,J,L]) rfl ⟨_,rfl,B.out,A.out⟩
theorem aQ2 (w:World)(j E:Bool)(q r:Option Addr)(la s f d:Nat)(z:Int)(P:List Int->Prop)(X:(j==E)=false)
  (A:∀W,Below w.heap.size w W->Calls prog 110 #[.slice q la f,.slice r s d] W fun e k=>e=.returned (.int .i64 (1))/\Below W.heap.size W k)
  (y:∀W,Below w.heap.size w W->Calls prog 111 #[.slice q la f,.slice r s d] W (cR W P))
  (B:∀W l v,P l->Lims W l v->WhoAt W z (.agg #[.bool j,v])):
  Calls prog 83 #[.agg #[.bool j,.slice q la f],.agg #[.bool E,.slice r s d]] w (bR w z):=by
 have J:=hid A;have I:=hid y;have L:=hid B;clear y B A
 have N:¬(w.heap.size=w.heap.size+1+1):=by omega
 have O:¬(w.heap.size+1+1=w.heap.size):=by omega
 go_enter func83,ntmps83
 go_wp2_with fail
 refine(J.out _ (nB w _ _ _ _)).mono ?_;rintro e w0⟨rfl,b⟩;have u:=b.size;rw[uC]at u;have b2:=cP (by rw[uC];omega) (zT _ _ _ _ _) b;have b1:=cP (by rw[uC];omega) (Im _ _ _ _ _) b;have b0:=cP (by rw[uC];omega) (Lk _ _ _ _ _) b;obtain⟨z0,T⟩:=kP b0 rfl rfl;have U:=bH (o:=1) b1 rfl;have n:=hid ((nB w _ _ _ _).trans (b.mono (nB w _ _ _ _).size));clear b b0 b1
 go_wp2_with fail
 go_region_held3 (fun k=>k.cell? ⟨w.heap.size,0,none⟩=some (.bool j)/\k.cell? ⟨w.heap.size,1,none⟩=some (.slice q la f)/\k.cell? ⟨w.heap.size+1,1,none⟩=some (.slice r s d)) (go_keep) (
   (go_at_call 111
    refine(I.out _ (n.out.trans ((vZ _).mono n.out.size))).mono ?_;rintro e w1⟨v1,l,rfl,C,i,g⟩;have a:=rL g;clear g;have M:=a.size;obtain⟨o1,c1,rfl,_⟩:=i.shape;have h:=cP (by omega) b2 a;have x0:=(a.cell (p:=⟨w.heap.size,0,none⟩) (by simp only;omega)).trans z0;have x1:=(a.cell (p:=⟨w.heap.size,1,none⟩) (by simp only;omega)).trans T;have x2:=(a.cell (p:=⟨w.heap.size+1,1,none⟩) (by simp only;omega)).trans U;have x:=L.out _ l _ C (i.bO (zero_le _));have D:=n.out.trans (a.mono n.out.size);obtain⟨Y,r1,s0,s1,R,S,H,F⟩:=vB h x D (by omega);clear x D h
    clear a i C b2))
 all_goals
  go_wp2_with fail
  refine bodyPost_ret (v:=.agg #[.bool j,.slice o1 l.length c1]) (by simp[results,results83,go_sem,R,S]) rfl ⟨_,rfl,H.out,F.out⟩
theorem aQ3 (w:World)(E j:Bool)(q r:Option Addr)(la s f d:Nat)(z:Int)(P:List Int->Prop)(X:(E==j)=false)
  (A:∀W,Below w.heap.size w W->Calls prog 110 #[.slice q la f,.slice r s d] W fun e k=>e=.returned (.int .i64 (-1))/\Below W.heap.size W k)
  (y:∀W,Below w.heap.size w W->Calls prog 111 #[.slice r s d,.slice q la f] W (cR W P))
  (B:∀W l v,P l->Lims W l v->WhoAt W z (.agg #[.bool j,v])):
  Calls prog 83 #[.agg #[.bool E,.slice q la f],.agg #[.bool j,.slice r s d]] w (bR w z):=by
 have J:=hid A;have I:=hid y;have L:=hid B;clear y B A
 have N:¬(w.heap.size=w.heap.size+1+1):=by omega
 have O:¬(w.heap.size+1+1=w.heap.size):=by omega
 go_enter func83,ntmps83
 go_wp2_with fail
 refine(J.out _ (nB w _ _ _ _)).mono ?_;rintro e w0⟨rfl,b⟩;have u:=b.size;rw[uC]at u;have b2:=cP (by rw[uC];omega) (zT _ _ _ _ _) b;have b1:=cP (by rw[uC];omega) (Im _ _ _ _ _) b;have b0:=cP (by rw[uC];omega) (Lk _ _ _ _ _) b;have z0:=bH (o:=0) b1 rfl;have T:=bH (o:=1) b0 rfl;have U:=bH (o:=1) b1 rfl;have n:=hid ((nB w _ _ _ _).trans (b.mono (nB w _ _ _ _).size));clear b b0 b1
 go_wp2_with fail
 go_region_held3 (fun k=>k.cell? ⟨w.heap.size+1,0,none⟩=some (.bool j)/\k.cell? ⟨w.heap.size,1,none⟩=some (.slice q la f)/\k.cell? ⟨w.heap.size+1,1,none⟩=some (.slice r s d)) (go_keep) (
   (go_at_call 111
    refine(I.out _ (n.out.trans ((vZ _).mono n.out.size))).mono ?_;rintro e w1⟨v1,l,rfl,C,i,g⟩;have a:=rL g;clear g;have M:=a.size;obtain⟨o1,c1,rfl,_⟩:=i.shape;have h:=cP (by omega) b2 a;have x0:=(a.cell (p:=⟨w.heap.size+1,0,none⟩) (by simp only;omega)).trans z0;have x1:=(a.cell (p:=⟨w.heap.size,1,none⟩) (by simp only;omega)).trans T;have x2:=(a.cell (p:=⟨w.heap.size+1,1,none⟩) (by simp only;omega)).trans U;have x:=L.out _ l _ C (i.bO (zero_le _));have D:=n.out.trans (a.mono n.out.size);obtain⟨Y,r1,s0,s1,R,S,H,F⟩:=vB h x D (by omega);clear x D h
    clear a i C b2))
 all_goals
  go_wp2_with fail
  refine bodyPost_ret (v:=.agg #[.bool j,.slice o1 l.length c1]) (by simp[results,results83,go_sem,R,S]) rfl ⟨_,rfl,H.out,F.out⟩
theorem Wh (W:World):WhoAt W 0 (.agg #[.bool false,.slice none 0 0]):=⟨[],_,rfl,cE.nil _ _,Nm.Good.nil _,rfl⟩
theorem aQ1 (w:World)(o p:Bool)(h i:Option Addr)(la n f d:Nat)(C:(o==p)=false)
  (k:∀W,Below w.heap.size w W->Calls prog 110 #[.slice h la f,.slice i n d] W fun e A=>e=.returned (.int .i64 0)/\Below W.heap.size W A):
  Calls prog 83 #[.agg #[.bool o,.slice h la f],.agg #[.bool p,.slice i n d]] w (bR w 0):=by
 have s:=hid k;clear k
 have u:¬(w.heap.size=w.heap.size+1+1):=by omega
 have x:¬(w.heap.size+1+1=w.heap.size):=by omega
 go_enter func83,ntmps83
 go_wp2_with fail
 refine(s.out _ (nB w _ _ _ _)).mono ?_;rintro e B⟨rfl,a⟩;have g:=a.size;rw[uC]at g;have b:=cP (by rw[uC];omega) (zT _ _ _ _ _) a;have l:=(nB w _ _ _ _).trans (a.mono (nB w _ _ _ _).size);have j:=Wh B;obtain⟨D,E,F,H,y,z,r,q⟩:=vB b j l (by omega);clear j l b;clear a
 go_wp2_with fail
 refine bodyPost_ret (v:=.agg #[.bool false,.slice none 0 0]) (by simp[results,results83,go_sem,y,z]) rfl ⟨_,rfl,r.out,q.out⟩
variable {a:LN}
theorem Gh {b:LN}(d:Nm.Good 4294967296 a)(e:Nm.Good 4294967296 b)(h:Nm.val 4294967296 a<=Nm.val 4294967296 b):a.length<=b.length:=by
 rcases lt_or_ge b.length a.length with h1|h1
 ·have:=Uf (by decide) e.eU d h1;omega
 ·exact h1
variable {x:Int}
theorem opp (b:¬decide (x<0)=decide (z<0)):(x<0/\0<=z)\/(0<=x/\z<0):=by
 by_cases a:x<0
 ·refine Or.inl ⟨a,?_⟩
  rcases lt_or_le z 0 with h|h
  ·exact absurd (by rw[decide_eq_true a,decide_eq_true h]) b
  ·exact h
 ·refine Or.inr ⟨by omega,?_⟩
  rcases lt_or_le z 0 with h|h
  ·exact h
  ·exact absurd (by rw[decide_eq_false a,decide_eq_false (by omega)]) b
theorem aJa (w:World)(x y:Int)(u v:Value)(n:Nat)(L:WhoAt w x u)(M:WhoAt w y v)(J:x.natAbs<2^n)(H:y.natAbs<2^n)(R:n<=1000000000):Calls prog 83 #[u,v] w (bR w (x+y)):=by
 obtain⟨a,F,C,rfl,s,g,hv⟩:=L.open;obtain⟨b,I,B,rfl,z,i,p⟩:=M.open;have P:=xN g hv J;have O:=xN i p H
 by_cases A:decide (x<0)=decide (y<0)
 ·refine aMo w _ _ _ _ _ _ _ _ (x+y) _ A (fun W d=>aEP W a b _ _ (s.below d) (z.below d) (by omega) (by omega) g.eU i.eU) ?_;rintro W E r⟨l,f⟩ o
  have e:(x<0)=(y<0):=by simpa using A
  by_cases q:x<0
  ·have:y<0:=by rw[<-e];exact q
   exact sJ o l (by rw[f,hv,p];omega) (by simp;omega)
  ·have:¬y<0:=by rw[<-e];exact q
   exact sJ o l (by rw[f,hv,p];omega) (by simp;omega)
 ·have j:(decide (x<0)==decide (y<0))=false:=by simpa using A
  have k:∀W,Below w.heap.size w W->Calls prog 110 #[.slice F a.length C,.slice I b.length B] W fun e N=>e=.returned (.int .i64 (Nm.cmp (Nm.val 4294967296 a) (Nm.val 4294967296 b)))/\Below W.heap.size W N:=fun W d=>Np W a b _ _ (s.below d) (z.below d) (by omega) g i
  have D:=opp A
  rcases Int.lt_trichotomy (Nm.val 4294967296 a) (Nm.val 4294967296 b)with h|h|h
  ·rw[iV h]at k;refine aQ3 w _ _ _ _ _ _ _ _ (x+y) _ j k (fun W d=>Lj W b a _ _ (z.below d) (s.below d) (by omega) (Gh g i (by omega)) i.eU g.eU (by omega)) ?_;rintro W E r⟨l,f⟩ o;rw[hv,p]at h f;exact sJ o l (by rw[f];omega) (by simp;omega)
  ·rw[iU h]at k;rw[hv,p]at h;rw[show x+y=0 by omega];exact aQ1 w _ _ _ _ _ _ _ _ j k
  ·rw[gX h]at k;refine aQ2 w _ _ _ _ _ _ _ _ (x+y) _ j k (fun W d=>Lj W a b _ _ (s.below d) (z.below d) (by omega) (Gh i g (by omega)) g.eU i.eU (by omega)) ?_;rintro W E r⟨l,f⟩ o;rw[hv,p]at h f;exact sJ o l (by rw[f];omega) (by simp;omega)
theorem Ov (w:World)(a:LN)(v:Value)(b:Lims w a v):Calls prog 107 #[v] w fun e l=>e=.returned (.bool (decide (a=[1])))/\l=w:=by
 obtain⟨n,j,rfl,i⟩:=b.shape
 by_cases f:a.length=1
 ·obtain⟨x,rfl⟩:∃x,a=[x]:=by
   match a,f with
   | [x],_=>exact⟨x,rfl⟩
  obtain⟨g,rfl,hc⟩:=b.place (by simp);have x1:=hc 0 (by simp);have k:Nm.at' [x] 0=x:=rfl;rw[k]at x1
  have d:decide ([x]=[(1:Int)])=(x==1):=by
   by_cases h:x=1
   ·subst h;rfl
   ·simp[h]
  rw[d];clear b hc;simp only[List.length_cons,List.length_nil,Nat.zero_add]
  go_enter func107,ntmps107
  go_wp2_with fail
  go_ret
  first|exact⟨rfl,rfl⟩|trace_state
 ·have d:decide (a=[(1:Int)])=false:=decide_eq_false (fun h=>f (by rw[h];rfl));rw[d]
  have o:((a.length:Int)==1)=false:=by
   rw[beq_eq_false_iff_ne];omega
  clear b
  go_enter func107,ntmps107
  go_wp2_with fail
  go_ret
  first|exact⟨rfl,rfl⟩|trace_state
theorem aJ6 (w:World)(i j:Bool)(g h:Option Addr)(la f b a:Nat)(z:Int)(P:List Int->Prop)(N:((la:Int)==0)=false)(O:((f:Int)==0)=false)
  (A:∀W,Below w.heap.size w W->Calls prog 107 #[.slice g la b] W fun e r=>e=.returned (.bool false)/\r=W)
  (B:∀W,Below w.heap.size w W->Calls prog 107 #[.slice h f a] W fun e r=>e=.returned (.bool false)/\r=W)
  (D:∀W,Below w.heap.size w W->Calls prog 108 #[.slice g la b,.slice h f a] W (cR W P))
  (E:∀W n v,P n->Lims W n v->WhoAt W z (.agg #[.bool (!(i==j)),v])):
  Calls prog 82 #[.agg #[.bool i,.slice g la b],.agg #[.bool j,.slice h f a]] w (bR w z):=by
 have s:=hid (A _ (nB w (.bool i) (.slice g la b) (.bool j) (.slice h f a)));have u:=hid (B _ (nB w (.bool i) (.slice g la b) (.bool j) (.slice h f a)));have x:=hid (D _ (nB w (.bool i) (.slice g la b) (.bool j) (.slice h f a)));have M:=hid E;clear D E A B
 go_enter func82,ntmps82
 go_wp2_with fail
 refine(s.out).mono ?_;rintro e w0⟨rfl,y⟩;have b0:=Lk w (.bool i) (.slice g la b) (.bool j) (.slice h f a);have b1:=Im w (.bool i) (.slice g la b) (.bool j) (.slice h f a);have b2:=zT w (.bool i) (.slice g la b) (.bool j) (.slice h f a);have o:=uC w (.bool i) (.slice g la b) (.bool j) (.slice h f a);have BB:=nB w (.bool i) (.slice g la b) (.bool j) (.slice h f a);have B2:=zT w (.bool i) (.slice g la b) (.bool j) (.slice h f a);rw[<-y]at b0 b1 b2 u x o BB B2;clear y s;obtain⟨x0,x1⟩:=kP b0 rfl rfl;obtain⟨x2,x3⟩:=kP b1 rfl rfl;obtain⟨T,U⟩:=Ei b2;obtain⟨X,q⟩:=kP b2 rfl rfl;clear b0 b1 b2;have BB:=hid BB;have B2:=hid B2
 go_wp2_with fail
 refine(u.out).mono ?_;rintro e Y⟨rfl,rfl⟩
 go_wp2_with fail
 refine(x.out).mono ?_;rintro e w1⟨v1,n,rfl,H,l,k⟩;have p:=k.size;rw[o]at p;obtain⟨o1,c1,rfl,_⟩:=l.shape;have d:=cP (by rw[o];omega) B2.out k;have C:=M.out _ n _ H (l.bO (zero_le _));have I:=BB.out.trans (k.mono BB.out.size);have F:=vA d C I (by omega);obtain⟨r0,r1⟩:=Ei d;clear x0 x1 x2 x3 T U X q;obtain⟨s0,s1⟩:=kP d rfl rfl;have R:=F.c0;have S:=F.c1;have L:=hid F.num;have J:=hid F.below;clear F C I d;clear k l H
 go_wp2_with fail
 refine bodyPost_ret (v:=.agg #[.bool (!(i==j)),.slice o1 n.length c1]) (by simp[results,results82,go_sem,R,S]) rfl ⟨_,rfl,L.out,J.out⟩
theorem aMr (w:World)(g h:Bool)(i f:Option Addr)(la d b a:Nat)(z:Int)(s:((la:Int)==0)=false)(u:((d:Int)==0)=false)
  (p:∀W,Below w.heap.size w W->Calls prog 107 #[.slice i la b] W fun e y=>e=.returned (.bool true)/\y=W)
  (j:∀W,Below w.heap.size w W->WhoAt W z (.agg #[.bool (!(g==h)),.slice f d a])):
  Calls prog 82 #[.agg #[.bool g,.slice i la b],.agg #[.bool h,.slice f d a]] w (bR w z):=by
 have n:=hid (p _ (nB w (.bool g) (.slice i la b) (.bool h) (.slice f d a)));have A:=hid j;have F:=vA (zT w (.bool g) (.slice i la b) (.bool h) (.slice f d a)) (j _ (nB w _ _ _ _)) (nB w _ _ _ _) (by omega);have q:=F.c0;have r:=F.c1;have l:=hid F.num;have k:=hid F.below;clear j p F
 go_enter func82,ntmps82
 go_wp2_with fail
 refine(n.out).mono ?_;rintro e E⟨rfl,o⟩;have b0:=Lk w (.bool g) (.slice i la b) (.bool h) (.slice f d a);have b1:=Im w (.bool g) (.slice i la b) (.bool h) (.slice f d a);have b2:=zT w (.bool g) (.slice i la b) (.bool h) (.slice f d a);rw[<-o]at b0 b1 b2 q r l k;clear o n;obtain⟨x0,x1⟩:=kP b0 rfl rfl;obtain⟨x2,x3⟩:=kP b1 rfl rfl;obtain⟨B,C⟩:=Ei b2;obtain⟨D,x⟩:=kP b2 rfl rfl;clear b0 b1 b2
 go_wp2_with fail
 refine bodyPost_ret (v:=.agg #[.bool (!(g==h)),.slice f d a]) (by simp[results,results82,go_sem,q,r]) rfl ⟨_,rfl,l.out,k.out⟩
theorem aMs (w:World)(g h:Bool)(d i:Option Addr)(la f a b:Nat)(z:Int)(y:((la:Int)==0)=false)(A:((f:Int)==0)=false)
  (q:∀W,Below w.heap.size w W->Calls prog 107 #[.slice d la a] W fun e j=>e=.returned (.bool false)/\j=W)
  (r:∀W,Below w.heap.size w W->Calls prog 107 #[.slice i f b] W fun e j=>e=.returned (.bool true)/\j=W)
  (s:∀W,Below w.heap.size w W->WhoAt W z (.agg #[.bool (!(g==h)),.slice d la a])):
  Calls prog 82 #[.agg #[.bool g,.slice d la a],.agg #[.bool h,.slice i f b]] w (bR w z):=by
 have n:=hid (q _ (nB w (.bool g) (.slice d la a) (.bool h) (.slice i f b)));have o:=hid (r _ (nB w (.bool g) (.slice d la a) (.bool h) (.slice i f b)));have F:=vA (zT w (.bool g) (.slice d la a) (.bool h) (.slice i f b)) (s _ (nB w _ _ _ _)) (nB w _ _ _ _) (by omega);have u:=F.c0;have x:=F.c1;have l:=hid F.num;have k:=hid F.below;clear s q r F
 go_enter func82,ntmps82
 go_wp2_with fail
 refine(n.out).mono ?_;rintro e I⟨rfl,p⟩;have b0:=Lk w (.bool g) (.slice d la a) (.bool h) (.slice i f b);have b1:=Im w (.bool g) (.slice d la a) (.bool h) (.slice i f b);have b2:=zT w (.bool g) (.slice d la a) (.bool h) (.slice i f b);rw[<-p]at b0 b1 b2 o u x l k;clear p n;obtain⟨x0,x1⟩:=kP b0 rfl rfl;obtain⟨x2,x3⟩:=kP b1 rfl rfl;obtain⟨D,E⟩:=Ei b2;obtain⟨H,B⟩:=kP b2 rfl rfl;clear b0 b1 b2
 go_wp2_with fail
 refine(o.out).mono ?_;rintro e C⟨rfl,rfl⟩
 go_wp2_with fail
 refine bodyPost_ret (v:=.agg #[.bool (!(g==h)),.slice d la a]) (by simp[results,results82,go_sem,u,x]) rfl ⟨_,rfl,l.out,k.out⟩
theorem aJ7 (w:World)(i j:Bool)(e f:Option Addr)(la d b a:Nat)(h:la=0\/(¬la=0/\d=0)):
  Calls prog 82 #[.agg #[.bool i,.slice e la b],.agg #[.bool j,.slice f d a]] w (bR w 0):=by
 rcases h with rfl|⟨g,rfl⟩
 ·go_enter func82,ntmps82
  go_wp2_with fail
  refine bodyPost_ret (v:=.agg #[.bool false,.slice none 0 0]) (by simp[results,results82,go_sem]) rfl ⟨_,rfl,Wh _,nB w _ _ _ _⟩
 ·have k:((la:Int)==0)=false:=by simpa using g
  go_enter func82,ntmps82
  go_wp2_with fail
  refine bodyPost_ret (v:=.agg #[.bool false,.slice none 0 0]) (by simp[results,results82,go_sem]) rfl ⟨_,rfl,Wh _,nB w _ _ _ _⟩
theorem aMq (w:World)(x y:Int)(u v:Value)(n:Nat)(P:WhoAt w x u)(R:WhoAt w y v)(N:x.natAbs<2^n)(L:y.natAbs<2^n)(hn:n<=1000000000):Calls prog 82 #[u,v] w (bR w (x*y)):=by
 obtain⟨a,T,O,rfl,o,C,hv⟩:=P.open;obtain⟨b,U,M,rfl,B,D,p⟩:=R.open;have Y:=xN C hv N;have X:=xN D p L;have I:=Pe C hv;have J:=Pe D p
 by_cases z:a.length=0\/(¬a.length=0/\b.length=0)
 ·have e:x*y=0:=by
   rcases z with h|⟨_,h⟩
   ·rw[I.1 (List.eq_nil_of_length_eq_zero h),zero_mul]
   ·rw[J.1 (List.eq_nil_of_length_eq_zero h),Int.mul_zero]
  rw[e];exact aJ7 w _ _ _ _ _ _ _ _ z
 ·have l:¬a.length=0:=fun h=>z (Or.inl h)
  have A:¬b.length=0:=fun h=>z (Or.inr ⟨l,h⟩)
  have H:x≠0:=fun h=>l (by rw[I.2 h];rfl)
  have q:y≠0:=fun h=>A (by rw[J.2 h];rfl)
  have sg:(!(decide (x<0)==decide (y<0)))=decide (x*y<0):=by
   rcases Int.lt_or_gt_of_ne H with hx1|hx1
   ·rcases Int.lt_or_gt_of_ne q with hy1|hy1
    ·have:=Int.mul_pos_of_neg_of_neg hx1 hy1;simp[hx1,hy1];omega
    ·have:=Int.mul_neg_of_neg_of_pos hx1 hy1;simp[hx1,show¬y<0 by omega];omega
   ·rcases Int.lt_or_gt_of_ne q with hy1|hy1
    ·have:=Int.mul_neg_of_pos_of_neg hx1 hy1;simp[hy1,show¬x<0 by omega];omega
    ·have:=Int.mul_pos hx1 hy1;simp[show¬y<0 by omega,show¬x<0 by omega];omega
  have k:∀W (s:LN) r,Nm.Good 4294967296 s->Nm.val 4294967296 s=((x*y).natAbs:Int)->Lims W s r->WhoAt W (x*y) (.agg #[.bool (!(decide (x<0)==decide (y<0))),r]):=fun W s r f g F=>sJ F f g sg
  by_cases i:a=[1]
  ·have hx1:(x.natAbs:Int)=1:=by rw[<-hv,i];rfl
   exact aMr w _ _ _ _ _ _ _ _ (x*y) (by simpa using l) (by simpa using A) (fun W d=>(Ov W a _ (o.below d)).mono fun e E ⟨f,g⟩=>⟨by rw[f,decide_eq_true i],g⟩) fun W d=>k W b _ D (by rw[p,Int.natAbs_mul];simp[show x.natAbs=1 by omega]) (B.below d)
  ·by_cases j:b=[1]
   ·have hy1:(y.natAbs:Int)=1:=by rw[<-p,j];rfl
    exact aMs w _ _ _ _ _ _ _ _ (x*y) (by simpa using l) (by simpa using A) (fun W d=>(Ov W a _ (o.below d)).mono fun e E ⟨f,g⟩=>⟨by rw[f,decide_eq_false i],g⟩) (fun W d=>(Ov W b _ (B.below d)).mono fun e E ⟨f,g⟩=>⟨by rw[f,decide_eq_true j],g⟩) fun W d=>k W a _ C (by rw[hv,Int.natAbs_mul];simp[show y.natAbs=1 by omega]) (o.below d)
   ·refine aJ6 w _ _ _ _ _ _ _ _ (x*y) _ (by simpa using l) (by simpa using A) (fun W d=>(Ov W a _ (o.below d)).mono fun e E ⟨f,g⟩=>⟨by rw[f,decide_eq_false i],g⟩) (fun W d=>(Ov W b _ (B.below d)).mono fun e E ⟨f,g⟩=>⟨by rw[f,decide_eq_false j],g⟩) (fun W d=>Yx W a b _ _ (o.below d) (B.below d) (by omega) (by omega) C.eU D.eU) ?_;rintro W S r⟨f,g⟩ F;exact k W S r f (by rw[g,hv,p,Int.natAbs_mul];simp) F
theorem aJ5 (w:World)(B C:Bool)(l q:Option Addr)(la A g f:Nat)(y z:Int)
  (D:∀W,Below w.heap.size w W->Calls prog 97 #[.agg #[.bool C,.slice q A f]] W (bR W y))
  (E:∀W v,Below w.heap.size w W->WhoAt W y v->Calls prog 83 #[.agg #[.bool B,.slice l la g],v] W (bR W z)):
  Calls prog 85 #[.agg #[.bool B,.slice l la g],.agg #[.bool C,.slice q A f]] w (bR w z):=by
 have J:=hid D;have L:=hid E;clear D E
 have P:¬(w.heap.size=w.heap.size+1+1):=by omega
 have R:¬(w.heap.size+1+1=w.heap.size):=by omega
 go_enter func85,ntmps85
 go_wp2_with fail
 go_region_held3 (fun k=>k.cell? ⟨w.heap.size,0,none⟩=some (.bool B)/\k.cell? ⟨w.heap.size,1,none⟩=some (.slice l la g)/\k.cell? ⟨w.heap.size+1,0,none⟩=some (.bool C)/\k.cell? ⟨w.heap.size+1,1,none⟩=some (.slice q A f)) (go_keep) (first
  | (go_at_call 97
     refine(J.out _ (Lo w _ _ _ _)).mono ?_;rintro e U⟨v1,rfl,i,a⟩;have x:=a.size;rw[zU]at x;have b2:=cP (by rw[zU];omega) (aGM _ _ _ _ _) a;have x0:=bH (o:=0) (cP (by rw[zU];omega) (Ol _ _ _ _ _) a) rfl;have x1:=bH (o:=1) (cP (by rw[zU];omega) (Ol _ _ _ _ _) a) rfl;have x2:=bH (o:=0) (cP (by rw[zU];omega) (Um _ _ _ _ _) a) rfl;have x3:=bH (o:=1) (cP (by rw[zU];omega) (Um _ _ _ _ _) a) rfl
     have M:w.heap.size+1<U.heap.size:=by omega
     have j:=hid ((Lo w _ _ _ _).trans (a.mono (Lo w _ _ _ _).size))
     clear a)
  | (go_at_call 83
     refine(L.out _ _ j.out i).mono ?_;rintro e w2⟨r,rfl,u,b⟩;have F:=j.out.trans (b.mono j.out.size);have d:=cP (by omega) b2 b;have N:=b.size;have y0:=(b.cell (p:=⟨w.heap.size,0,none⟩) (by simp only;omega)).trans x0;have y1:=(b.cell (p:=⟨w.heap.size,1,none⟩) (by simp only;omega)).trans x1;have y2:=(b.cell (p:=⟨w.heap.size+1,0,none⟩) (by simp only;omega)).trans x2;have y3:=(b.cell (p:=⟨w.heap.size+1,1,none⟩) (by simp only;omega)).trans x3;obtain⟨s,n,h,rfl,_⟩:=u.open;obtain⟨X,Y,s0,s1,S,T,I,H⟩:=vB d u F (by omega);clear u F d;clear b b2 j i
     generalize decide (z<0)=O at *))
 all_goals
  go_wp2_with fail
  refine bodyPost_ret (v:=.agg #[.bool O,.slice n s.length h]) (by simp[results,results85,go_sem,S,T]) rfl ⟨_,rfl,I.out,H.out⟩
theorem aMm (w:World)(x y:Int)(u v:Value)(n:Nat)(e:WhoAt w x u)(f:WhoAt w y v)(h:x.natAbs<2^n)(o:y.natAbs<2^n)(j:n<=1000000000):Calls prog 85 #[u,v] w (bR w (x-y)):=by
 obtain⟨a,l,i,rfl,_⟩:=e.open;obtain⟨b,p,g,rfl,_⟩:=f.open;exact aJ5 w _ _ _ _ _ _ _ _ (-y) (x-y) (fun W d=>aLo W y _ (f.below d)) (fun W r d k=>aJa W x (-y) _ _ n (e.below d) k h (by rwa[Int.natAbs_neg]) j)
theorem aI7 (w:World)(x y:Int)(u v:Value)(n:Nat)(D:WhoAt w x u)(E:WhoAt w y v)(C:x.natAbs<2^n)(B:y.natAbs<2^n)(R:n<=1000000000):Calls prog 87 #[u,v] w fun e M=>e=.returned (.int .i64 (Nm.cmp x y))/\Below w.heap.size w M:=by
 obtain⟨a,O,I,rfl,s,l,hv⟩:=D.open;obtain⟨b,P,H,rfl,z,p,A⟩:=E.open;have L:=xN l hv C;have J:=xN p A B
 have k:∀o F,Below w.heap.size w ((w.alloc o).alloc F):=fun o F=>aW (aW (Below.refl _ _) (Nat.le_refl _) _) (by simp) _
 have q:=hid (fun W j=>Np W a b _ _ (s.below j) (z.below j) (by omega) l p);have r:=hid (fun W j=>Np W b a _ _ (z.below j) (s.below j) (by omega) p l);rw[hv,A]at q r;have d:=hid k;clear s z l p hv A D E C B k L J
 by_cases g:x<0
 ·by_cases f:y<0
  ·have e:Nm.cmp ((y.natAbs:Nat):Int) ((x.natAbs:Nat):Int)=Nm.cmp x y:=by
    rcases Int.lt_trichotomy x y with h|h|h
    ·rw[iV h,iV (by omega)]
    ·rw[iU h,iU (by omega)]
    ·rw[gX h,gX (by omega)]
   rw[e]at r;rw[decide_eq_true g,decide_eq_true f];clear e;generalize Nm.cmp x y=c at*
   go_enter func87,ntmps87
   go_wp2_with fail
   refine(r.out _ (d.out _ _)).mono ?_;rintro e N⟨rfl,i⟩
   go_wp2_with fail
   go_ret
   exact⟨rfl,(d.out _ _).trans (i.mono (d.out _ _).size)⟩
  ·rw[decide_eq_true g,decide_eq_false f,iV (show x<y by omega)]
   go_enter func87,ntmps87
   go_wp2_with fail
   go_ret
   exact⟨rfl,d.out _ _⟩
 ·by_cases f:y<0
  ·rw[decide_eq_false g,decide_eq_true f,gX (show y<x by omega)]
   go_enter func87,ntmps87
   go_wp2_with fail
   go_ret
   exact⟨rfl,d.out _ _⟩
  ·rw[show((x.natAbs:Nat):Int)=x by omega,show((y.natAbs:Nat):Int)=y by omega]at q;rw[decide_eq_false g,decide_eq_false f];generalize Nm.cmp x y=c at*
   go_enter func87,ntmps87
   go_wp2_with fail
   refine(q.out _ (d.out _ _)).mono ?_;rintro e N⟨rfl,i⟩
   go_wp2_with fail
   go_ret
   exact⟨rfl,(d.out _ _).trans (i.mono (d.out _ _).size)⟩
def Nm.dn (a:LN)(b p t:Nat):Int:=((Nm.at' a (t+b)+Nm.at' a (t+b+1)*4294967296)/2^p)%4294967296
theorem Nm.aUL:∀{a b:LN},a.length=b.length->(∀t,t<a.length->Nm.at' a t=Nm.at' b t)->a=b:=by
 intro a b f h;refine List.ext_getElem f ?_;intro t d e;have:=h t d;unfold Nm.at' at this;rw[List.getD_eq_getElem?_getD,List.getD_eq_getElem?_getD,List.getElem?_eq_getElem d,List.getElem?_eq_getElem e]at this;exact this
theorem Nm.aMB (a:LN)(n t:Nat):Nm.at' (a.drop n) t=Nm.at' a (t+n):=by
 unfold Nm.at';simp[List.getD,List.getElem?_drop,Nat.add_comm]
def Nm.dl (p:Nat):List Int->List Int
 | []=>[]
 |x::r=>((x+Nm.at' r 0*4294967296)/2^p)%4294967296::Nm.dl p r
theorem Nm.aVx (p:Nat):∀l,(Nm.dl p l).length=l.length:=by
 intro l
 induction l with
 |nil=>rfl
 |cons x r a=>simp[Nm.dl,a]
theorem Nm.aWX (p:Nat):∀l t,t<l.length->Nm.at' (Nm.dl p l) t=((Nm.at' l t+Nm.at' l (t+1)*4294967296)/2^p)%4294967296:=by
 intro l
 induction l with
 |nil=>intro t h;simp at h
 |cons x r a=>
  intro t h
  cases t with
  |zero=>rfl
  |succ t=>exact a t (by simpa using h)
theorem Nm.aOE (b:dE 4294967296 s):∃a,Nm.val 4294967296 s=Nm.at' s 0+4294967296*a:=by
 cases s with
 |nil=>exact⟨0,rfl⟩
 |cons x r=>exact⟨Nm.val 4294967296 r,rfl⟩
theorem Nm.aSD {r y u:Int}(e:0<y)(s:0<u)(a:y*u=4294967296)(x0:0<=x)(x1:x<4294967296):
  (x+z*4294967296)/y%4294967296+4294967296*((z+4294967296*r)/y)=(x+4294967296*(z+4294967296*r))/y:=by
 have i:(x+z*4294967296)/y=x/y+u*z:=by
  rw[show z*4294967296=(u*z)*y by rw[<-a];grind,Int.add_mul_ediv_right _ _ (by omega)]
 have j:(x+4294967296*(z+4294967296*r))/y=x/y+u*(z+4294967296*r):=by
  rw[show 4294967296*(z+4294967296*r)=(u*(z+4294967296*r))*y by rw[<-a];grind,Int.add_mul_ediv_right _ _ (by omega)]
 have k:(z+4294967296*r)/y=z/y+u*r:=by
  rw[show 4294967296*r=(u*r)*y by rw[<-a];grind,Int.add_mul_ediv_right _ _ (by omega)]
 rw[i,j,k];have d:=Int.emod_add_mul_ediv z y;have n:=Int.emod_nonneg z (show y≠0 by omega);have p:=Int.emod_lt_of_pos z e;have b:0<=x/y:=ediv_nonneg x0 (by omega);have o:x/y<u:=Int.ediv_lt_of_lt_mul e (by rw[mul_comm,a];exact x1);generalize z%y=h at*;generalize z/y=g at*;generalize x/y=q at*
 have l:(q+u*z)%4294967296=q+u*h:=by
  have:q+u*z=(q+u*h)+g*4294967296:=by rw[<-d,<-a];grind
  rw[this,Int.add_mul_emod_self_right];refine Int.emod_eq_of_lt (Int.add_nonneg b (mul_nonneg (by omega) n)) ?_;have:u*(h+1)<=u*y:=Int.mul_le_mul_of_nonneg_left (by omega) (by omega);rw[mul_comm u y,a,Int.mul_add,Int.mul_one]at this;omega
 rw[l,<-d];grind
variable {p:Nat}
theorem Nm.aVy (o:p<32):∀l,dE 4294967296 l->Nm.val 4294967296 (Nm.dl p l)=Nm.val 4294967296 l/2^p:=by
 have e:(0:Int)<2^p:=jZ (by decide) p;have f:(0:Int)<2^(32-p):=jZ (by decide) _
 have i:(2:Int)^p*2^(32-p)=4294967296:=by rw[<-pow_add,show p+(32-p)=32 by omega];rfl
 intro l
 induction l with
 |nil=>intro _;simp[Nm.dl,Nm.val]
 |cons x r k=>
  intro h
  have a:dE 4294967296 r:=fun d j=>h d (List.mem_cons_of_mem _ j)
  have b:=h x List.mem_cons_self;obtain⟨n,g⟩:=Nm.aOE a;rw[Nm.dl,Nm.val,k a,Nm.val,g];exact Nm.aSD e f i b.1 b.2
theorem Nm.aI6 (a:0<v)(l:LN)(h:dE v l)(n:Nat):Nm.val v (l.drop n)=Nm.val v l/v^n:=by
 have i:=jZ a n
 by_cases f:n<=l.length
 ·have e:Nm.val v l=Nm.val v (l.take n)+Nm.val v (l.drop n)*v^n:=by
   conv=>lhs;rw[<-List.take_append_drop n l,Nm.Ue,length_take,min_eq_left f]
   rw[mul_comm]
  have b:=rS a (h.take n);have d:=xU a (h.take n);rw[length_take,min_eq_left f]at d;rw[e,Int.add_mul_ediv_right _ _ (by omega),Int.ediv_eq_zero_of_lt b d];omega
 ·rw[List.drop_eq_nil_of_le (by omega)];have b:=rS a h;have d:=xU a h;have g:=uB (B:=v) (by omega) (show l.length<=n by omega);rw[Int.ediv_eq_zero_of_lt b (by omega)];rfl
theorem Nm.aPC {out:LN}(j:p<32)(f:dE 4294967296 a)(i:out.length=a.length-w)(h:∀t,t<a.length-w->Nm.at' out t=Nm.dn a w p t):Nm.val 4294967296 out=Nm.val 4294967296 a/2^(32*w+p):=by
 have e:out=Nm.dl p (a.drop w):=by
  refine Nm.aUL (by rw[Nm.aVx,List.length_drop];exact i) ?_;intro t k;rw[Nm.aWX p _ t (by rw[List.length_drop];omega),h t (by omega),Nm.aMB,Nm.aMB];unfold Nm.dn;rw[show t+1+w=t+w+1 by omega]
 have b:dE 4294967296 (a.drop w):=fun d g=>f d (List.mem_of_mem_drop g)
 rw[e,Nm.aVy j _ b,Nm.aI6 (by decide) a f,pow_add,pow_mul,show(2:Int)^32=4294967296 from rfl,Int.ediv_ediv_of_nonneg (le_of_lt (jZ (by decide) _))]
def vY (w:World)(a:LN)(b p:Nat)(i:Value)(wr:World):Prop:=
 ∃(k:Nat) (out:LN),i=.int .i64 k/\k<=a.length-b/\dR wr w.heap.size out/\out.length=a.length-b/\dE 4294967296 out/\Below w.heap.size w wr/\∀t,t<k->Nm.at' out t=Nm.dn a b p t
theorem aGe (w:World)(a:LN)(L:Option Addr)(z b p:Nat)(O:Lims w a (.slice L a.length z))(U:a.length<=10000000000)(N:dE 4294967296 a)(hp:p<32)(ad:b<a.length)(bits:Int)(W:bits=32*b+p):
  Calls prog 147 #[.slice L a.length z,.int .i64 bits] w (cR w fun H=>Nm.Good 4294967296 H/\Nm.val 4294967296 H=Nm.val 4294967296 a/2^(32*b+p)):=by
 have D:=run_make_row' (P:=prog) 54 81 (.int .u32 0) 4 underlying54 kR rfl .i64 .i64 (a.length-b) (by omega) (by omega);rw[show((a.length-b:Nat):Int)=(a.length:Int)-b by omega]at D;have C:=hid O;have A:=hid N
 have e1:bits/32=b:=by omega
 have e2:bits%32=p:=by omega
 have e3:¬bits<0:=by omega
 have e4:¬(a.length:Int)<=b:=by omega
 have e5:0<=bits:=by omega
 have e6:bits<=400000000000:=by omega
 clear O N W
 go_enter func147,ntmps147
 go_wp2_with fail
 go_loopw [8] (fun i wr=>vY w a b p i wr) (fun i _=>a.length-b-(intOf i).toNat)
 case atStart=>exact⟨0,List.replicate (a.length-b) 0,rfl,zero_le _,dR.made w _,by simp,dE.mB (by decide) _,aW (Below.refl _ _) (Nat.le_refl _) _,fun t h=>by omega⟩
 case round=>
  obtain⟨k,out,rfl,hk,d,f,l,j,q⟩:=hrel;obtain⟨g,rfl,_⟩:=C.out.place (by omega)
  by_cases Y:(k:Int)<(a.length:Int)-b
  ·have k1:=d.cell k (by omega);have k2:=d.frozen k;have x1:=(C.out.below j).oB (k+b) (by omega)
   have i1:(k:Int)+b<(a.length:Int):=by omega
   have i0:(0:Int)<=(k:Int)+b:=by omega
   have i2:((k:Int)+b).toNat=k+b:=by omega
   have a0:=A.out.at' (by decide) (k+b);have b0:=A.out.at' (by decide) (k+b+1)
   have v:Hid (∀X,X=Nm.dn a b p k->vY w a b p (.int .i64 ((k:Int)+1)) (wr.setCell ⟨w.heap.size,k,none⟩ (.int .u32 X))):=by
    rintro X rfl;refine⟨k+1,out.set k (Nm.dn a b p k),by simp,by omega,d.set _ _,by simpa using f,l.set _ (by unfold Nm.dn;omega) (by unfold Nm.dn;omega),j.setCell (by simp) _,?_⟩;intro t ht
    by_cases F:t=k
    ·subst F;unfold Nm.at';simp[List.getD,show t<out.length by omega]
    ·rw[Nm.Om (by omega)];exact q t (by omega)
   have r:Hid (Nm.dn a b p k=((Nm.at' a (k+b)+Nm.at' a (k+b+1)*4294967296)/2^p)%4294967296):=rfl
   by_cases hl:(k:Int)+b+1<a.length
   ·have x2:=(C.out.below j).oB (k+b+1) (by omega)
    have i3:((k:Int)+b+1).toNat=k+b+1:=by omega
    clear d f l j q;generalize Nm.at' a (k+b)=x at*;generalize Nm.at' a (k+b+1)=y at*;generalize Nm.at' out k=o at*;obtain⟨a1,T⟩:=a0;obtain⟨b1,b2⟩:=b0
    go_wp2_with fail
    go_roundw
    case rel=>exact v.out _ r.out.symm
    case measure=>simp[intOf];omega
   ·have M:=Fz (xs:=a) (i:=k+b+1) (by omega);rw[M]at r
    have u:Hid (Nm.dn a b p k=Nm.at' a (k+b)/2^p%4294967296):=by show _=_;rw[r.out,zero_mul,Int.add_zero]
    clear d f l j q M b0 r;generalize Nm.at' a (k+b)=x at*;generalize Nm.at' out k=o at*;obtain⟨a1,T⟩:=a0
    go_wp2_with fail
    go_roundw
    case rel=>exact v.out _ u.out.symm
    case measure=>simp[intOf];omega
  ·obtain rfl:k=a.length-b:=by omega
   have S:=hid (Nm.aPC hp A.out f q);have J:=hid (Cm wr out _ 0 (d.rA (by omega)) (by omega));rw[f]at J;have E:=xI out;rw[f]at E;have I:=hid (d.used (B:=w.heap.size) (by omega) (Nat.le_refl _));rw[f]at I;have R:=hid l;have s:=hid j;clear q f l j d;generalize hn:(Nm.strip out).length=n at*;clear hn
   go_wp2_with fail
   refine(J.out).mono ?_;rintro e w1⟨rfl,rfl⟩
   go_wp2_with fail
   go_ret
   exact⟨_,Nm.strip out,rfl,⟨Cq R.out,by rw[Cn,S.out]⟩,I.out,s.out⟩
theorem aGf (w:World)(n:Nat)(b:Option Addr)(a:Nat)(bits:Int)(f:0<=bits)(g:bits<=1000000000000)(h:(n:Int)<=bits/32):
  Calls prog 147 #[.slice b n a,.int .i64 bits] w (cR w fun d=>d=[]):=by
 have e:¬bits<0:=by omega
 go_enter func147,ntmps147
 go_wp2_with fail
 go_ret
 exact⟨_,[],rfl,rfl,⟨rfl,Or.inr ⟨w.heap.size,0,#[],rfl,Nat.le_refl _,vN _ _,Nat.le_refl _,by decide,rfl,rfl⟩⟩,aW (Below.refl _ _) (Nat.le_refl _) _⟩
theorem aEd (w:World)(a:LN)(v:Value)(bits:Nat)(j:Lims w a v)(f:a.length<=10000000000)(d:dE 4294967296 a)(o:bits<=1000000000000):
  Calls prog 147 #[v,.int .i64 bits] w (cR w fun g=>Nm.Good 4294967296 g/\Nm.val 4294967296 g=Nm.val 4294967296 a/2^bits):=by
 obtain⟨i,b,rfl,_⟩:=j.shape
 by_cases h:bits/32<a.length
 ·have:=aGe w a i b (bits/32) (bits%32) j f d (by omega) h bits (by omega);rw[show 32*(bits/32)+bits%32=bits by omega]at this;exact this
 ·refine(aGf w a.length i b bits (by omega) (by omega) (by omega)).mono ?_;rintro e r⟨v,g,rfl,rfl,l,n⟩;refine⟨v,[],rfl,⟨Nm.Good.nil _,?_⟩,l,n⟩;have k:=rS (by decide) d;have p:=xU (by decide) d
  have q:(4294967296:Int)^a.length<=2^bits:=by
   rw[show(4294967296:Int)=2^32 from rfl,<-pow_mul];exact uB (by decide) (by omega)
  rw[Int.ediv_eq_zero_of_lt k (by omega)];rfl
def Nm.half (z:Int)(n:Nat):Int:=if z<0 then -((z.natAbs:Int)/2^n)else(z.natAbs:Int)/2^n
theorem aJv (w:World)(l:Bool)(p:Option Addr)(la f:Nat)(z:Int)(P:List Int->Prop)(times:Int)(R:1<=times)
  (A:∀W,Below w.heap.size w W->Calls prog 147 #[.slice p la f,.int .i64 times] W (cR W P))
  (B:∀W h v,P h->Lims W h v->WhoAt W z (.agg #[.bool (l&&decide (0<h.length)),v])):
  Calls prog 168 #[.agg #[.bool l,.slice p la f],.int .i64 times] w (bR w z):=by
 have L:=hid A;have M:=hid B;have i:Below w.heap.size w ((w.alloc (.cells #[.bool l,.slice p la f] 56)).alloc (.cells #[.bool false,.slice none 0 0] 56)):=aW (aW (Below.refl _ _) (Nat.le_refl _) _) (by simp) _;have J:=hid (L.out _ i);have n:=hid i
 have O:¬times<1:=by omega
 clear A B i
 go_enter func168,ntmps168
 go_wp2_with fail
 refine(J.out).mono ?_;rintro e I⟨S,h,rfl,x,g,b⟩;have y:=b.size;rw[World.size_alloc,World.size_alloc]at y;obtain⟨o1,c1,rfl,_⟩:=g.shape
 have a:I.heap[w.heap.size+1]?=some (.cells #[.bool false,.slice none 0 0] 56 (0,0)):=by
  have:=cP (by simp) (vN (w.alloc (.cells #[.bool l,.slice p la f] 56)) (.cells #[.bool false,.slice none 0 0] 56)) b;rw[World.size_alloc]at this;exact this
 have b0:I.heap[w.heap.size]?=some (.cells #[.bool l,.slice p la f] 56 (0,0)):=cP (by rw[World.size_alloc,World.size_alloc];omega) (xK _ (vN w _)) b;have x0:=bH (o:=0) b0 rfl;have q:=M.out _ h _ x (g.bO (zero_le _));have r:=n.out.trans (b.mono n.out.size);clear b0;cases l
 ·have F:=vA a q r (by omega);rw[Bool.false_and]at F;obtain⟨C,D⟩:=Ei a;obtain⟨E,H⟩:=kP a rfl rfl;have s:=F.c0;have u:=F.c1;have k:=hid F.num;have j:=hid F.below;clear F q r a b g x
  go_wp2_with fail
  refine bodyPost_ret (v:=.agg #[.bool false,.slice o1 h.length c1]) (by simp[results,results168,go_sem,s,u]) rfl ⟨_,rfl,k.out,j.out⟩
 ·have F:=vA a q r (by omega)
  by_cases N:(0:Int)<h.length
  ·rw[decide_eq_true (show 0<h.length by omega),Bool.true_and]at F;obtain⟨C,D⟩:=Ei a;obtain⟨E,H⟩:=kP a rfl rfl;have s:=F.c0;have u:=F.c1;have k:=hid F.num;have j:=hid F.below
   have d:0<h.length:=by omega
   clear F q r a b g x
   go_wp2_with fail
   refine bodyPost_ret (v:=.agg #[.bool true,.slice o1 h.length c1]) (by simp[results,results168,go_sem,s,u,d]) rfl ⟨_,rfl,?_,?_⟩
   ·first|exact k.out|simpa[d]using k.out
   ·first|exact j.out|simpa[d]using j.out
  ·have d:h.length=0:=by omega
   rw[d]at F;rw[d];obtain⟨C,D⟩:=Ei a;obtain⟨E,H⟩:=kP a rfl rfl;rw[show(true&&decide (0<0))=false from rfl]at F;have s:=F.c0;have u:=F.c1;have k:=hid F.num;have j:=hid F.below;clear F q r a b g x N
   go_wp2_with fail
   refine bodyPost_ret (v:=.agg #[.bool false,.slice o1 0 c1]) (by simp[results,results168,go_sem,s,u]) rfl ⟨_,rfl,k.out,j.out⟩
theorem aLK (w:World)(z:Int)(v:Value)(times n:Nat)(h:WhoAt w z v)(l:z.natAbs<2^n)(B:n<=1000000000)(D:1<=times)(x:times<=1000000000):Calls prog 168 #[v,.int .i64 times] w (bR w (Nm.half z times)):=by
 obtain⟨o,k,d,rfl,p,j,hv⟩:=h.open;have A:=xN j hv l;refine aJv w _ k _ d _ _ times (by omega) (fun W q=>aEd W o _ times (p.below q) (by omega) j.eU (by omega)) ?_;rintro W y r⟨i,g⟩ u;rw[hv]at g;have C:0<=((z.natAbs:Nat):Int)/2^times:=ediv_nonneg (by omega) (le_of_lt (jZ (by decide) _));have f:=Fx (by decide) i;rw[g]at f;refine sJ u i (by rw[g];unfold Nm.half;split<;>omega) ?_;unfold Nm.half
 by_cases b:z<0
 ·rw[if_pos b,decide_eq_true b,Bool.true_and]
  by_cases a:y=[]
  ·have:=f.2 a;rw[a,this];rfl
  ·have s:=List.length_pos_iff.2 a
   have:((z.natAbs:Nat):Int)/2^times≠0:=fun e=>a (f.1 e)
   rw[decide_eq_true s,decide_eq_true (by omega)]
 ·rw[if_neg b,decide_eq_false b,Bool.false_and,decide_eq_false (by omega)]
theorem Nm.aHa:∀(l:LN) (k:Nat),(∀t,t<k->Nm.at' l t=0)->Nm.val 4294967296 l=4294967296^k*Nm.val 4294967296 (l.drop k):=by
 intro l k
 induction k generalizing l with
 |zero=>intro _;simp
 |succ k b=>
  intro h
  cases l with
  |nil=>simp[Nm.val]
  |cons x r=>
   have a:x=0:=h 0 (by omega);have:=b r (fun t d=>h (t+1) (by omega));rw[List.drop_succ_cons,Nm.val,this,a,pow_succ];grind
theorem Nm.aQQ {c:Nat}{L:Int}(e:k<s.length)(h:∀t,t<k->Nm.at' s t=0)(a:1<=L)(j:Nm.at' s k<4294967296)(d:Nm.at' s k=L*2^c):(2:Int)^(32*k+c) ∣ Nm.val 4294967296 s:=by
 have hc:c<32:=by
  rcases lt_or_ge c 32 with h1|h1
  ·exact h1
  ·have f:(2:Int)^32<=2^c:=uB (by decide) h1;have g:1*(2:Int)^c<=L*2^c:=Int.mul_le_mul_of_nonneg_right a (le_of_lt (jZ (by decide) _));have i:(2:Int)^32=4294967296:=rfl;omega
 have b:(4294967296:Int)=2^c*2^(32-c):=by rw[<-pow_add,show c+(32-c)=32 by omega];rfl
 rw[Nm.aHa s k h,Lu _ s k e,d,pow_add,pow_mul,show(2:Int)^32=4294967296 from rfl];refine Int.mul_dvd_mul (Int.dvd_refl _) ?_;refine Int.dvd_add ⟨L,by rw[mul_comm]⟩ ⟨2^(32-c)*Nm.val 4294967296 (s.drop (k+1)),?_⟩;rw[<-mul_assoc,<-b]
noncomputable def Nm.tz (z:Int):Nat:=open Classical in if h:∃t:Nat,(2:Int)^t ∣ z/\¬(2:Int)^(t+1) ∣ z then h.choose else 0
theorem Nm.aTT {t:Nat}(e:(2:Int)^t ∣ v)(f:¬(2:Int)^(t+1) ∣ v):Nm.tz v=t:=by
 have h:∃t:Nat,(2:Int)^t ∣ v/\¬(2:Int)^(t+1) ∣ v:=⟨t,e,f⟩
 unfold Nm.tz;rw[dif_pos h];obtain⟨g,i⟩:=h.choose_spec;generalize h.choose=s at*
 have d:∀{a b:Nat},a<b->(2:Int)^b ∣ v->(2:Int)^(a+1) ∣ v:=fun {a b} j k=>Int.dvd_trans ⟨2^(b-(a+1)),by rw[<-pow_add];congr 1;omega⟩ k
 rcases Nat.lt_trichotomy s t with h|h|h
 ·exact absurd (d h e) i
 ·exact h
 ·exact absurd (d h g) f
theorem Nm.aTU:Nm.tz 0=0:=by
 unfold Nm.tz;rw[dif_neg];rintro⟨t,_,h⟩;exact h (Int.dvd_zero _)
theorem Nm.aRW (z:Int):(2:Int)^Nm.tz z ∣ z:=by
 unfold Nm.tz;split
 ·rename_i h;exact h.choose_spec.1
 ·simp
theorem Nm.aXE (d:v≠0)(h:v.natAbs<2^w):Nm.tz v<w:=by
 have a:((2:Int)^Nm.tz v).natAbs<=v.natAbs:=Nat.le_of_dvd (by omega) (Int.natAbs_dvd_natAbs.2 (Nm.aRW v));rw[Int.natAbs_pow]at a
 have b:2^Nm.tz v<2^w:=by
  have:(2:Int).natAbs=2:=rfl;rw[this]at a;omega
 exact(Nat.pow_lt_pow_iff_right (by decide)).1 b
theorem Nm.aQR {c:Nat}{L:Int}(f:k<s.length)(h:∀t,t<k->Nm.at' s t=0)(b:1<=L)(p:¬L%2=0)(r:Nm.at' s k<4294967296)(e:Nm.at' s k=L*2^c):¬(2:Int)^(32*k+c+1) ∣ Nm.val 4294967296 s:=by
 have hc:c<32:=by
  rcases lt_or_ge c 32 with h1|h1
  ·exact h1
  ·have j:(2:Int)^32<=2^c:=uB (by decide) h1;have n:1*(2:Int)^c<=L*2^c:=Int.mul_le_mul_of_nonneg_right b (le_of_lt (jZ (by decide) _));have o:(2:Int)^32=4294967296:=rfl;omega
 have d:(4294967296:Int)=2^c*(2*2^(31-c)):=by rw[mul_comm 2,<-pow_succ,<-pow_add,show c+(31-c+1)=32 by omega];rfl
 rw[Nm.aHa s k h,Lu _ s k f,e];generalize Nm.val 4294967296 (s.drop (k+1))=R
 have a:(4294967296:Int)^k*(L*2^c+4294967296*R)=2^(32*k+c)*(L+2*(2^(31-c)*R)):=by
  rw[pow_add,pow_mul,show(2:Int)^32=4294967296 from rfl]
  have:(4294967296:Int)*R=2^c*(2*(2^(31-c)*R)):=by
   calc (4294967296:Int)*R=(2^c*(2*2^(31-c)))*R:=by rw[<-d]
    _=2^c*(2*(2^(31-c)*R)):=by simp only[mul_assoc]
  rw[this];grind
 rw[a,pow_succ];rintro⟨q,i⟩
 have g:(2:Int)^(32*k+c)≠0:=by have:=jZ (B:=2) (by decide) (32*k+c);omega
 have:L+2*(2^(31-c)*R)=2*q:=Int.eq_of_mul_eq_mul_left g (by rw[i,mul_assoc]);omega
def Fe (W:World)(l:LN)(i:Value)(wr:World):Prop:=∃k:Nat,i=.int .i64 k/\k<=l.length/\(∀t,t<k->Nm.at' l t=0)/\wr=W
def Lh (W:World)(k:Nat)(x:Int)(a b:Value)(wr:World):Prop:=∃(c:Nat) (L:Int),a=.int .i64 ((32*k+c:Nat):Int)/\b=.int .u32 L/\1<=L/\L<4294967296/\x=L*2^c/\c<=40/\L<2^(40-c)/\wr=W
theorem aO1 {c:Nat}(d:1<=v)(e:v%2=0)(b:x=v*2^c)(a:v<2^(40-c)):x=v/2*2^(c+1)/\v/2<2^(40-(c+1))/\c+1<=40:=by
 have hc:c<40:=by
  rcases lt_or_ge c 40 with h|h
  ·exact h
  ·rw[show 40-c=0 by omega]at a;simp at a;omega
 refine⟨?_,?_,by omega⟩
 ·rw[b,pow_succ,<-mul_assoc,mul_comm (v/2*2^c) 2,<-mul_assoc,show 2*(v/2)=v by omega]
 ·rw[show 40-c=(40-(c+1))+1 by omega,pow_succ]at a;omega
theorem aO0 (w:World)(n:Bool)(a:LN)(j:Option Addr)(b:Nat)(z:Lims w a (.slice j a.length b))(P:a.length<=10000000000)(v:Nm.Good 4294967296 a):
  Calls prog 181 #[.agg #[.bool n,.slice j a.length b]] w fun e U=>e=.returned (.int .i64 (Nm.tz (Nm.val 4294967296 a)))/\Below w.heap.size w U:=by
 have I:=hid (z.alloc (.cells #[.bool n,.slice j a.length b] 56));have H:=hid v;have BB:Hid (Below w.heap.size w (w.alloc (.cells #[.bool n,.slice j a.length b] 56))):=aW (Below.refl _ _) (Nat.le_refl _) _;clear z v
 go_enter func181,ntmps181
 go_wp2_with fail
 go_loopw [3] (fun i wr=>Fe (w.alloc (.cells #[.bool n,.slice j a.length b] 56)) a i wr) (fun i _=>a.length-(intOf i).toNat)
 case atStart=>exact⟨0,rfl,zero_le _,fun t h=>by omega,rfl⟩
 case round=>
  obtain⟨k,rfl,X,C,rfl⟩:=hrel;have o:=hid C;clear C
  by_cases S:(k:Int)<a.length
  ·obtain⟨g,rfl,hc⟩:=I.out.place (by omega);have x1:=hc k (by omega);have a0:=H.out.eU.at' (by decide) k;clear hc
   by_cases p:Nm.at' a k=0
   ·rw[p]at x1
    go_wp2_with fail
    go_roundw
    case rel=>
     refine⟨k+1,by simp,by omega,?_,rfl⟩;intro t Y
     by_cases e:t=k
     ·rw[e];exact p
     ·exact o.out t (by omega)
    case measure=>simp[intOf];omega
   ·have W:(Nm.at' a k==0)=false:=by simpa using p
    have M:=hid (fun(c:Nat) (L:Int) (y:1<=L) (T:¬L%2=0) f=>Nm.aTT (Nm.aQQ (c:=c) (L:=L) (show k<a.length by omega) o.out y a0.2 f) (Nm.aQR (c:=c) (L:=L) (show k<a.length by omega) o.out y T a0.2 f));generalize Nm.at' a k=x at*;obtain⟨a1,N⟩:=a0
    go_wp2_with fail
    go_loopw [4,5] (fun c l wr=>Lh (w.alloc (.cells #[.bool n,.slice (some ⟨g,0,none⟩) a.length b] 56)) k x c l wr) (fun _ l _=>(intOf l).toNat)
    case atStart=>exact⟨0,x,by simp,rfl,by omega,N,by simp,by omega,by simp;omega,rfl⟩
    case round=>
     obtain⟨c,L,rfl,rfl,D,l2,B,A,d,rfl⟩:=hrel;have r:=hid B;have J:=hid d;clear B d
     by_cases f:L%2=0
     ·obtain⟨s,u,O⟩:=aO1 D f r.out J.out;have E:=hid s;have F:=hid u;clear s u
      go_wp2_with fail
      go_roundw
      case rel=>exact⟨c+1,L/2,by simp;omega,rfl,by omega,by omega,E.out,O,F.out,rfl⟩
      case measure=>simp[intOf];omega
     ·have R:(L%2==0)=false:=by simpa using f
      go_wp2_with fail
      go_ret
      exact⟨by rw[M.out c L D f r.out];rfl,BB.out⟩
  ·obtain rfl:k=a.length:=by omega
   go_wp2_with fail
   have q:Nm.val 4294967296 a=0:=by
    have:=Nm.aHa a a.length o.out;rw[List.drop_length]at this;rw[this];simp[Nm.val]
   go_ret
   exact⟨by rw[q,Nm.aTU];rfl,BB.out⟩
theorem Nm.aWu (z:Int):Nm.tz (z.natAbs:Int)=Nm.tz z:=by
 by_cases h:∃t:Nat,(2:Int)^t ∣ z/\¬(2:Int)^(t+1) ∣ z
 ·obtain⟨t,a,b⟩:=h;rw[Nm.aTT a b,Nm.aTT (Int.dvd_natAbs.2 a) (fun g=>b (Int.dvd_natAbs.1 g))]
 ·unfold Nm.tz;rw[dif_neg h,dif_neg];rintro⟨t,a,b⟩;exact h ⟨t,Int.dvd_natAbs.1 a,fun g=>b (Int.dvd_natAbs.2 g)⟩
theorem aQP (w:World)(z:Int)(v:Value)(n:Nat)(h:WhoAt w z v)(g:z.natAbs<2^n)(o:n<=1000000000):
  Calls prog 181 #[v] w fun e d=>e=.returned (.int .i64 (Nm.tz z))/\Below w.heap.size w d:=by
 obtain⟨i,f,a,rfl,k,b,hv⟩:=h.open;have l:=xN b hv g;refine(aO0 w _ i f a k (by omega) b).mono ?_;rintro e d⟨rfl,j⟩;rw[hv,Nm.aWu];exact⟨rfl,j⟩
theorem aGK (w:World)(a:LN)(v:Value)(b:Lims w a v)(n:a.length<=10000000000)(p:0<a.length)(i:dE 4294967296 a):
  Calls prog 143 #[v] w fun e r=>∃c:Nat,e=.returned (.int .i64 ((32*(a.length-1)+c:Nat):Int))/\c<=32/\w=r:=by
 obtain⟨s,k,rfl,_⟩:=b.shape;obtain⟨g,rfl,hc⟩:=b.place p;have x1:=hc (a.length-1) (by omega);have a0:=i.at' (by decide) (a.length-1);have y:((a.length:Int)==0)=false:=beq_eq_false_iff_ne.2 (by omega)
 have u:((a.length:Int)-1).toNat=a.length-1:=by omega
 clear b hc i;generalize Nm.at' a (a.length-1)=x at*;obtain⟨a1,f⟩:=a0
 go_enter func143,ntmps143
 go_wp2_with fail
 go_loop [3,4] (fun l t=>∃(c:Nat) (T:Int),l=.int .i64 ((32*(a.length-1)+c:Nat):Int)/\t=.int .u32 T/\0<=T/\T<4294967296/\T<2^(32-c)/\c<=32) (fun _ t=>(intOf t).toNat)
 case atStart=>exact⟨0,x,by simp;omega,rfl,a1,f,by simpa using f,by omega⟩
 case round=>
  obtain⟨c,T,rfl,rfl,z,A,j,hc⟩:=hrel;have d:=hid j;clear j
  by_cases h:0<T
  ·have o:c<32:=by
    rcases lt_or_ge c 32 with h1|h1
    ·exact h1
    ·have:=d.out;rw[show 32-c=0 by omega]at this;simp at this;omega
   have q:Hid (T/2<2^(32-(c+1))):=by
    have:=d.out;rw[show 32-c=(32-(c+1))+1 by omega,pow_succ]at this;show _<_;omega
   go_wp2_with fail
   go_round
   case rel=>exact⟨c+1,T/2,by simp;omega,rfl,by omega,by omega,q.out,by omega⟩
   case measure=>simp[intOf];omega
  ·go_wp2_with fail
   go_ret
   exact⟨c,rfl,hc,rfl⟩
def Hs (w:World)(a:LN)(d p:Nat)(c i:Value)(wr:World):Prop:=
 ∃(k:Nat) (b:Int) (out:LN),i=.int .i64 k/\c=.int .u64 b/\0<=b/\b<2^p/\k<=a.length/\dR wr w.heap.size out/\out.length=a.length+d+1/\dE 4294967296 out/\Below w.heap.size w wr/\
  Nm.val 4294967296 (out.take (k+d))+b*4294967296^(k+d)=Nm.val 4294967296 (a.take k)*2^p*4294967296^d
theorem aQT {r:Int}(d:0<r)(c0:0<=v)(c1:v<r)(x0:0<=x)(x1:x<4294967296):0<=(v+x*r)/4294967296/\(v+x*r)/4294967296<r:=by
 have a:0<=x*r:=mul_nonneg x0 (by omega);have b:x*r<=4294967295*r:=Int.mul_le_mul_of_nonneg_right (by omega) (by omega);refine⟨ediv_nonneg (by omega) (by decide),Int.ediv_lt_of_lt_mul (by decide) ?_⟩;omega
theorem aTW {out:LN}(d:k+w<out.length)(h:Nm.val 4294967296 (out.take (k+w))+v*4294967296^(k+w)=Nm.val 4294967296 (a.take k)*z*4294967296^w):
  Nm.val 4294967296 ((out.set (k+w) ((v+Nm.at' a k*z)%4294967296)).take (k+1+w))+(v+Nm.at' a k*z)/4294967296*4294967296^(k+1+w)=Nm.val 4294967296 (a.take (k+1))*z*4294967296^w:=by
 rw[show k+1+w=(k+w)+1 by omega,Vl d,Ds,length_take,min_eq_left (by omega),yY,pow_succ];have e:=Int.emod_add_mul_ediv (v+Nm.at' a k*z) 4294967296;have b:(4294967296:Int)^(k+w)=4294967296^k*4294967296^w:=pow_add _ _ _;generalize (v+Nm.at' a k*z)%4294967296=r at*;generalize (v+Nm.at' a k*z)/4294967296=q at*;generalize Nm.at' a k=x at*;rw[b]at h ⊢;generalize (4294967296:Int)^k=P at*;generalize (4294967296:Int)^w=R at*;grind
theorem aWv {out:LN}(b:out.length=a.length+w+1)(h:Nm.val 4294967296 (out.take (a.length+w))+v*4294967296^(a.length+w)=Nm.val 4294967296 (a.take a.length)*z*4294967296^w):
  Nm.val 4294967296 (out.set (a.length+w) v)=Nm.val 4294967296 a*z*4294967296^w:=by
 rw[take_length]at h;rw[<-h,<-Fl 4294967296 (out.set (a.length+w) v) (i:=a.length+w+1) (by simp;omega),Vl (by omega),Ds,length_take,min_eq_left (by omega)]
theorem aIM (w:World)(a:LN)(T:Option Addr)(D b p:Nat)(Y:Lims w a (.slice T a.length D))(ag:a.length<=10000000000)(U:dE 4294967296 a)(hp:p<32)(ak:b<=10000000000)(bits:Int)(hb:bits=32*b+p):
  Calls prog 144 #[.slice T a.length D,.int .i64 bits] w (cR w fun xs=>Nm.Good 4294967296 xs/\Nm.val 4294967296 xs=Nm.val 4294967296 a*2^(32*b+p)):=by
 have M:=run_make_row' (P:=prog) 54 81 (.int .u32 0) 4 underlying54 kR rfl .i64 .i64 (a.length+b+1) (by omega) (by omega);rw[show((a.length+b+1:Nat):Int)=(a.length:Int)+b+1 by omega]at M;have HA:=hid Y;have GA:=hid U
 have e1:bits/32=b:=by omega
 have e2:bits%32=p:=by omega
 have e3:¬bits<0:=by omega
 have e5:0<=bits:=by omega
 have e6:bits<=400000000000:=by omega
 have W:(0:Int)<2^p:=jZ (by decide) p
 have L:(2:Int)^p<=2147483648:=by have:=uB (B:=2) (by decide) (show p<=31 by omega);exact this
 clear Y U hb
 go_enter func144,ntmps144
 go_wp2_with fail
 go_loopw [8,9] (fun c i wr=>Hs w a b p c i wr) (fun _ i _=>a.length-(intOf i).toNat)
 case atStart=>
  refine⟨0,0,List.replicate (a.length+b+1) 0,rfl,rfl,by omega,W,zero_le _,dR.made w _,by simp,dE.mB (by decide) _,aW (Below.refl _ _) (Nat.le_refl _) _,?_⟩;rw[List.take_replicate,Zu];simp[Nm.val]
 case round=>
  obtain⟨k,v,out,rfl,rfl,c0,c1,hk,d,h,j,f,l⟩:=hrel
  by_cases ai:(k:Int)<a.length
  ·obtain⟨g,rfl,E⟩:=(HA.out.below f).place (by omega);have x1:=E k (by omega);have k1:=d.cell (k+b) (by omega);have k2:=d.frozen (k+b)
   have i1:(k:Int)+b<(a.length:Int)+b+1:=by omega
   have i0:(0:Int)<=(k:Int)+b:=by omega
   have i2:((k:Int)+b).toNat=k+b:=by omega
   have i3:IntKind.i64.wrap ((k:Int)+b)=(k:Int)+b:=by rw[IntKind.wrap_i64];omega
   have a0:=GA.out.at' (by decide) k;have s:=aQT W c0 c1 a0.1 a0.2
   have H:Hid (∀X,X=v+Nm.at' a k*2^p->Hs w a b p (.int .u64 (X/4294967296)) (.int .i64 ((k:Int)+1)) (wr.setCell ⟨w.heap.size,k+b,none⟩ (.int .u32 (X%4294967296)))):=by
    rintro X rfl;exact⟨k+1,_,out.set (k+b) ((v+Nm.at' a k*2^p)%4294967296),by simp,rfl,s.1,s.2,by omega,d.set _ _,by simpa using h,j.set _ (by omega) (by omega),f.setCell (by simp) _,aTW (by omega) l⟩
   have m0:0<=Nm.at' a k*2^p:=mul_nonneg a0.1 (by omega);have m1:Nm.at' a k*2^p<=4294967295*2147483648:=Int.mul_le_mul (by omega) L (by omega) (by omega);have ae:=hid c1
   have J:v<2147483648:=by omega
   clear E l h j f d s c1;generalize Nm.at' a k=x at*;generalize Nm.at' out (k+b)=o at*;obtain⟨a1,a2⟩:=a0
   go_wp2_with fail
   go_roundw
   case rel=>exact H.out _ rfl
   case measure=>simp[intOf];omega
  ·obtain rfl:k=a.length:=by omega
   have k1:=d.cell (a.length+b) (by omega);have k2:=d.frozen (a.length+b)
   have i1:(a.length:Int)+b<(a.length:Int)+b+1:=by omega
   have i0:(0:Int)<=(a.length:Int)+b:=by omega
   have i2:((a.length:Int)+b).toNat=a.length+b:=by omega
   have i3:IntKind.i64.wrap ((a.length:Int)+b)=(a.length:Int)+b:=by rw[IntKind.wrap_i64];omega
   have J:v<2147483648:=by omega
   have O:=hid (aWv h l);have q:=d.set (a.length+b) v;have z:=j.set (a.length+b) (x:=v) c0 (by omega)
   have u:(out.set (a.length+b) v).length=a.length+b+1:=by simpa using h
   have r:Below w.heap.size w (wr.setCell ⟨w.heap.size,a.length+b,none⟩ (.int .u32 v)):=f.setCell (by simp) _
   obtain⟨o2,F⟩:∃o2,o2=out.set (a.length+b) v:=⟨_,rfl⟩
   rw[<-F]at O q z u
   obtain⟨I,y⟩:∃I,I=wr.setCell ⟨w.heap.size,a.length+b,none⟩ (.int .u32 v):=⟨_,rfl⟩
   rw[<-y]at q r;have S:=hid (Cm I o2 _ 0 (q.rA (by omega)) (by omega));rw[u]at S;have N:=xI o2;rw[u]at N;have R:=hid (q.used (B:=w.heap.size) (by omega) (Nat.le_refl _));rw[u]at R;have HD:=hid z;have A:=hid r;have C:=hid y;clear l h j f d q z u r y F c1;generalize hn:(Nm.strip o2).length=n at*;clear hn;generalize Nm.at' out (a.length+b)=o at*
   go_wp2_with fail
   rw[<-C.out];clear C;refine(S.out).mono ?_;rintro e w1⟨rfl,rfl⟩
   go_wp2_with fail
   go_ret
   refine⟨_,Nm.strip o2,rfl,⟨Cq HD.out,?_⟩,R.out,A.out⟩;rw[Cn,O.out,pow_add,pow_mul,show(2:Int)^32=4294967296 from rfl,mul_assoc,mul_comm (2^p)]
theorem Za (w:World)(a:LN)(v:Value)(bits:Nat)(e:Lims w a v)(d:a.length<=10000000000)(h:dE 4294967296 a)(i:bits<=300000000000):
  Calls prog 144 #[v,.int .i64 bits] w (cR w fun f=>Nm.Good 4294967296 f/\Nm.val 4294967296 f=Nm.val 4294967296 a*2^bits):=by
 obtain⟨g,b,rfl,_⟩:=e.shape;have:=aIM w a g b (bits/32) (bits%32) e d h (by omega) (by omega) bits (by omega);rw[show 32*(bits/32)+bits%32=bits by omega]at this;exact this
theorem cE.used {B:Nat}{o:Nat}(h:cE B n s (.slice (some ⟨k,0,none⟩) p o)):cE B n (Nm.strip s) (.slice (some ⟨k,0,none⟩) (Nm.strip s).length o):=by
 have j:=xI s
 rcases h.2 with⟨b,_⟩|⟨u,d,a,b,f,i,hc,l,q,r⟩
 ·cases b
 ·cases b;refine⟨by simp,Or.inr ⟨k,o,a,rfl,f,i,by omega,l,q,?_⟩⟩;have e:Nm.strip s=s.take (Nm.strip s).length:=Nm.Zk s
  conv=>rhs;rw[e]
  rw[List.map_take,<-r,List.take_take];congr 1;omega
def Kp (w:World)(x:Int)(a:LN)(o i:Value)(wr:World):Prop:=
 ∃(k:Nat) (g b:Nat),i=.int .i64 k/\k<=a.length/\o=.slice (some ⟨g,0,none⟩) (k+1) b/\wr.ownsRow w.heap.size 81 1 o (k+1) ((x::a.take k).map (Value.int .u32))/\Below w.heap.size w wr
theorem aGg (w:World)(a:LN)(v:Value)(x:Int)(C:Lims w a v)(aa:a.length<=10000000000)(L:dE 4294967296 a)(x0:0<=x)(x1:x<4294967296):
  Calls prog 145 #[v,.int .u32 x] w (cR w fun J=>Nm.Good 4294967296 J/\Nm.val 4294967296 J=x+4294967296*Nm.val 4294967296 a/\J.length<=a.length+1):=by
 obtain⟨ti,hi,hz,l,D⟩:=info_parts kR;obtain⟨ao,Y,rfl,M⟩:=C.shape;have S:=hid C;have R:=hid L;clear C L
 go_enter func145,ntmps145
 go_wp2_with fail
 go_loopw [5,6] (fun o i wr=>Kp w x a o i wr) (fun _ i _=>a.length-(intOf i).toNat)
 case atStart=>exact⟨0,w.heap.size,1,rfl,zero_le _,rfl,World.ownsRow_lit (size:=1) w #[.int .u32 x] 1 (Nat.le_refl _) (by decide) rfl,aW (Below.refl _ _) (Nat.le_refl _) _⟩
 case round=>
  obtain⟨k,g,c,rfl,hk,rfl,b,d⟩:=hrel;have hs:=d.size;have f:=hid d
  by_cases ad:(k:Int)<a.length
  ·obtain⟨g2,rfl,hc⟩:=(S.out.below d).place (by omega);have x2:=hc k (by omega)
   have s:Hid (a.take (k+1)=a.take k++[Nm.at' a k]):=by
    show _=_;rw[List.take_succ_eq_append_getElem (by omega)];unfold Nm.at';rw[List.getD_eq_getElem?_getD,List.getElem?_eq_getElem (show k<a.length by omega)];rfl
   clear hc d;generalize Nm.at' a k=y at*
   go_wp2_with (at_builtin;refine wpList_append_own _ rfl _ _ 54 rfl _ 81 ti (.int .u32 0) 1 4 underlying54 hi hz l D rfl (by decide) _ _ _ rfl (b.alloc _) ⟨wr.heap.size,0,none⟩ 1 1 [.int .u32 y] rfl rfl (cell_one_new _ _ _) (fun u P=>by simp at P;subst P;rfl) (by unfold maxLen;omega) (by omega) (by simp;omega) ?_;intro v' w3 h j F)
   have H:∃q p,v'=.slice (some ⟨q,0,none⟩) (k+1+1) p:=by
    rcases h.2 with⟨_,N⟩|⟨q,p,z,A,_⟩
    ·omega
    ·exact⟨q,p,A⟩
   obtain⟨q,p,I⟩:=H
   go_roundw
   case rel=>
    refine⟨k+1,q,p,by simp,by omega,I,?_,Fm b f.out f.out.size _ j⟩;rw[s.out]
    simpa using h
   case measure=>simp[intOf];omega
  ·obtain rfl:k=a.length:=by omega
   rw[take_length]at b;have T:Hid (dE 4294967296 (x::a)):=dE.cons x0 x1 R.out;have B:cE w.heap.size wr (x::a) (.slice (some ⟨g,0,none⟩) (a.length+1) c):=b;have X:=hid (Cm wr (x::a) _ w.heap.size B (by simp;omega));have U:=hid B.used;have r:=xI (x::a);simp only[List.length_cons]at r
   have ab:a.length+1<=c:=by
    rcases b.2 with⟨N,_⟩|⟨q,p,z,A,_,_,E,_⟩
    ·cases N
    ·cases A;exact E
   clear b B d;generalize O:(Nm.strip (x::a)).length=n at*;have W:=hid O;clear O
   go_wp2_with fail
   refine(X.out).mono ?_;rintro e w1⟨rfl,rfl⟩
   go_wp2_with fail
   go_ret
   exact⟨_,Nm.strip (x::a),rfl,⟨Cq T.out,by rw[Cn];rfl,by rw[W.out];exact r⟩,U.out,f.out⟩
variable {d:LN}
theorem aIi (gd:Nm.Good 4294967296 d)(a:d.length=w+1):1<=Nm.at' d w:=by
 rcases Nm.aEx gd with rfl|⟨r,e,rfl,_,b,_⟩
 ·simp at a
 ·have:r.length=w:=by simpa using a
  unfold Nm.at';simp[List.getD,this▸List.getElem?_concat_length];exact b
variable {r:LN}
theorem aLI (p:d.length=w+1)(e:dE 4294967296 r)(gd:Nm.Good 4294967296 d)(b:Nm.val 4294967296 r<4294967296*Nm.val 4294967296 d)(v:r.length<=w+2):
  Nm.val 4294967296 r/Nm.val 4294967296 d<=(Nm.at' r w+Nm.at' r (w+1)*4294967296)/Nm.at' d w/\Nm.val 4294967296 r/Nm.val 4294967296 d<=4294967295/\0<=Nm.val 4294967296 r/Nm.val 4294967296 d:=by
 have f:=jZ (B:=(4294967296:Int)) (by decide) w;have l:=aIi gd p
 have x:Nm.val 4294967296 d=Nm.val 4294967296 (d.take w)+Nm.at' d w*4294967296^w:=by
  rw[<-yY,Fl _ d (by omega)]
 have g:Nm.val 4294967296 r=Nm.val 4294967296 (r.take w)+Nm.at' r w*4294967296^w+Nm.at' r (w+1)*4294967296^(w+1):=by
  rw[<-yY,<-yY,Fl _ r (by omega)]
 have y:=rS (by decide) (gd.eU.take w);have z:=xU (by decide) (e.take w);have A:(4294967296:Int)^(r.take w).length<=4294967296^w:=uB (by decide) (by rw[length_take];omega);have i:=rS (by decide) e;have o:1*4294967296^w<=Nm.at' d w*4294967296^w:=Int.mul_le_mul_of_nonneg_right l (le_of_lt f)
 have k:0<Nm.val 4294967296 d:=by omega
 have a:0<=Nm.val 4294967296 r/Nm.val 4294967296 d:=ediv_nonneg i (by omega);have s:Nm.val 4294967296 r/Nm.val 4294967296 d<4294967296:=Int.ediv_lt_of_lt_mul k b;have u:=Int.ediv_mul_le (Nm.val 4294967296 r) (show Nm.val 4294967296 d≠0 by omega);refine⟨?_,by omega,a⟩;generalize D:Nm.val 4294967296 r/Nm.val 4294967296 d=q at*;refine Int.le_ediv_of_mul_le (by omega) ?_;have C:q*(Nm.at' d w*4294967296^w)<=q*Nm.val 4294967296 d:=Int.mul_le_mul_of_nonneg_left (by omega) a
 have j:q*Nm.at' d w*4294967296^w<(Nm.at' r w+Nm.at' r (w+1)*4294967296+1)*4294967296^w:=by
  rw[pow_succ]at g
  have h:(Nm.at' r w+Nm.at' r (w+1)*4294967296+1)*4294967296^w=Nm.at' r w*4294967296^w+Nm.at' r (w+1)*(4294967296^w*4294967296)+4294967296^w:=by grind
  rw[h,mul_assoc];omega
 have:=Int.lt_of_mul_lt_mul_right j (le_of_lt f);omega
theorem aNn (i:d.length=w+1)(a:Nm.Good 4294967296 r)(gd:dE 4294967296 d)(g:Nm.val 4294967296 r<4294967296*Nm.val 4294967296 d):r.length<=w+2:=by
 rcases lt_or_ge (w+2) r.length with h|h
 ·have j:=Mc (by decide) a (by intro e;rw[e]at h;simp at h);have b:=xU (by decide) gd;have f:(4294967296:Int)^(w+2)<=4294967296^(r.length-1):=uB (by decide) (by omega);rw[i]at b;rw[pow_succ]at f;omega
 ·exact h
theorem aJu (b:d.length=w+1)(a:dE 4294967296 r)(gd:Nm.Good 4294967296 d)(h:r.length<w+1):Nm.val 4294967296 r/Nm.val 4294967296 d=0:=
 Int.ediv_eq_zero_of_lt (rS (by decide) a) (Uf (by decide) a gd (by omega))
theorem aNm (w:World)(r d:LN)(u v:Value)(o:Lims w r u)(k:Lims w d v)(N:r.length<=10000000000)(j:Nm.Good 4294967296 r)(gd:Nm.Good 4294967296 d)(M:0<d.length)(a:Nm.val 4294967296 r<4294967296*Nm.val 4294967296 d):
  Calls prog 146 #[u,v] w fun e O=>∃G:Int,e=.returned (.int .u32 G)/\0<=G/\G<4294967296/\Nm.val 4294967296 r/Nm.val 4294967296 d<=G/\w=O:=by
 obtain⟨n,l⟩:∃n,d.length=n+1:=⟨d.length-1,by omega⟩
 have B:=aNn l j gd.eU a;have U:=aIi gd l;have L:=(gd.eU.at' (by decide) n).2;obtain⟨y,z,A⟩:=aLI l j.eU gd a B;have x:=hid (aJu (r:=r) l j.eU gd);obtain⟨ro,X,rfl,_⟩:=o.shape;obtain⟨J,S,rfl,_⟩:=k.shape;rw[l];have W:(((n:Int)+1)==0)=false:=beq_eq_false_iff_ne.2 (by omega);have s:=hid y;have C:=hid z;have F:=hid A;obtain⟨T,rfl,h⟩:=k.place M;have y1:=h n (by omega);have a0:=j.eU.at' (by decide) n;have a1:=j.eU.at' (by decide) (n+1)
 by_cases c1:(r.length:Int)<(n:Int)+1
 ·have E:=hid (x.out (by omega));clear h y z A s C F o k j gd a y1 x
  go_enter func146,ntmps146
  go_wp2_with fail
  go_ret
  exact⟨0,rfl,by omega,by omega,by rw[E.out];exact Int.le_refl _,rfl⟩
 ·obtain⟨g,rfl,hc⟩:=o.place (by omega);have x1:=hc n (by omega)
  by_cases c2:(n:Int)+1<r.length
  ·have x2:=hc (n+1) (by omega);clear hc h y z A o k j gd a x;generalize Nm.val 4294967296 r/Nm.val 4294967296 d=q at*;generalize Nm.at' r n=b at*;generalize Nm.at' r (n+1)=p at*;generalize Nm.at' d n=f at*;obtain⟨H,I⟩:=a0;obtain⟨P,R⟩:=a1;have f0:(f==0)=false:=beq_eq_false_iff_ne.2 (by omega);have d0:0<=(b+p*4294967296)/f:=ediv_nonneg (by omega) (by omega);have d1:(b+p*4294967296)/f<=b+p*4294967296:=Int.ediv_le_self _ (by omega)
   by_cases c3:4294967295<(b+p*4294967296)/f
   ·go_enter func146,ntmps146
    go_wp2_with fail
    go_ret
    exact⟨4294967295,rfl,by omega,by omega,C.out,rfl⟩
   ·go_enter func146,ntmps146
    go_wp2_with fail
    go_ret
    exact⟨(b+p*4294967296)/f,rfl,d0,by omega,s.out,rfl⟩
  ·have D:=Fz (xs:=r) (i:=n+1) (by omega);rw[D,zero_mul,Int.add_zero]at s;clear hc h y z A o k j gd a x a1 D;generalize Nm.val 4294967296 r/Nm.val 4294967296 d=q at*;generalize Nm.at' r n=b at*;generalize Nm.at' d n=f at*;obtain⟨H,I⟩:=a0;have f0:(f==0)=false:=beq_eq_false_iff_ne.2 (by omega);have d0:0<=b/f:=ediv_nonneg (by omega) (by omega);have d1:b/f<=b:=Int.ediv_le_self _ (by omega)
   go_enter func146,ntmps146
   go_wp2_with fail
   go_ret
   exact⟨b/f,rfl,d0,by omega,s.out,rfl⟩
def uV (W1:World)(A:LN)(D:Int)(a i:Value)(wr:World):Prop:=
 ∃(k:Nat) (q R:LN),i=.int .i64 ((k:Int)-1)/\k<=A.length/\cE (W1.heap.size+1) wr R a/\Nm.Good 4294967296 R/\dR wr W1.heap.size q/\q.length=A.length/\dE 4294967296 q/\Below W1.heap.size W1 wr/\
  Nm.val 4294967296 (A.drop k)=Nm.val 4294967296 (q.drop k)*D+Nm.val 4294967296 R/\Nm.val 4294967296 R<D
def Rj (W1 a:World)(D e:Int)(b d:Value)(wr:World):Prop:=
 ∃(g:Int) (P:LN),b=.int .u32 g/\0<=g/\g<4294967296/\e<=g/\cE (W1.heap.size+1) wr P d/\Nm.Good 4294967296 P/\Nm.val 4294967296 P=D*g/\Below a.heap.size a wr
theorem aKq {r y u R U:Int}(h:r=y*z+u)(a:R=x+4294967296*u):x+4294967296*r=(U+4294967296*y)*z+(R-z*U):=by
 subst h a;grind
theorem Zw {q:LN}(h:k<q.length):Nm.val 4294967296 ((q.set k x).drop k)=x+4294967296*Nm.val 4294967296 (q.drop (k+1)):=by
 rw[Lu 4294967296 _ k (by simpa using h)];congr 1
 ·unfold Nm.at';simp[h]
 ·rw[List.drop_set_of_lt (by omega)]
def Dc (w:World)(x y:Int):NN:=fun e a=>∃b d Q R,e=.returned (.tuple #[b,d])/\Lims a Q b/\Lims a R d/\Nm.Good 4294967296 Q/\Nm.Good 4294967296 R/\Nm.val 4294967296 Q=x/y/\Nm.val 4294967296 R=x%y/\Below w.heap.size w a
theorem aIN {a b s Q R A U:Int}(k:0<b)(l:0<s)(i:A=a*s)(j:U=b*s)(h:A=Q*U+R)(o:0<=R)(n:R<U):Q=a/b/\R/s=a%b:=by
 subst i j
 have e:R=s*(a-Q*b):=by grind
 have d:R/s=a-Q*b:=by rw[e];exact Int.mul_ediv_cancel_left _ (by omega)
 have f:0<=a-Q*b:=by
  rcases lt_or_le (a-Q*b) 0 with h'|h'
  ·have:=Int.mul_neg_of_pos_of_neg l h';omega
  ·exact h'
 have g:a-Q*b<b:=by
  have:s*(a-Q*b)<s*b:=by rw[<-e,mul_comm s b];exact n
  exact Int.lt_of_mul_lt_mul_left this (by omega)
 have:=Nm.Ty k (show a=Q*b+(a-Q*b) by omega) f g;exact⟨this.1.symm,by rw[d,this.2]⟩
theorem aRr {b:LN}{s:Nat}(d:dE 4294967296 a)(f:Nm.Good 4294967296 b)(hv:Nm.val 4294967296 b=Nm.val 4294967296 a*2^s)(k:s<=32):b.length<=a.length+1:=by
 rcases lt_or_ge (a.length+1) b.length with h|h
 ·exfalso;have l:=Mc (by decide) f (by intro e;rw[e]at h;simp at h);have n:=xU (by decide) d;have g:(4294967296:Int)^(a.length+1)<=4294967296^(b.length-1):=uB (by decide) (by omega);have i:(2:Int)^s<=2^32:=uB (by decide) k;have j:=rS (by decide) d;have o:Nm.val 4294967296 a*2^s<=Nm.val 4294967296 a*4294967296:=Int.mul_le_mul_of_nonneg_left i j;rw[pow_succ]at g;omega
 ·exact h
theorem aJ4 (h:0<Nm.val 4294967296 s):0<s.length:=by
 cases s with
 |nil=>simp[Nm.val]at h
 |cons _ _=>simp
theorem aFz (w:World)(a b:LN)(u v:Value)(ha:Lims w a u)(hb:Lims w b v)(e3:a.length<=4000000000)(e4:b.length<=4000000000)(ga:Nm.Good 4294967296 a)(gb:Nm.Good 4294967296 b)(hp:0<b.length):
  Calls prog 128 #[u,v] w (Dc w (Nm.val 4294967296 a) (Nm.val 4294967296 b)):=by
 have HA:=hid ha;have HB:=hid hb;have GA:=hid ga;have GB:=hid gb;obtain⟨ao,ac,rfl,_⟩:=ha.shape;obtain⟨bo,bc,rfl,_⟩:=hb.shape;have BL:=hid (aGK w b _ hb (by omega) hp gb.eU)
 have b2:0<Nm.val 4294967296 b:=by
  have h1:=rS (by decide) gb.eU;have h2:=Fx (by decide) gb
  rcases Int.lt_or_eq_of_le h1 with h|h
  ·exact h
  ·have:=h2.1 h.symm;rw[this]at hp;simp at hp
 clear ha hb ga gb
 go_enter func128,ntmps128
 go_wp2_with fail
 refine(BL.out).mono ?_;rintro e w0⟨c,rfl,hc,rfl⟩
 obtain⟨s,hs⟩:∃s:Nat,(32:Int)*b.length-((32*(b.length-1)+c:Nat):Int)=s:=⟨32-c,by omega⟩
 have cb:s<=32:=by omega
 have b3:((32*(b.length-1)+c:Nat):Int)=32*b.length-s:=by omega
 rw[b3];have br:=hid (Za w b _ s HB.out (by omega) GB.out.eU (by omega))
 have dh:IntKind.i64.wrap (32*(b.length:Int)-(32*b.length-s))=s:=by rw[IntKind.wrap_i64];omega
 have di:IntKind.i64.wrap (32*(b.length:Int))=32*b.length:=by rw[IntKind.wrap_i64];omega
 clear hs b3 hc
 go_wp2_with fail
 refine(br.out).mono ?_;rintro e w1⟨dv,dl,rfl,⟨a9,aj⟩,a5,T⟩;have e7:=aRr GB.out.eU a9 aj cb;have bs:=hid (Za w1 a _ s (HA.out.below T) (by omega) GA.out.eU (by omega));obtain⟨ez,dc,rfl,_⟩:=a5.shape
 go_wp2_with fail
 refine(bs.out).mono ?_;rintro e W1⟨av,al,rfl,⟨ba,bb⟩,a6,ag⟩;have e6:=aRr GA.out.eU ba bb cb;obtain⟨ey,ev,rfl,_⟩:=a6.shape;have fb:=T.size;have fc:=ag.size;have BW:=hid (T.trans (ag.mono T.size));have hD:(0:Int)<2^s:=jZ (by decide) s
 have E:0<Nm.val 4294967296 dl:=by rw[aj];exact Int.mul_pos b2 hD
 have c9:=aJ4 E;have ay:=hid (fun Q R h r0 r1=>aIN (Q:=Q) (R:=R) b2 hD bb aj h r0 r1);have DL:=hid (a5.below ag);have AL:=hid a6;have GD:=hid a9;have ci:=hid ba;have e8:=run_make_row' (P:=prog) 54 81 (.int .u32 0) 4 underlying54 kR rfl .i64 .i64 al.length (by omega) (by omega);clear a5 a6 T ag aj bb a9 ba br bs hD dh di HA HB BL
 go_wp2_with fail
 go_loopw [10,11] (fun r i wr=>uV W1 al (Nm.val 4294967296 dl) r i wr) (fun _ i _=>(intOf i+1).toNat)
 case atStart=>
  refine⟨al.length,List.replicate al.length 0,[],rfl,Nat.le_refl _,?_,Nm.Good.nil _,?_,by simp,dE.mB (by decide) _,aW (aW (Below.refl _ _) (Nat.le_refl _) _) (by simp) _,by simp[Nm.val],E⟩
  ·exact⟨rfl,Or.inr ⟨W1.heap.size+1,0,#[],by simp,Nat.le_refl _,by have:=vN (W1.alloc (.cells (madeCells #[.int .u32 0] al.length) 81)) (.cells #[] 81);rw[World.size_alloc]at this;exact this,Nat.le_refl _,by decide,rfl,rfl⟩⟩
  ·exact(dR.made W1 al.length).below (aW (Below.refl _ _) (Nat.le_refl _) _)
 case round=>
  obtain⟨k,q,R,rfl,hk,hR,af,W,ar,aq,ap,au,c7⟩:=hrel;have HV:=hid au;have d:=hid ar;have N:=hid aq;have M:=hid ap;have I:=hid W;have bp:=hid af;have c5:=rS (by decide) af.eU;have fh:=W.lt;have c6:=Gh af GD.out (by omega);obtain⟨ro,rc,rfl,_⟩:=hR.shape;have HR:=hid hR;clear au ar aq ap W af hR
  cases k with
  |zero=>
   have hA:Nm.val 4294967296 al=Nm.val 4294967296 q*Nm.val 4294967296 dl+Nm.val 4294967296 R:=by have:=HV.out;simpa using this
   have FQ:=hid (ay.out _ _ hA c5 c7);have US:=hid (Cm wr.drew q _ 0 (I.out.drew.rA (by rw[d.out];omega)) (by rw[d.out];omega));have SD:=hid (aEd wr.drew R _ s ((HR.out.below (vZ _)).bO (zero_le _)) (by omega) bp.out.eU (by omega));have df:=xI q;have HL:=hid (I.out.used (B:=0) (by rw[d.out];omega) (zero_le _));rw[d.out]at US df HL;have cm:=hid (Cq N.out);have cs:=hid (Cn 4294967296 q);generalize hn:(Nm.strip q).length=n at*;clear hA hn
   go_wp2_with fail
   go_region_with (first
    |(go_at_call 62;refine(US.out).mono ?_;rintro e w6⟨rfl,rfl⟩)
    |(go_at_call 147;refine(SD.out).mono ?_;rintro e w7⟨sv,S,rfl,⟨gS,vS⟩,a7,am⟩;have b1:=rL am;clear am;obtain⟨so,sc,rfl,_⟩:=a7.shape;have co:=hid (a7.bO (zero_le _));have bn:=hid b1;have GS:=hid gS;have VS:=hid vS;clear a7 b1 gS vS))
   all_goals
    go_wp2_with fail
    refine bodyPost_ret (v:=.tuple #[.slice (some ⟨W1.heap.size,0,none⟩) n al.length,.slice so S.length sc]) (by simp[results,results128,go_sem]) rfl ⟨_,_,Nm.strip q,S,rfl,HL.out.below bn.out,co.out,cm.out,GS.out,by rw[cs.out];exact FQ.out.1,by rw[VS.out];exact FQ.out.2,?_⟩;exact BW.out.trans ((M.out.trans (bn.out.mono (by omega))).mono (by omega))
  |succ k=>
   obtain⟨g,rfl,_⟩:=AL.out.place (by omega);have x1:=(AL.out.below M.out).oB k (by omega);have a0:=ci.out.eU.at' (by decide) k;generalize hx:Nm.at' al k=x at*;have HX:=hid hx;clear hx;have WL:=hid (aGg wr R _ x (HR.out.bO (zero_le _)) (by omega) bp.out.eU a0.1 a0.2)
   go_wp2_with fail
   refine(WL.out).mono ?_;rintro e w3⟨rv,f,rfl,⟨g3,v3,l3⟩,ae,ah⟩;obtain⟨fq,fp,rfl,_⟩:=ae.shape;have fd:=ah.size
   have b8:Nm.val 4294967296 f<4294967296*Nm.val 4294967296 dl:=by omega
   have b6:=rS (by decide) g3.eU;have B3:=hid (M.out.trans (ah.mono (show W1.heap.size<=wr.heap.size by omega)));have GU:=hid (aNm w3 f dl _ _ (ae.bO (zero_le _)) ((DL.out.below B3.out).bO (zero_le _)) (by omega) g3 GD.out c9 b8);have a1:=hid (ae.bO (show W1.heap.size+1<=wr.heap.size by omega));have H3:=hid ah;have G3:=hid g3;have V3:=hid v3;clear ae g3 ah WL
   go_wp2_with fail
   refine(GU.out).mono ?_;rintro e fv⟨G,rfl,G0,G1,ca,rfl⟩;have LO:=hid (Nz G w3 G0 (by omega))
   go_wp2_with fail
   refine(LO.out).mono ?_;rintro e w4⟨lv,L,rfl,⟨gL,vL,lL⟩,bx,U⟩;have fe:=U.size;have ML:=hid (Yx w4 dl L _ _ (((DL.out.below B3.out).below U).bO (zero_le _)) (bx.bO (zero_le _)) (by omega) (by omega) GD.out.eU gL.eU);rw[vL]at ML
   go_wp2_with fail
   refine(ML.out).mono ?_;rintro e w5⟨pv,P,rfl,⟨gP,vP⟩,bz,a8⟩;have ff:=a8.size;have cq:=hid ca;have cn:=hid (bz.bO (show W1.heap.size+1<=w4.heap.size by omega));have GP:=hid gP;have VP:=hid vP;have cj:=hid (U.trans (a8.mono U.size));clear bz gP vP U a8 gL vL bx ca ML LO GU
   obtain⟨wo,dj⟩:∃wo:World,wo=wr:=⟨_,rfl⟩
   subst dj
   go_wp2_with fail
   go_loopw [12,13] (fun l p wr=>Rj W1 w5 (Nm.val 4294967296 dl) (Nm.val 4294967296 f/Nm.val 4294967296 dl) l p wr) (fun l _ _=>(intOf l).toNat)
   case atStart=>exact⟨G,P,rfl,G0,G1,cq.out,cn.out,GP.out,VP.out,Below.refl _ _⟩
   case round=>
    obtain⟨y,P',rfl,h0,h1,hq,hI,hg,hv,ai⟩:=hrel;have fi:=ai.size;have ab:=hid (cj.out.trans (ai.mono (show w3.heap.size<=w5.heap.size by omega)));obtain⟨po,pc,rfl,_⟩:=hI.shape;have J:=hid hI;have HG:=hid hg;have o:=hid hv;have ck:=hid ai
    have e2:P'.length<=9000000000:=by
     have h2:=xU (by decide) GD.out.eU
     rcases lt_or_ge (dl.length+1) P'.length with h|h
     ·exfalso;have h3:=Mc (by decide) hg (by intro e;rw[e]at h;simp at h);have h4:(4294967296:Int)^(dl.length+1)<=4294967296^(P'.length-1):=uB (by decide) (by omega);have h5:Nm.val 4294967296 dl*y<=Nm.val 4294967296 dl*4294967296:=Int.mul_le_mul_of_nonneg_left (by omega) (by omega);rw[pow_succ]at h4;omega
     ·omega
    clear hI hg hv ai
    by_cases e5:0<y
    ·have ad:=hid (Np wr P' f _ _ (J.out.bO (zero_le _)) ((a1.out.below ab.out).bO (zero_le _)) (by omega) HG.out G3.out);rw[o.out]at ad
     by_cases D:Nm.val 4294967296 dl*y<=Nm.val 4294967296 f
     ·have hc:¬0<Nm.cmp (Nm.val 4294967296 dl*y) (Nm.val 4294967296 f):=by
       rcases Int.lt_or_eq_of_le D with h|h
       ·rw[iV h];decide
       ·rw[iU h];decide
      generalize Nm.cmp (Nm.val 4294967296 dl*y) (Nm.val 4294967296 f)=cv at*
      go_wp2_with fail
      refine(ad.out).mono ?_;rintro e w6⟨rfl,A⟩;have de:=A.size;have BX:=hid (ab.out.trans (A.mono (show w3.heap.size<=wr.heap.size by omega)));have a2:=hid (J.out.below A);clear A
      have X:Nm.val 4294967296 f/Nm.val 4294967296 dl=y:=by
       have:=Int.le_ediv_of_mul_le E (show y*Nm.val 4294967296 dl<=Nm.val 4294967296 f by rw[mul_comm];exact D);omega
      have Y:=Int.emod_lt_of_pos (Nm.val 4294967296 f) E;have j:=Int.emod_add_mul_ediv (Nm.val 4294967296 f) (Nm.val 4294967296 dl);rw[X]at j;have SB:=hid (Lj w6 f P' _ _ ((a1.out.below BX.out).bO (zero_le _)) (a2.out.bO (zero_le _)) (by omega) (Gh HG.out G3.out (by rw[o.out];exact D)) G3.out.eU HG.out.eU (by rw[o.out];exact D));rw[o.out]at SB
      have O:Hid (Nm.val 4294967296 f-Nm.val 4294967296 dl*y<Nm.val 4294967296 dl):=by show _<_;omega
      have cg:=hid (B3.out.trans (BX.out.mono (show W1.heap.size<=w3.heap.size by omega)));have ax:=hid ((I.out.below H3.out).below BX.out);clear Y j X
      go_wp2_with fail
      refine(SB.out).mono ?_;rintro e w8⟨dk,R8,rfl,⟨g8,v8⟩,F,C⟩;obtain⟨bf,be,rfl,_⟩:=F.shape;have dd:=C.size;have z:=ax.out.below C
      have H:k<q.length:=by rw[d.out];omega
      have k1:=z.cell k H;have k2:=z.frozen k
      have a4:Hid (uV W1 al (Nm.val 4294967296 dl) (.slice bf R8.length be) (.int .i64 ((k:Int)-1)) (w8.setCell ⟨W1.heap.size,k,none⟩ (.int .u32 y))):=by
       refine⟨k,q.set k y,R8,by simp,by omega,(F.bO (show W1.heap.size+1<=w6.heap.size by omega)).Bb (by omega) _,g8,z.set _ _,by simpa using d.out,N.out.set _ h0 h1,(cg.out.trans (C.mono (show W1.heap.size<=w6.heap.size by omega))).setCell (by simp) _,?_,by rw[v8];exact O.out⟩;rw[Lu 4294967296 al k (by omega),Zw H,HX.out,v8];exact aKq HV.out V3.out
      clear F g8 v8 C z H;generalize Nm.at' q k=oq at*
      go_wp2_with fail
      go_roundw
      case rel=>exact a4.out
      case measure=>simp[intOf]
     ·have b7:Nm.val 4294967296 f<Nm.val 4294967296 dl*y:=by omega
      have hc:Nm.cmp (Nm.val 4294967296 dl*y) (Nm.val 4294967296 f)=1:=gX b7;rw[hc]at ad;have ee:Nm.val 4294967296 f/Nm.val 4294967296 dl<y:=Int.ediv_lt_of_lt_mul E (by rw[mul_comm];exact b7)
      have b4:Nm.val 4294967296 dl<=Nm.val 4294967296 dl*y:=by
       have:=Int.mul_le_mul_of_nonneg_left (show 1<=y by omega) (show 0<=Nm.val 4294967296 dl by omega);omega
      have b9:Nm.val 4294967296 dl*y-Nm.val 4294967296 dl=Nm.val 4294967296 dl*(y-1):=by rw[Int.mul_sub,Int.mul_one]
      go_wp2_with fail
      refine(ad.out).mono ?_;rintro e w6⟨rfl,A⟩;have de:=A.size;have BX:=hid (ab.out.trans (A.mono (show w3.heap.size<=wr.heap.size by omega)));have SB:=hid (Lj w6 P' dl _ _ ((J.out.below A).bO (zero_le _)) (((DL.out.below B3.out).below BX.out).bO (zero_le _)) (by omega) (Gh GD.out HG.out (by rw[o.out];exact b4)) HG.out.eU GD.out.eU (by rw[o.out];exact b4));rw[o.out,b9]at SB
      go_wp2_with fail
      refine(SB.out).mono ?_;rintro e w7⟨fl,P7,rfl,⟨g7,v7⟩,cy,b0⟩;have fg:=b0.size
      go_wp2_with fail
      go_roundw
      case rel=>exact⟨y-1,P7,rfl,by omega,by omega,by omega,cy.bO (by omega),g7,v7,(ck.out.trans (A.mono (by omega))).trans (b0.mono (by omega))⟩
      case measure=>simp[intOf];omega
    ·obtain rfl:y=0:=by omega
     have D:Nm.val 4294967296 dl*0<=Nm.val 4294967296 f:=by rw[Int.mul_zero];exact b6
     have BX:=ab;have a2:=J
     have X:Nm.val 4294967296 f/Nm.val 4294967296 dl=0:=by
      have:=Int.le_ediv_of_mul_le E (show 0*Nm.val 4294967296 dl<=Nm.val 4294967296 f by rw[mul_comm];exact D);omega
     have Y:=Int.emod_lt_of_pos (Nm.val 4294967296 f) E;have j:=Int.emod_add_mul_ediv (Nm.val 4294967296 f) (Nm.val 4294967296 dl);rw[X]at j;have SB:=hid (Lj wr f P' _ _ ((a1.out.below BX.out).bO (zero_le _)) (a2.out.bO (zero_le _)) (by omega) (Gh HG.out G3.out (by rw[o.out];exact D)) G3.out.eU HG.out.eU (by rw[o.out];exact D));rw[o.out]at SB
     have O:Hid (Nm.val 4294967296 f-Nm.val 4294967296 dl*0<Nm.val 4294967296 dl):=by show _<_;omega
     have cf:=hid (B3.out.trans (BX.out.mono (show W1.heap.size<=w3.heap.size by omega)));have ax:=hid ((I.out.below H3.out).below BX.out);clear Y j X
     go_wp2_with fail
     refine(SB.out).mono ?_;rintro e w8⟨dk,R8,rfl,⟨g8,v8⟩,F,C⟩;obtain⟨bf,be,rfl,_⟩:=F.shape;have dd:=C.size;have z:=ax.out.below C
     have H:k<q.length:=by rw[d.out];omega
     have k1:=z.cell k H;have k2:=z.frozen k
     have a4:Hid (uV W1 al (Nm.val 4294967296 dl) (.slice bf R8.length be) (.int .i64 ((k:Int)-1)) (w8.setCell ⟨W1.heap.size,k,none⟩ (.int .u32 0))):=by
      refine⟨k,q.set k 0,R8,by simp,by omega,(F.bO (show W1.heap.size+1<=wr.heap.size by omega)).Bb (by omega) _,g8,z.set _ _,by simpa using d.out,N.out.set _ h0 h1,(cf.out.trans (C.mono (show W1.heap.size<=wr.heap.size by omega))).setCell (by simp) _,?_,by rw[v8];exact O.out⟩;rw[Lu 4294967296 al k (by omega),Zw H,HX.out,v8];exact aKq HV.out V3.out
     clear F g8 v8 C z H;generalize Nm.at' q k=oq at*
     go_wp2_with fail
     go_roundw
     case rel=>exact a4.out
     case measure=>simp[intOf]
end Go.Proofs.YthhffdeihoofiaaGreatDoor
