import Derived.Test.YteghhlfmcjmnoaaGreatDoorCKn05
set_option linter.unusedSimpArgs false
set_option linter.unusedVariables false
set_option maxRecDepth 100000
set_option maxHeartbeats 2000000
namespace Go.Proofs.YteghhlfmcjmnoaaGreatDoor
open Go.RowKit
theorem Nm.aEP {l:List Int}{k:Nat}{x:Int}(h:k<l.length):(l.set k x).take (k+1)=l.take k++[x]:=by
 rw [List.take_succ_eq_append_getElem (by simpa using h),List.take_set_of_le (Nat.le_refl _)];simp
theorem Nm.aJD {B c:Int}(g:2<=B){N:Nat}{d a b:List Int}(u:d.length=N+1)(i:Nm.Dig B d)(j:a.length<=N)(k:b.length<=N)(l:Nm.Dig B a)(m:Nm.Dig B b)(c0:0<=c)
  (h:Nm.val B (d.take (N+1))+c*B^(N+1)=Nm.val B (a.take (N+1))+Nm.val B (b.take (N+1))):Nm.val B d=Nm.val B a+Nm.val B b:=by
 rw [Nm.aA4 B d (by omega),Nm.aA4 B a (by omega),Nm.aA4 B b (by omega)] at h;have n:=Nm.aCG (by omega) l;have o:=Nm.aCG (by omega) m;have p:=Nm.aAY (B:=B) (by omega) j;have q:=Nm.aAY (B:=B) (by omega) k;have r:=Nm.aBJ (by omega) i;have e:=Nm.aAq (B:=B) (by omega) N;have s:2*B^N<=B*B^N:=Int.mul_le_mul_of_nonneg_right g (Int.le_of_lt e);rw [Int.pow_succ,Int.mul_comm (B^N) B] at h
 have f:c*(B*B^N)<1*(B*B^N):=by omega
 have t:=Int.lt_of_mul_lt_mul_right f (by omega)
 have:c=0:=by omega
 subst this;omega
theorem LBlk.used {w:World}{G:Nat}{xs:List Int}(h:LBlk w G xs)(f:xs.length<=100000000000){B:Nat}(e:B<=G):LimsB B w (Nm.strip xs) (.slice (some ⟨G,0,none⟩) (Nm.strip xs).length xs.length):=by
 obtain ⟨b,d,c⟩:=h;have a:=Nm.aA2 xs;refine ⟨by simp,Or.inr ⟨G,xs.length,b,rfl,e,d,a,by unfold maxLen;omega,?_,?_⟩⟩
 ·rw [<-Array.length_toList,c];simp
 ·rw [c,Nat.mul_one,<-List.map_take,<-Nm.aEj]
def addRel (w:World)(a b:List Int)(N:Nat)(c i:Value)(wr:World):Prop:=
 ∃ (k:Nat) (cc:Int) (out:List Int),i=.int .i64 k/\c=.int .u64 cc/\0<=cc/\cc<=1/\k<=N+1/\LBlk wr w.heap.size out/\out.length=N+1/\Nm.Dig 4294967296 out/\Below w.heap.size w wr/\
  Nm.val 4294967296 (out.take k)+cc*4294967296^k=Nm.val 4294967296 (a.take k)+Nm.val 4294967296 (b.take k)
theorem aET {w wr:World}{a b c:List Int}{N k:Nat}{i x:Int}(c0:0<=i)(c1:i<=1)(p:k<N+1)(d:LBlk wr w.heap.size c)(e:c.length=N+1)(f:Nm.Dig 4294967296 c)(g:Below w.heap.size w wr)(j:Nm.Dig 4294967296 a)(l:Nm.Dig 4294967296 b)
  (h:Nm.val 4294967296 (c.take k)+i*4294967296^k=Nm.val 4294967296 (a.take k)+Nm.val 4294967296 (b.take k)) (m:x=i+Nm.at' a k+Nm.at' b k):
  addRel w a b N (.int .u64 (x/4294967296)) (.int .i64 ((k:Int)+1)) (wr.setCell ⟨w.heap.size,k,none⟩ (.int .u32 (x%4294967296))):=by
 have n:=j.at' (by decide) k;have o:=l.at' (by decide) k;refine ⟨k+1,x/4294967296,c.set k (x%4294967296),by simp,rfl,by omega,by omega,by omega,d.set _ _,by simpa using e,f.set _ (by omega) (by omega),g.setCell (by simp) _,?_⟩;rw [Nm.aEP (by omega)];exact Nm.aMN (by rw [List.length_take];omega) h m
theorem aH8 (w:World)(a b:List Int)(u v:Value)(N:Lims w a u)(O:Lims w b v)(ap:a.length<=10000000000)(aq:b.length<=10000000000)(M:Nm.Dig 4294967296 a)(A:Nm.Dig 4294967296 b)(ar:(a.length:Int)<b.length):
  Calls Tryz.prog 118 #[u,v] w (LimPost w fun xs=>Nm.Good 4294967296 xs/\Nm.val 4294967296 xs=Nm.val 4294967296 a+Nm.val 4294967296 b):=by
 obtain ⟨ao,af,rfl,X⟩:=N.shape;obtain ⟨bo,ag,rfl,Y⟩:=O.shape;have C:=run_make_row' (P:=Tryz.prog) 78 142 (.int .u32 0) 4 Tryz.underlying78 infoU rfl .i64 .i64 (b.length+1) (by omega) (by omega);rw [show ((b.length+1:Nat):Int)=(b.length:Int)+1 by omega] at C;have HA:=hid N;have R:=hid O;have D:=hid M;have E:=hid A;clear N O M A
 go_enter Tryz.func118,Tryz.ntmps118
 go_wp2_with fail
 go_loopw [7,8] (fun c i wr=>addRel w a b b.length c i wr) (fun _ i _=>b.length+1-(intOf i).toNat)
 case atStart=>exact ⟨0,0,List.replicate (b.length+1) 0,rfl,rfl,by omega,by omega,by omega,LBlk.made w _,by simp,Nm.Dig.zeros (by decide) _,belowW (Below.refl _ _) (Nat.le_refl _) _,rfl⟩
 case round=>
  obtain ⟨k,cc,m,rfl,rfl,s,c1,hk,f,d,j,g,l⟩:=hrel
  by_cases al:(k:Int)<(b.length:Int)+1
  ·have k1:=f.cell k (by omega);have k2:=f.frozen k;have F:=hid (fun x hx=>aET (x:=x) s c1 (by omega) f d j g D.out E.out l hx);have H:=D.out.at' (by decide) k;have I:=E.out.at' (by decide) k;have S:=hid d
   by_cases g1:(k:Int)<a.length
   ·obtain ⟨M,rfl,t⟩:=(HA.out.below g).place (by omega);have x1:=t k (by omega);clear t
    by_cases g2:(k:Int)<b.length
    ·obtain ⟨A,rfl,p⟩:=(R.out.below g).place (by omega);have x2:=p k (by omega);clear p l d j g f;generalize Nm.at' a k=x at*;generalize Nm.at' b k=y at*;generalize Nm.at' m k=o at*;obtain ⟨a1,a2⟩:=H;obtain ⟨b1,b2⟩:=I
     go_wp2_with fail
     go_roundw
     case rel=>exact F.out _ (by omega)
     case measure=>simp [intOf];omega
    ·exfalso;omega
   ·have z:=Nm.aCm (xs:=a) (i:=k) (by omega)
    by_cases g2:(k:Int)<b.length
    ·obtain ⟨A,rfl,p⟩:=(R.out.below g).place (by omega);have x2:=p k (by omega);clear p l d j g f;generalize Nm.at' a k=x at*;generalize Nm.at' b k=y at*;generalize Nm.at' m k=o at*;obtain ⟨b1,b2⟩:=I;have q:=hid z;clear z H
     go_wp2_with fail
     go_roundw
     case rel=>exact F.out _ (by have:=q.out;omega)
     case measure=>simp [intOf];omega
    ·have T:=Nm.aCm (xs:=b) (i:=k) (by omega);clear l d j g f;generalize Nm.at' a k=x at*;generalize Nm.at' b k=y at*;generalize Nm.at' m k=o at*;have q:=hid z;have J:=hid T;clear z H T I
     go_wp2_with fail
     go_roundw
     case rel=>
      have h:=F.out cc (by have:=q.out;have:=J.out;omega)
      first
       | exact h
       | (rw [Int.emod_eq_of_lt s (by omega)] at h;exact h)
       | (rw [Int.emod_eq_of_lt s (by omega),Int.ediv_eq_zero_of_lt s (by omega)] at h;exact h)
     case measure=>simp [intOf];omega
  ·obtain rfl:k=b.length+1:=by omega
   have HE:=hid (Nm.aJD (by decide) d j (by omega) (by omega) D.out E.out s l);have U:=hid (aBU wr m _ 0 (f.lims (by omega)) (by omega));rw [d] at U;have L:=Nm.aA2 m;rw [d] at L;have W:=hid (f.used (B:=w.heap.size) (by omega) (Nat.le_refl _));rw [d] at W;have HD:=hid j;have r:=hid g;clear l d j g f;generalize hn:(Nm.strip m).length=n at*;clear hn
   go_wp2_with fail
   refine (U.out).mono ?_;rintro e w1 ⟨rfl,rfl⟩
   go_wp2_with fail
   go_ret
   exact ⟨_,Nm.strip m,rfl,⟨Nm.aA8 HD.out,by rw [Nm.aBv,HE.out]⟩,W.out,r.out⟩
theorem aH7 (w:World)(a b:List Int)(u v:Value)(N:Lims w a u)(O:Lims w b v)(an:a.length<=10000000000)(ap:b.length<=10000000000)(L:Nm.Dig 4294967296 a)(M:Nm.Dig 4294967296 b)(aq:¬(a.length:Int)<b.length):
  Calls Tryz.prog 118 #[u,v] w (LimPost w fun xs=>Nm.Good 4294967296 xs/\Nm.val 4294967296 xs=Nm.val 4294967296 a+Nm.val 4294967296 b):=by
 obtain ⟨ao,ae,rfl,W⟩:=N.shape;obtain ⟨bo,af,rfl,X⟩:=O.shape;have A:=run_make_row' (P:=Tryz.prog) 78 142 (.int .u32 0) 4 Tryz.underlying78 infoU rfl .i64 .i64 (a.length+1) (by omega) (by omega);rw [show ((a.length+1:Nat):Int)=(a.length:Int)+1 by omega] at A;have Y:=hid N;have HB:=hid O;have C:=hid L;have D:=hid M;clear N O L M
 go_enter Tryz.func118,Tryz.ntmps118
 go_wp2_with fail
 go_loopw [7,8] (fun c i wr=>addRel w a b a.length c i wr) (fun _ i _=>a.length+1-(intOf i).toNat)
 case atStart=>exact ⟨0,0,List.replicate (a.length+1) 0,rfl,rfl,by omega,by omega,by omega,LBlk.made w _,by simp,Nm.Dig.zeros (by decide) _,belowW (Below.refl _ _) (Nat.le_refl _) _,rfl⟩
 case round=>
  obtain ⟨k,cc,m,rfl,rfl,s,c1,hk,f,d,j,g,l⟩:=hrel
  by_cases ak:(k:Int)<(a.length:Int)+1
  ·have k1:=f.cell k (by omega);have k2:=f.frozen k;have E:=hid (fun x hx=>aET (x:=x) s c1 (by omega) f d j g C.out D.out l hx);have F:=C.out.at' (by decide) k;have H:=D.out.at' (by decide) k;have R:=hid d
   by_cases g1:(k:Int)<a.length
   ·obtain ⟨L,rfl,t⟩:=(Y.out.below g).place (by omega);have x1:=t k (by omega);clear t
    by_cases g2:(k:Int)<b.length
    ·obtain ⟨M,rfl,z⟩:=(HB.out.below g).place (by omega);have x2:=z k (by omega);clear z l d j g f;generalize Nm.at' a k=x at*;generalize Nm.at' b k=y at*;generalize Nm.at' m k=o at*;obtain ⟨a1,a2⟩:=F;obtain ⟨b1,b2⟩:=H
     go_wp2_with fail
     go_roundw
     case rel=>exact E.out _ (by omega)
     case measure=>simp [intOf];omega
    ·have q:=Nm.aCm (xs:=b) (i:=k) (by omega);clear l d j g f;generalize Nm.at' a k=x at*;generalize Nm.at' b k=y at*;generalize Nm.at' m k=o at*;obtain ⟨a1,a2⟩:=F;have p:=hid q;clear q H
     go_wp2_with fail
     go_roundw
     case rel=>exact E.out _ (by have:=p.out;omega)
     case measure=>simp [intOf];omega
   ·have S:=Nm.aCm (xs:=a) (i:=k) (by omega)
    by_cases g2:(k:Int)<b.length
    ·exfalso;omega
    ·have q:=Nm.aCm (xs:=b) (i:=k) (by omega);clear l d j g f;generalize Nm.at' a k=x at*;generalize Nm.at' b k=y at*;generalize Nm.at' m k=o at*;have I:=hid S;have p:=hid q;clear S F q H
     go_wp2_with fail
     go_roundw
     case rel=>
      have h:=E.out cc (by have:=I.out;have:=p.out;omega)
      first
       | exact h
       | (rw [Int.emod_eq_of_lt s (by omega)] at h;exact h)
       | (rw [Int.emod_eq_of_lt s (by omega),Int.ediv_eq_zero_of_lt s (by omega)] at h;exact h)
     case measure=>simp [intOf];omega
  ·obtain rfl:k=a.length+1:=by omega
   have HE:=hid (Nm.aJD (by decide) d j (by omega) (by omega) C.out D.out s l);have T:=hid (aBU wr m _ 0 (f.lims (by omega)) (by omega));rw [d] at T;have J:=Nm.aA2 m;rw [d] at J;have U:=hid (f.used (B:=w.heap.size) (by omega) (Nat.le_refl _));rw [d] at U;have HD:=hid j;have r:=hid g;clear l d j g f;generalize hn:(Nm.strip m).length=n at*;clear hn
   go_wp2_with fail
   refine (T.out).mono ?_;rintro e w1 ⟨rfl,rfl⟩
   go_wp2_with fail
   go_ret
   exact ⟨_,Nm.strip m,rfl,⟨Nm.aA8 HD.out,by rw [Nm.aBv,HE.out]⟩,U.out,r.out⟩
theorem aEq (w:World)(a b:List Int)(u v:Value)(e:Lims w a u)(f:Lims w b v)(c:a.length<=10000000000)(d:b.length<=10000000000)(g:Nm.Dig 4294967296 a)(i:Nm.Dig 4294967296 b):
  Calls Tryz.prog 118 #[u,v] w (LimPost w fun xs=>Nm.Good 4294967296 xs/\Nm.val 4294967296 xs=Nm.val 4294967296 a+Nm.val 4294967296 b):=by
 by_cases h:(a.length:Int)<b.length
 ·exact aH8 w a b u v e f c d g i h
 ·exact aH7 w a b u v e f c d g i h
open Go.RowKit
def subRel (w:World)(a b:List Int)(c i:Value)(wr:World):Prop:=
 ∃ (k:Nat) (cc:Int) (out:List Int),i=.int .i64 k/\c=.int .u64 cc/\0<=cc/\cc<=1/\k<=a.length/\LBlk wr w.heap.size out/\out.length=a.length/\Nm.Dig 4294967296 out/\Below w.heap.size w wr/\
  Nm.val 4294967296 (out.take k)+Nm.val 4294967296 (b.take k)=Nm.val 4294967296 (a.take k)+cc*4294967296^k
theorem aII {w wr:World}{a b c:List Int}{k:Nat}{j c' d:Int}(c0:0<=c')(c1:c'<=1)(n:k<a.length)(e:LBlk wr w.heap.size c)(f:c.length=a.length)(g:Nm.Dig 4294967296 c)(h:Below w.heap.size w wr)
  (i:Nm.val 4294967296 (c.take k)+Nm.val 4294967296 (b.take k)=Nm.val 4294967296 (a.take k)+j*4294967296^k) (l:0<=d) (d1:d<4294967296) (m:d=Nm.at' a k-Nm.at' b k-j+c'*4294967296):
  subRel w a b (.int .u64 c') (.int .i64 ((k:Int)+1)) (wr.setCell ⟨w.heap.size,k,none⟩ (.int .u32 d)):=by
 refine ⟨k+1,c',c.set k d,by simp,rfl,c0,c1,by omega,e.set _ _,by simpa using f,g.set _ l d1,h.setCell (by simp) _,?_⟩;rw [Nm.aEP (by omega)];exact Nm.aMh (by rw [List.length_take];omega) i m
theorem aAO (w:World)(a b:List Int)(u v:Value)(H:Lims w a u)(I:Lims w b v)(aq:a.length<=10000000000)(J:b.length<=a.length)(E:Nm.Dig 4294967296 a)(F:Nm.Dig 4294967296 b)(z:Nm.val 4294967296 b<=Nm.val 4294967296 a):
  Calls Tryz.prog 120 #[u,v] w (LimPost w fun xs=>Nm.Good 4294967296 xs/\Nm.val 4294967296 xs=Nm.val 4294967296 a-Nm.val 4294967296 b):=by
 obtain ⟨ao,ah,rfl,T⟩:=H.shape;obtain ⟨bo,ai,rfl,U⟩:=I.shape;have X:=run_make_row' (P:=Tryz.prog) 78 142 (.int .u32 0) 4 Tryz.underlying78 infoU rfl .i64 .i64 a.length (by omega) (by omega);have Y:=hid H;have HB:=hid I;have GA:=hid E;have GB:=hid F;have C:=hid z;clear H I E F z
 go_enter Tryz.func120,Tryz.ntmps120
 go_wp2_with fail
 go_loopw [6,7] (fun c i wr=>subRel w a b c i wr) (fun _ i _=>a.length-(intOf i).toNat)
 case atStart=>exact ⟨0,0,List.replicate a.length 0,rfl,rfl,by omega,by omega,by omega,LBlk.made w _,by simp,Nm.Dig.zeros (by decide) _,belowW (Below.refl _ _) (Nat.le_refl _) _,rfl⟩
 case round=>
  obtain ⟨k,W,l,rfl,rfl,c0,c1,hk,f,g,j,h,m⟩:=hrel
  by_cases am:(k:Int)<a.length
  ·have k1:=f.cell k (by omega);have k2:=f.frozen k;have A:=hid (fun c' d c0' c1' d0 d1 hd=>aII (c':=c') (d:=d) c0' c1' (by omega) f g j h m d0 d1 hd);have L:=GA.out.at' (by decide) k;have M:=GB.out.at' (by decide) k;have N:=hid g;obtain ⟨E,rfl,s⟩:=(Y.out.below h).place (by omega);have x1:=s k (by omega);clear s
   by_cases g2:(k:Int)<b.length
   ·obtain ⟨F,rfl,t⟩:=(HB.out.below h).place (by omega);have x2:=t k (by omega);clear t m g j h f;generalize Nm.at' a k=x at*;generalize Nm.at' b k=y at*;generalize Nm.at' l k=o at*;obtain ⟨a1,a2⟩:=L;obtain ⟨b1,b2⟩:=M
    by_cases hc:x<W+y
    ·go_wp2_with fail
     go_roundw
     case rel=>exact A.out 1 _ (by omega) (by omega) (by omega) (by omega) (by omega)
     case measure=>simp [intOf];omega
    ·go_wp2_with fail
     go_roundw
     case rel=>exact A.out 0 _ (by omega) (by omega) (by omega) (by omega) (by omega)
     case measure=>simp [intOf];omega
   ·have O:=Nm.aCm (xs:=b) (i:=k) (by omega);clear m g j h f;generalize Nm.at' a k=x at*;generalize Nm.at' b k=y at*;generalize Nm.at' l k=o at*;obtain ⟨a1,a2⟩:=L;have p:=hid O;clear O M
    by_cases hc:x<W
    ·go_wp2_with fail
     go_roundw
     case rel=>exact A.out 1 _ (by omega) (by omega) (by omega) (by omega) (by have:=p.out;omega)
     case measure=>simp [intOf];omega
    ·go_wp2_with fail
     go_roundw
     case rel=>exact A.out 0 _ (by omega) (by omega) (by omega) (by omega) (by have:=p.out;omega)
     case measure=>simp [intOf];omega
  ·obtain rfl:k=a.length:=by omega
   have q:(l.take a.length).length=a.length:=by rw [List.length_take];omega
   have HE:=hid (Nm.aOh (by decide) rfl q (j.take _) c0 C.out J m);have HT:=hid (show l.take a.length=l from List.take_of_length_le (by omega));have R:=hid (aBU wr l _ 0 (f.lims (by omega)) (by omega));rw [g] at R;have D:=Nm.aA2 l;rw [g] at D;have S:=hid (f.used (B:=w.heap.size) (by omega) (Nat.le_refl _));rw [g] at S;have HD:=hid j;have r:=hid h;clear m g j h f q;generalize hn:(Nm.strip l).length=n at*;clear hn
   go_wp2_with fail
   refine (R.out).mono ?_;rintro e w1 ⟨rfl,rfl⟩
   go_wp2_with fail
   go_ret
   exact ⟨_,Nm.strip l,rfl,⟨Nm.aA8 HD.out,by rw [Nm.aBv,<-HE.out.2,HT.out]⟩,S.out,r.out⟩
open Go.RowKit
theorem Nm.aCU {l:List Int}{k j:Nat}{x:Int}(h:k≠j):Nm.at' (l.set k x) j=Nm.at' l j:=by
 unfold Nm.at';simp [List.getD,List.getElem?_set_ne h]
theorem Nm.aI1 (n i:Nat):Nm.at' (List.replicate n 0) i=0:=by
 unfold Nm.at';rw [List.getD_eq_getElem?_getD]
 cases h:(List.replicate n (0:Int))[i]? with
 | none=>rfl
 | some x=>have:=List.mem_of_getElem? h;rw [List.mem_replicate] at this;rw [this.2];rfl
def wmOut (w:World)(S L:List Int)(i:Value)(wr:World):Prop:=
 ∃ (k:Nat) (out:List Int),i=.int .i64 k/\k<=S.length/\LBlk wr w.heap.size out/\out.length=S.length+L.length/\Nm.Dig 4294967296 out/\Below w.heap.size w wr/\Nm.val 4294967296 out=Nm.val 4294967296 (S.take k)*Nm.val 4294967296 L/\(∀ t,k+L.length<=t->Nm.at' out t=0)
def wmIn (w:World)(S L:List Int)(i:Nat)(c jv:Value)(wr:World):Prop:=
 ∃ (j:Nat) (cc:Int) (out:List Int),jv=.int .i64 j/\c=.int .u64 cc/\0<=cc/\cc<4294967296/\j<=L.length/\LBlk wr w.heap.size out/\out.length=S.length+L.length/\Nm.Dig 4294967296 out/\Below w.heap.size w wr/\
  Nm.val 4294967296 out+cc*4294967296^(i+j)=Nm.val 4294967296 (S.take i)*Nm.val 4294967296 L+Nm.at' S i*Nm.val 4294967296 (L.take j)*4294967296^i/\(∀ t,i+L.length<=t->Nm.at' out t=0)
theorem aP2 {a b c:List Int}{k:Nat}{d:Int}(e:k+b.length<c.length)(f:Nm.at' c (k+b.length)=0)(h:Nm.val 4294967296 c+d*4294967296^(k+b.length)=Nm.val 4294967296 (a.take k)*Nm.val 4294967296 b+Nm.at' a k*Nm.val 4294967296 (b.take b.length)*4294967296^k):
  Nm.val 4294967296 (c.set (k+b.length) d)=Nm.val 4294967296 (a.take (k+1))*Nm.val 4294967296 b:=by
 rw [List.take_length] at h;rw [Nm.aNC _ _ _ _ e,f,Nm.aBx];generalize (4294967296:Int)^(k+b.length)=P at*;grind
theorem aBN (w:World)(a b:List Int)(u v:Value)(ha:Lims w a u)(hb:Lims w b v)(b8:a.length<=10000000000)(b9:b.length<=10000000000)(ga:Nm.Dig 4294967296 a)(gb:Nm.Dig 4294967296 b):
  Calls Tryz.prog 153 #[u,v] w (LimPost w fun xs=>Nm.Good 4294967296 xs/\Nm.val 4294967296 xs=Nm.val 4294967296 a*Nm.val 4294967296 b):=by
 obtain ⟨ao,bj,rfl,a6⟩:=ha.shape;obtain ⟨bo,bk,rfl,a7⟩:=hb.shape;have al:=run_make_row' (P:=Tryz.prog) 78 142 (.int .u32 0) 4 Tryz.underlying78 infoU rfl .i64 .i64 (a.length+b.length) (by omega) (by omega);rw [show ((a.length+b.length:Nat):Int)=(a.length:Int)+b.length by omega] at al
 by_cases b6:(b.length:Int)<a.length
 ·have W:=hid hb;have I:=hid ha;have GS:=hid gb;have GL:=hid ga;clear ha hb ga gb
  go_enter Tryz.func153,Tryz.ntmps153
  go_wp2_with fail
  go_loopw [8] (fun i wr=>wmOut w b a i wr) (fun i _=>b.length-(intOf i).toNat)
  case atStart=>exact ⟨0,List.replicate (a.length+b.length) 0,rfl,Nat.zero_le _,LBlk.made w _,by simp;try omega,Nm.Dig.zeros (by decide) _,belowW (Below.refl _ _) (Nat.le_refl _) _,by rw [Nm.aFv];simp [Nm.val],fun t _=>Nm.aI1 _ _⟩
  case round=>
   obtain ⟨k,z,rfl,hk,d,h,l,m,p,s⟩:=hrel;have HV:=hid p;have J:=hid h;have E:=hid l;have A:=hid m;have L:=hid d;have N:=hid s;have hs:=d.lt
   by_cases a4:(k:Int)<b.length
   ·obtain ⟨g,rfl,_⟩:=W.out.place (by omega)
    obtain ⟨wo,U⟩:∃ wo:World,wo=wr:=⟨_,rfl⟩
    subst U;have x1:=(W.out.below A.out).cellG k (by omega);clear p h l m d s;have O:=GS.out.at' (by decide) k
    have i5:(k:Int)+a.length<=(a.length:Int)+b.length:=by omega
    have i6:IntKind.i64.wrap ((k:Int)+a.length)=(k:Int)+a.length:=by rw [IntKind.wrap_i64];omega
    have i7:((k:Int)+a.length).toNat=k+a.length:=by omega
    have i8:k+a.length-k=a.length:=by omega
    have i9:(0:Int)<=(k:Int)+a.length:=by omega
    have aq:(k:Int)<=(k:Int)+a.length:=by omega
    have ar:k+a.length<=a.length+b.length:=by omega
    have au:k<=k+a.length:=by omega
    go_wp2_with fail
    go_loopw [11,12] (fun c j wr=>wmIn w b a k c j wr) (fun _ j _=>a.length-(intOf j).toNat)
    case atStart=>
     refine ⟨0,0,z,rfl,rfl,by omega,by omega,by omega,L.out,J.out,E.out,A.out,?_,N.out⟩;rw [HV.out];simp [Nm.val]
    case round=>
     obtain ⟨j,H,f,rfl,rfl,c0,c1,hj,d,h,l,m,p,s⟩:=hrel;have av:=d.lt
     by_cases gg:(j:Int)<a.length
     ·have C:k+j<f.length:=by rw [h];omega
      obtain ⟨g2,rfl,_⟩:=I.out.place (by omega);have y1:=(I.out.below m).cellG j (by omega);have x2:=d.cell (k+j) C;have x3:=d.frozen (k+j);have R:=GL.out.at' (by decide) j;have S:=l.at' (by decide) (k+j);have D:=Nm.aHv (x:=H+Nm.at' f (k+j)+Nm.at' b k*Nm.at' a j) (by decide) c0 c1 S.1 S.2 O.1 O.2 R.1 R.2 rfl;have Y:=hid (Nm.aJr (x:=H+Nm.at' f (k+j)+Nm.at' b k*Nm.at' a j) C p rfl)
      have F:Hid (∀ X q,X=H+Nm.at' f (k+j)+Nm.at' b k*Nm.at' a j->wmIn w b a k (.int .u64 (X/4294967296)) (.int .i64 ((j:Int)+1)) ((wr.drewN q).setCell ⟨w.heap.size,k+j,none⟩ (.int .u32 (X%4294967296)))):=by
       rintro X q rfl;refine ⟨j+1,_,f.set (k+j) ((H+Nm.at' f (k+j)+Nm.at' b k*Nm.at' a j)%4294967296),by simp,rfl,D.2.1,D.2.2.1,by omega,(show LBlk (wr.drewN q) w.heap.size f from d).set _ _,by simpa using h,l.set _ (by omega) (by omega),(below_drewN m q).setCell (by simp) _,Y.out,?_⟩;intro t ht;rw [Nm.aCU (by omega)];exact s t ht
      clear p h l m d s Y;generalize Nm.at' b k=x at*;generalize Nm.at' a j=y at*;generalize Nm.at' f (k+j)=o at*;obtain ⟨a1,a2⟩:=O;obtain ⟨b1,b2⟩:=R;obtain ⟨o1,o2⟩:=S;obtain ⟨k0,k1,k2,k3⟩:=D;have p0:0<=x*y:=Int.mul_nonneg a1 b1;have p1:x*y<=4294967295*4294967295:=Int.mul_le_mul (by omega) (by omega) b1 (by omega)
      go_wp2_with fail
      go_quiet (fail)
      go_wp2_with fail
      go_roundw
      case rel=>exact F.out (H+(x*y+o)) _ (by rw [Int.add_comm (x*y) o,Int.add_assoc])
      case measure=>simp [intOf];omega
     ·obtain rfl:j=a.length:=by omega
      have C:k+a.length<f.length:=by rw [h];omega
      have M:=hid (aP2 C (s _ (Nat.le_refl _)) p);have x2:=d.cell (k+a.length) C;have x3:=d.frozen (k+a.length)
      have F:Hid (wmOut w b a (.int .i64 ((k:Int)+1)) (wr.setCell ⟨w.heap.size,k+a.length,none⟩ (.int .u32 H))):=by
       refine ⟨k+1,f.set (k+a.length) H,by simp,by omega,d.set _ _,by simpa using h,l.set _ c0 c1,m.setCell (by simp) _,M.out,?_⟩;intro t ht;rw [Nm.aCU (by omega)];exact s t (by omega)
      have i1:(k:Int)+a.length<(a.length:Int)+b.length:=by omega
      clear p h l m d s M;generalize Nm.at' f (k+a.length)=o at*
      go_wp2_with fail
      go_roundw
      case rel=>exact F.out
      case measure=>simp [intOf];omega
   ·obtain rfl:k=b.length:=by omega
    have HE:=hid (show Nm.val 4294967296 z=Nm.val 4294967296 b*Nm.val 4294967296 a by rw [p,List.take_length]);have US:=hid (aBU wr z _ 0 (d.lims (by omega)) (by omega))
    have r:z.length=a.length+b.length:=by omega
    rw [r] at US;have T:=Nm.aA2 z;rw [r] at T;have I:=hid (d.used (B:=w.heap.size) (by omega) (Nat.le_refl _));rw [r] at I;clear p h l m d s r;generalize hn:(Nm.strip z).length=n at*;clear hn
    go_wp2_with fail
    refine (US.out).mono ?_;rintro e w1 ⟨rfl,rfl⟩
    go_wp2_with fail
    go_ret
    exact ⟨_,Nm.strip z,rfl,⟨Nm.aA8 E.out,by rw [Nm.aBv,HE.out];exact Int.mul_comm _ _⟩,I.out,A.out⟩
 ·have W:=hid ha;have I:=hid hb;have GS:=hid ga;have GL:=hid gb;clear ha hb ga gb
  go_enter Tryz.func153,Tryz.ntmps153
  go_wp2_with fail
  go_loopw [8] (fun i wr=>wmOut w a b i wr) (fun i _=>a.length-(intOf i).toNat)
  case atStart=>exact ⟨0,List.replicate (a.length+b.length) 0,rfl,Nat.zero_le _,LBlk.made w _,by simp;try omega,Nm.Dig.zeros (by decide) _,belowW (Below.refl _ _) (Nat.le_refl _) _,by rw [Nm.aFv];simp [Nm.val],fun t _=>Nm.aI1 _ _⟩
  case round=>
   obtain ⟨k,z,rfl,hk,d,h,l,m,p,s⟩:=hrel;have HV:=hid p;have J:=hid h;have E:=hid l;have A:=hid m;have L:=hid d;have N:=hid s;have hs:=d.lt
   by_cases a4:(k:Int)<a.length
   ·obtain ⟨g,rfl,_⟩:=W.out.place (by omega)
    obtain ⟨wo,U⟩:∃ wo:World,wo=wr:=⟨_,rfl⟩
    subst U;have x1:=(W.out.below A.out).cellG k (by omega);clear p h l m d s;have O:=GS.out.at' (by decide) k
    have i5:(k:Int)+b.length<=(a.length:Int)+b.length:=by omega
    have i6:IntKind.i64.wrap ((k:Int)+b.length)=(k:Int)+b.length:=by rw [IntKind.wrap_i64];omega
    have i7:((k:Int)+b.length).toNat=k+b.length:=by omega
    have i8:k+b.length-k=b.length:=by omega
    have i9:(0:Int)<=(k:Int)+b.length:=by omega
    have aq:(k:Int)<=(k:Int)+b.length:=by omega
    have ar:k+b.length<=a.length+b.length:=by omega
    have au:k<=k+b.length:=by omega
    go_wp2_with fail
    go_loopw [11,12] (fun c j wr=>wmIn w a b k c j wr) (fun _ j _=>b.length-(intOf j).toNat)
    case atStart=>
     refine ⟨0,0,z,rfl,rfl,by omega,by omega,by omega,L.out,J.out,E.out,A.out,?_,N.out⟩;rw [HV.out];simp [Nm.val]
    case round=>
     obtain ⟨j,H,f,rfl,rfl,c0,c1,hj,d,h,l,m,p,s⟩:=hrel;have av:=d.lt
     by_cases gg:(j:Int)<b.length
     ·have C:k+j<f.length:=by rw [h];omega
      obtain ⟨g2,rfl,_⟩:=I.out.place (by omega);have y1:=(I.out.below m).cellG j (by omega);have x2:=d.cell (k+j) C;have x3:=d.frozen (k+j);have R:=GL.out.at' (by decide) j;have S:=l.at' (by decide) (k+j);have D:=Nm.aHv (x:=H+Nm.at' f (k+j)+Nm.at' a k*Nm.at' b j) (by decide) c0 c1 S.1 S.2 O.1 O.2 R.1 R.2 rfl;have Y:=hid (Nm.aJr (x:=H+Nm.at' f (k+j)+Nm.at' a k*Nm.at' b j) C p rfl)
      have F:Hid (∀ X q,X=H+Nm.at' f (k+j)+Nm.at' a k*Nm.at' b j->wmIn w a b k (.int .u64 (X/4294967296)) (.int .i64 ((j:Int)+1)) ((wr.drewN q).setCell ⟨w.heap.size,k+j,none⟩ (.int .u32 (X%4294967296)))):=by
       rintro X q rfl;refine ⟨j+1,_,f.set (k+j) ((H+Nm.at' f (k+j)+Nm.at' a k*Nm.at' b j)%4294967296),by simp,rfl,D.2.1,D.2.2.1,by omega,(show LBlk (wr.drewN q) w.heap.size f from d).set _ _,by simpa using h,l.set _ (by omega) (by omega),(below_drewN m q).setCell (by simp) _,Y.out,?_⟩;intro t ht;rw [Nm.aCU (by omega)];exact s t ht
      clear p h l m d s Y;generalize Nm.at' a k=x at*;generalize Nm.at' b j=y at*;generalize Nm.at' f (k+j)=o at*;obtain ⟨a1,a2⟩:=O;obtain ⟨b1,b2⟩:=R;obtain ⟨o1,o2⟩:=S;obtain ⟨k0,k1,k2,k3⟩:=D;have p0:0<=x*y:=Int.mul_nonneg a1 b1;have p1:x*y<=4294967295*4294967295:=Int.mul_le_mul (by omega) (by omega) b1 (by omega)
      go_wp2_with fail
      go_quiet (fail)
      go_wp2_with fail
      go_roundw
      case rel=>exact F.out (H+(x*y+o)) _ (by rw [Int.add_comm (x*y) o,Int.add_assoc])
      case measure=>simp [intOf];omega
     ·obtain rfl:j=b.length:=by omega
      have C:k+b.length<f.length:=by rw [h];omega
      have M:=hid (aP2 C (s _ (Nat.le_refl _)) p);have x2:=d.cell (k+b.length) C;have x3:=d.frozen (k+b.length)
      have F:Hid (wmOut w a b (.int .i64 ((k:Int)+1)) (wr.setCell ⟨w.heap.size,k+b.length,none⟩ (.int .u32 H))):=by
       refine ⟨k+1,f.set (k+b.length) H,by simp,by omega,d.set _ _,by simpa using h,l.set _ c0 c1,m.setCell (by simp) _,M.out,?_⟩;intro t ht;rw [Nm.aCU (by omega)];exact s t (by omega)
      have i1:(k:Int)+b.length<(a.length:Int)+b.length:=by omega
      clear p h l m d s M;generalize Nm.at' f (k+b.length)=o at*
      go_wp2_with fail
      go_roundw
      case rel=>exact F.out
      case measure=>simp [intOf];omega
   ·obtain rfl:k=a.length:=by omega
    have HE:=hid (show Nm.val 4294967296 z=Nm.val 4294967296 a*Nm.val 4294967296 b by rw [p,List.take_length]);have US:=hid (aBU wr z _ 0 (d.lims (by omega)) (by omega))
    have r:z.length=a.length+b.length:=by omega
    rw [r] at US;have T:=Nm.aA2 z;rw [r] at T;have I:=hid (d.used (B:=w.heap.size) (by omega) (Nat.le_refl _));rw [r] at I;clear p h l m d s r;generalize hn:(Nm.strip z).length=n at*;clear hn
    go_wp2_with fail
    refine (US.out).mono ?_;rintro e w1 ⟨rfl,rfl⟩
    go_wp2_with fail
    go_ret
    exact ⟨_,Nm.strip z,rfl,⟨Nm.aA8 E.out,by rw [Nm.aBv,HE.out]⟩,I.out,A.out⟩
open Go.RowKit
theorem aBK {w:World}{k:Nat}{o:Obj}(o':Obj)(h:w.heap[k]?=some o):(w.alloc o').heap[k]?=some o:=by rw [Below.heap_alloc _ _ _ (aAL h)];exact h
structure Finw (w w2:World) (B:Nat) (z:Int) (p q:Value):Prop where
 c0:((w2.setCell ⟨B,0,none⟩ p).setCell ⟨B,1,none⟩ q).cell? ⟨B,0,none⟩=some p
 c1:((w2.setCell ⟨B,0,none⟩ p).setCell ⟨B,1,none⟩ q).cell? ⟨B,1,none⟩=some q
 num:WhoAt ((w2.setCell ⟨B,0,none⟩ p).setCell ⟨B,1,none⟩ q) z (.agg #[p,q])
 below:Below w.heap.size w ((w2.setCell ⟨B,0,none⟩ p).setCell ⟨B,1,none⟩ q)
theorem finw {w w2:World}{B:Nat}{x y p q:Value}{z:Int}(h:w2.heap[B]?=some (.cells #[x,y] 80 (0,0)))(d:WhoAt w2 z (.agg #[p,q]))(e:Below w.heap.size w w2)(c:w.heap.size<=B):Finw w w2 B z p q:=by
 have a:=aAS h (o:=0) p;have b:=aAS a (o:=1) q;exact ⟨aAa b rfl,aAa b rfl,(d.other h (by decide) p).other a (by decide) q,(e.setCell c _).setCell c _⟩
def boxw (w:World)(a b c d:Value):World:=((w.alloc (.cells #[a,b] 80)).alloc (.cells #[c,d] 80)).alloc (.cells #[.bool false,.slice none 0 0] 80)
theorem aCa (w:World)(a b c d:Value):Below w.heap.size w (boxw w a b c d).drew:=(belowW (belowW (belowW (Below.refl _ _) (Nat.le_refl _) _) (by simp) _) (by simp;omega) _).trans ((drewW _).mono (by simp [boxw];omega))
theorem aBd (w:World)(a b c d:Value):(boxw w a b c d).drew.heap.size=w.heap.size+3:=by simp [boxw]
theorem aDF (w:World)(a b c d:Value):(boxw w a b c d).drew.heap[w.heap.size]?=some (.cells #[a,b] 80 (0,0)):=aBK _ (aBK _ (aBE _ _))
theorem aEz (w:World)(a b c d:Value):(boxw w a b c d).drew.heap[w.heap.size+1]?=some (.cells #[c,d] 80 (0,0)):=by
 have:=aBK (.cells #[.bool false,.slice none 0 0] 80) (aBE (w.alloc (.cells #[a,b] 80)) (.cells #[c,d] 80));rw [World.size_alloc] at this;exact this
theorem aF5 (w:World)(a b c d:Value):(boxw w a b c d).drew.heap[w.heap.size+2]?=some (.cells #[.bool false,.slice none 0 0] 80 (0,0)):=by
 have:=aBE ((w.alloc (.cells #[a,b] 80)).alloc (.cells #[c,d] 80)) (.cells #[.bool false,.slice none 0 0] 80);rw [World.size_alloc,World.size_alloc] at this;exact this
theorem aAn (w:World)(a b c d:Value):Below w.heap.size w (boxw w a b c d):=belowW (belowW (belowW (Below.refl _ _) (Nat.le_refl _) _) (by simp) _) (by simp;omega) _
theorem aAD (w:World)(a b c d:Value):(boxw w a b c d).heap.size=w.heap.size+3:=by simp [boxw]
theorem aCx (w:World)(a b c d:Value):(boxw w a b c d).heap[w.heap.size]?=some (.cells #[a,b] 80 (0,0)):=aDF w a b c d
theorem aCe (w:World)(a b c d:Value):(boxw w a b c d).heap[w.heap.size+1]?=some (.cells #[c,d] 80 (0,0)):=aEz w a b c d
theorem aBc (w:World)(a b c d:Value):(boxw w a b c d).heap[w.heap.size+2]?=some (.cells #[.bool false,.slice none 0 0] 80 (0,0)):=aF5 w a b c d
theorem aBZ {W:World}{z:Int}{xs:List Int}{v:Value}{nb:Bool}(hI:Lims W xs v)(hg:Nm.Good 4294967296 xs)(hv:Nm.val 4294967296 xs=z.natAbs)(hb:nb=decide (z<0)):WhoAt W z (.agg #[.bool nb,v]):=⟨xs,v,by rw [hb],hI,hg,hv⟩
theorem aRX (n:Int)(w:World)(u:-9223372036854775808<=n)(x:n<9223372036854775808)(y:n<0):Calls Tryz.prog 94 #[.int .i64 n] w (WhoPost w n):=by
 have l:Hid (∀ W N,N=-n->Calls Tryz.prog 119 #[.int .u64 N] W (LimPost W fun b=>Nm.Good 4294967296 b/\Nm.val 4294967296 b=-n/\b.length<=2)):=by
  rintro W N rfl;exact aCg _ W (by omega) (by omega)
 have g:decide (n<0)=true:=by simpa using y
 go_enter Tryz.func94,Tryz.ntmps94
 go_wp2_with fail
 refine (l.out _ _ (by omega)).mono ?_;rintro e s ⟨D,b,rfl,⟨t,E,_⟩,f,c⟩;have d:=c.size;rw [World.size_alloc] at d;obtain ⟨j,k,rfl,_⟩:=f.shape;have a:=newW (by rw [World.size_alloc];omega) (aBE w (.cells #[.bool false,.slice none 0 0] 80)) c;have h:WhoAt s n (.agg #[.bool true,.slice j b.length k]):=aBZ (f.weak (Nat.zero_le _)) t (by omega) g.symm;have i:=(belowW (Below.refl w.heap.size w) (Nat.le_refl _) (.cells #[.bool false,.slice none 0 0] 80)).trans (c.mono (by rw [World.size_alloc];omega));have F:=finw a h i (by omega);have z:=aAb (o:=0) a;have A:=aAb (o:=1) a;have B:=aAa (o:=0) a rfl;have C:=aAa (o:=1) a rfl;have m:=F.c0;have p:=F.c1;have q:=hid F.num;have r:=hid F.below;clear F h i a;clear c f g
 go_wp2_with fail
 refine bodyPost_ret (v:=.agg #[.bool true,.slice j b.length k]) (by simp [results,Tryz.results94,go_sem,m,p]) rfl ⟨_,rfl,q.out,r.out⟩
theorem aRY (n:Int)(w:World)(u:-9223372036854775808<=n)(x:n<9223372036854775808)(y:¬n<0):Calls Tryz.prog 94 #[.int .i64 n] w (WhoPost w n):=by
 have l:Hid (∀ W N,N=n->Calls Tryz.prog 119 #[.int .u64 N] W (LimPost W fun b=>Nm.Good 4294967296 b/\Nm.val 4294967296 b=n/\b.length<=2)):=by
  rintro W N rfl;exact aCg _ W (by omega) (by omega)
 have g:decide (n<0)=false:=by simpa using y
 go_enter Tryz.func94,Tryz.ntmps94
 go_wp2_with fail
 refine (l.out _ _ (by omega)).mono ?_;rintro e s ⟨D,b,rfl,⟨t,E,_⟩,f,c⟩;have d:=c.size;rw [World.size_alloc] at d;obtain ⟨j,k,rfl,_⟩:=f.shape;have a:=newW (by rw [World.size_alloc];omega) (aBE w (.cells #[.bool false,.slice none 0 0] 80)) c;have h:WhoAt s n (.agg #[.bool false,.slice j b.length k]):=aBZ (f.weak (Nat.zero_le _)) t (by omega) g.symm;have i:=(belowW (Below.refl w.heap.size w) (Nat.le_refl _) (.cells #[.bool false,.slice none 0 0] 80)).trans (c.mono (by rw [World.size_alloc];omega));have F:=finw a h i (by omega);have z:=aAb (o:=0) a;have A:=aAb (o:=1) a;have B:=aAa (o:=0) a rfl;have C:=aAa (o:=1) a rfl;have m:=F.c0;have p:=F.c1;have q:=hid F.num;have r:=hid F.below;clear F h i a;clear c f g
 go_wp2_with fail
 refine bodyPost_ret (v:=.agg #[.bool false,.slice j b.length k]) (by simp [results,Tryz.results94,go_sem,m,p]) rfl ⟨_,rfl,q.out,r.out⟩
theorem aRW (n:Int)(w:World)(a:-9223372036854775808<=n)(b:n<9223372036854775808):Calls Tryz.prog 94 #[.int .i64 n] w (WhoPost w n):=by
 by_cases h:n<0
 ·exact aRX n w a b h
 ·exact aRY n w a b h
theorem aDY {a:List Int}{z:Int}(b:Nm.Good 4294967296 a)(c:Nm.val 4294967296 a=z.natAbs):a=[]↔z=0:=by
 have:=Nm.aCs (by decide) b;rw [c] at this;rw [<-this];omega
theorem aDZ (w:World)(z:Int)(v:Value)(h:WhoAt w z v):Calls Tryz.prog 72 #[v] w fun e w'=>e=.returned (.int .i64 (Nm.cmp z 0))/\Below w.heap.size w w':=by
 obtain ⟨b,j,g,rfl,i,c,d⟩:=h.open;have a:=aDY c d;clear i c d h
 rcases Int.lt_trichotomy z 0 with h0 | h0 | h0
 ·have f:((b.length:Int)==0)=false:=by
   simp only [beq_eq_false_iff_ne,ne_eq];intro h;have:=a.1 (List.eq_nil_of_length_eq_zero (by omega));omega
  rw [Nm.aAC h0,decide_eq_true h0];clear a
  go_enter Tryz.func72,Tryz.ntmps72
  go_wp2_with fail
  go_ret
  exact ⟨rfl,belowW (Below.refl _ _) (Nat.le_refl _) _⟩
 ·subst h0;have:=a.2 rfl;subst this;rw [Nm.aAz rfl];clear a
  go_enter Tryz.func72,Tryz.ntmps72
  go_wp2_with fail
  go_ret
  exact ⟨rfl,belowW (Below.refl _ _) (Nat.le_refl _) _⟩
 ·have f:((b.length:Int)==0)=false:=by
   simp only [beq_eq_false_iff_ne,ne_eq];intro h;have:=a.1 (List.eq_nil_of_length_eq_zero (by omega));omega
  rw [Nm.aAt h0,decide_eq_false (by omega)];clear a
  go_enter Tryz.func72,Tryz.ntmps72
  go_wp2_with fail
  go_ret
  exact ⟨rfl,belowW (Below.refl _ _) (Nat.le_refl _) _⟩
theorem aKb (w:World)(z:Int)(v:Value)(h:WhoAt w z v):Calls Tryz.prog 123 #[v] w (WhoPost w (-z)):=by
 obtain ⟨c,g,b,rfl,m,i,j⟩:=h.open;have k:=aDY i j;have d:=hid m;have f:=hid i;have l:=hid j;clear m i j h
 by_cases a:z<0
 ·rw [decide_eq_true a]
  go_enter Tryz.func123,Tryz.ntmps123
  go_wp2_with fail
  refine bodyPost_ret (v:=.agg #[.bool false,.slice g c.length b]) (by simp [results,Tryz.results123,go_sem]) rfl ⟨_,rfl,aBZ ((d.out.alloc _).alloc _) f.out (by rw [l.out];omega) (by symm;simp;omega),belowW (belowW (Below.refl _ _) (Nat.le_refl _) _) (by simp) _⟩
 ·rw [decide_eq_false a]
  by_cases n:z=0
  ·have e:=k.2 n;subst e
   go_enter Tryz.func123,Tryz.ntmps123
   go_wp2_with fail
   refine bodyPost_ret (v:=.agg #[.bool false,.slice g 0 b]) (by simp [results,Tryz.results123,go_sem]) rfl ⟨_,rfl,aBZ (xs:=[]) ((d.out.alloc _).alloc _) f.out rfl rfl,belowW (belowW (Below.refl _ _) (Nat.le_refl _) _) (by simp) _⟩
  ·have p:(0:Int)<c.length:=by
    rcases Nat.eq_zero_or_pos c.length with h | h
    ·exact absurd (k.1 (List.eq_nil_of_length_eq_zero h)) n
    ·omega
   have o:0<c.length:=by omega
   go_enter Tryz.func123,Tryz.ntmps123
   go_wp2_with fail
   refine bodyPost_ret (v:=.agg #[.bool true,.slice g c.length b]) (by simp [results,Tryz.results123,go_sem,o]) rfl ⟨_,rfl,aBZ ((d.out.alloc _).alloc _) f.out (by rw [l.out];omega) (by symm;simp;omega),belowW (belowW (Below.refl _ _) (Nat.le_refl _) _) (by simp) _⟩
theorem aFy (w:World)(z:Int)(v:Value)(h:WhoAt w z v):Calls Tryz.prog 147 #[v] w (WhoPost w (z.natAbs:Int)):=by
 obtain ⟨i,j,a,rfl,b,c,d⟩:=h.open;have e:=hid b;have f:=hid c;have g:=hid d;clear b c d h;generalize decide (z<0)=nb at*
 go_enter Tryz.func147,Tryz.ntmps147
 go_wp2_with fail
 refine bodyPost_ret (v:=.agg #[.bool false,.slice j i.length a]) (by simp [results,Tryz.results147,go_sem]) rfl ⟨_,rfl,aBZ ((e.out.alloc _).alloc _) f.out (by rw [g.out];simp) (by symm;simp),belowW (belowW (Below.refl _ _) (Nat.le_refl _) _) (by simp) _⟩
open Go.RowKit
theorem aK3 (w:World)(f nb:Bool)(ao h:Option Addr)(i j cap d:Nat)(z:Int)(P:List Int->Prop)(hs:f=nb)
  (n:∀ W,Below w.heap.size w W->Calls Tryz.prog 118 #[.slice ao i cap,.slice h j d] W (LimPost W P))
  (p:∀ W xs v,P xs->Lims W xs v->WhoAt W z (.agg #[.bool (f),v])):
  Calls Tryz.prog 137 #[.agg #[.bool f,.slice ao i cap],.agg #[.bool nb,.slice h j d]] w (WhoPost w z):=by
 subst hs;have q:=hid n;have r:=hid p;clear n p
 have s:¬(w.heap.size=w.heap.size+1+1):=by omega
 have t:¬(w.heap.size+1+1=w.heap.size):=by omega
 go_enter Tryz.func137,Tryz.ntmps137
 go_wp2_with fail
 go_region_held3 (fun w'=>w'.cell? ⟨w.heap.size,0,none⟩=some (.bool f)/\w'.cell? ⟨w.heap.size,1,none⟩=some (.slice ao i cap)/\w'.cell? ⟨w.heap.size+1,1,none⟩=some (.slice h j d)) (go_keep) (
   (go_at_call 118
    refine (q.out _ (aCa w _ _ _ _)).mono ?_;rintro e E ⟨R,xs,rfl,m,c,b⟩;have g:=b.size;rw [aBd] at g;obtain ⟨C,D,rfl,_⟩:=c.shape;have a:=newW (by rw [aBd];omega) (aF5 _ _ _ _ _) b;have H:=aAa (o:=0) (newW (by rw [aBd];omega) (aDF _ _ _ _ _) b) rfl;have I:=aAa (o:=1) (newW (by rw [aBd];omega) (aDF _ _ _ _ _) b) rfl;have J:=aAa (o:=1) (newW (by rw [aBd];omega) (aEz _ _ _ _ _) b) rfl
    have u:w.heap.size+1<E.heap.size:=by omega
    have k:=r.out _ xs _ m (c.weak (Nat.zero_le _));have l:=(aCa w _ _ _ _).trans (b.mono (aCa w _ _ _ _).size);have F:=finw a k l (by omega);have L:=aAb (o:=0) a;have M:=aAb (o:=1) a;have N:=aAa (o:=0) a rfl;have O:=aAa (o:=1) a rfl;have x:=F.c0;have y:=F.c1;have A:=hid F.num;have B:=hid F.below;clear F k l a
    clear b c m))
 all_goals
  go_wp2_with fail
  refine bodyPost_ret (v:=.agg #[.bool (f),.slice C xs.length D]) (by simp [results,Tryz.results137,go_sem,x,y]) rfl ⟨_,rfl,A.out,B.out⟩
theorem aPc (w:World)(h nb:Bool)(ao j:Option Addr)(k l cap d:Nat)(z:Int)(P:List Int->Prop)(hs:(h==nb)=false)
  (x:∀ W,Below w.heap.size w W->Calls Tryz.prog 154 #[.slice ao k cap,.slice j l d] W fun e w'=>e=.returned (.int .i64 (1))/\Below W.heap.size W w')
  (y:∀ W,Below w.heap.size w W->Calls Tryz.prog 120 #[.slice ao k cap,.slice j l d] W (LimPost W P))
  (A:∀ W xs v,P xs->Lims W xs v->WhoAt W z (.agg #[.bool h,v])):
  Calls Tryz.prog 137 #[.agg #[.bool h,.slice ao k cap],.agg #[.bool nb,.slice j l d]] w (WhoPost w z):=by
 have B:=hid x;have C:=hid y;have D:=hid A;clear y A x
 have E:¬(w.heap.size=w.heap.size+1+1):=by omega
 have H:¬(w.heap.size+1+1=w.heap.size):=by omega
 go_enter Tryz.func137,Tryz.ntmps137
 go_wp2_with fail
 refine (B.out _ (aAn w _ _ _ _)).mono ?_;rintro e w0 ⟨rfl,c⟩;have m:=c.size;rw [aAD] at m;have q:=newW (by rw [aAD];omega) (aBc _ _ _ _ _) c;have r:=newW (by rw [aAD];omega) (aCe _ _ _ _ _) c;have n:=newW (by rw [aAD];omega) (aCx _ _ _ _ _) c;have I:=aAa (o:=0) n rfl;have J:=aAa (o:=1) n rfl;have L:=aAa (o:=1) r rfl;have i:=hid ((aAn w _ _ _ _).trans (c.mono (aAn w _ _ _ _).size));clear c n r
 go_wp2_with fail
 go_region_held3 (fun w'=>w'.cell? ⟨w.heap.size,0,none⟩=some (.bool h)/\w'.cell? ⟨w.heap.size,1,none⟩=some (.slice ao k cap)/\w'.cell? ⟨w.heap.size+1,1,none⟩=some (.slice j l d)) (go_keep) (
   (go_at_call 120
    refine (C.out _ (i.out.trans ((drewW _).mono i.out.size))).mono ?_;rintro e w1 ⟨v1,xs,rfl,u,g,f⟩;have b:=undrewW f;clear f;have M:=b.size;obtain ⟨T,U,rfl,_⟩:=g.shape;have a:=newW (by omega) q b;have X:=(b.cell (p:=⟨w.heap.size,0,none⟩) (by simp only;omega)).trans I;have Y:=(b.cell (p:=⟨w.heap.size,1,none⟩) (by simp only;omega)).trans J;have x2:=(b.cell (p:=⟨w.heap.size+1,1,none⟩) (by simp only;omega)).trans L;have s:=D.out _ xs _ u (g.weak (Nat.zero_le _));have t:=i.out.trans (b.mono i.out.size);have F:=finw a s t (by omega);have r0:=aAb (o:=0) a;have r1:=aAb (o:=1) a;have s0:=aAa (o:=0) a rfl;have s1:=aAa (o:=1) a rfl;have N:=F.c0;have O:=F.c1;have R:=hid F.num;have S:=hid F.below;clear F s t a
    clear b g u q))
 all_goals
  go_wp2_with fail
  refine bodyPost_ret (v:=.agg #[.bool h,.slice T xs.length U]) (by simp [results,Tryz.results137,go_sem,N,O]) rfl ⟨_,rfl,R.out,S.out⟩
theorem aPd (w:World)(u nb:Bool)(ao i:Option Addr)(j k cap d:Nat)(z:Int)(P:List Int->Prop)(hs:(u==nb)=false)
  (x:∀ W,Below w.heap.size w W->Calls Tryz.prog 154 #[.slice ao j cap,.slice i k d] W fun e w'=>e=.returned (.int .i64 (-1))/\Below W.heap.size W w')
  (y:∀ W,Below w.heap.size w W->Calls Tryz.prog 120 #[.slice i k d,.slice ao j cap] W (LimPost W P))
  (A:∀ W xs v,P xs->Lims W xs v->WhoAt W z (.agg #[.bool nb,v])):
  Calls Tryz.prog 137 #[.agg #[.bool u,.slice ao j cap],.agg #[.bool nb,.slice i k d]] w (WhoPost w z):=by
 have B:=hid x;have C:=hid y;have D:=hid A;clear y A x
 have E:¬(w.heap.size=w.heap.size+1+1):=by omega
 have H:¬(w.heap.size+1+1=w.heap.size):=by omega
 go_enter Tryz.func137,Tryz.ntmps137
 go_wp2_with fail
 refine (B.out _ (aAn w _ _ _ _)).mono ?_;rintro e w0 ⟨rfl,c⟩;have l:=c.size;rw [aAD] at l;have n:=newW (by rw [aAD];omega) (aBc _ _ _ _ _) c;have m:=newW (by rw [aAD];omega) (aCe _ _ _ _ _) c;have q:=newW (by rw [aAD];omega) (aCx _ _ _ _ _) c;have I:=aAa (o:=0) m rfl;have J:=aAa (o:=1) q rfl;have L:=aAa (o:=1) m rfl;have h:=hid ((aAn w _ _ _ _).trans (c.mono (aAn w _ _ _ _).size));clear c q m
 go_wp2_with fail
 go_region_held3 (fun w'=>w'.cell? ⟨w.heap.size+1,0,none⟩=some (.bool nb)/\w'.cell? ⟨w.heap.size,1,none⟩=some (.slice ao j cap)/\w'.cell? ⟨w.heap.size+1,1,none⟩=some (.slice i k d)) (go_keep) (
   (go_at_call 120
    refine (C.out _ (h.out.trans ((drewW _).mono h.out.size))).mono ?_;rintro e w1 ⟨v1,xs,rfl,t,g,f⟩;have b:=undrewW f;clear f;have M:=b.size;obtain ⟨T,U,rfl,_⟩:=g.shape;have a:=newW (by omega) n b;have X:=(b.cell (p:=⟨w.heap.size+1,0,none⟩) (by simp only;omega)).trans I;have Y:=(b.cell (p:=⟨w.heap.size,1,none⟩) (by simp only;omega)).trans J;have x2:=(b.cell (p:=⟨w.heap.size+1,1,none⟩) (by simp only;omega)).trans L;have r:=D.out _ xs _ t (g.weak (Nat.zero_le _));have s:=h.out.trans (b.mono h.out.size);have F:=finw a r s (by omega);have r0:=aAb (o:=0) a;have r1:=aAb (o:=1) a;have s0:=aAa (o:=0) a rfl;have s1:=aAa (o:=1) a rfl;have N:=F.c0;have O:=F.c1;have R:=hid F.num;have S:=hid F.below;clear F r s a
    clear b g t n))
 all_goals
  go_wp2_with fail
  refine bodyPost_ret (v:=.agg #[.bool nb,.slice T xs.length U]) (by simp [results,Tryz.results137,go_sem,N,O]) rfl ⟨_,rfl,R.out,S.out⟩
theorem aGU (W:World):WhoAt W 0 (.agg #[.bool false,.slice none 0 0]):=⟨[],_,rfl,LimsB.nil _ _,Nm.Good.nil _,rfl⟩
theorem aPb (w:World)(h nb:Bool)(ao i:Option Addr)(j k cap c:Nat)(hs:(h==nb)=false)
  (l:∀ W,Below w.heap.size w W->Calls Tryz.prog 154 #[.slice ao j cap,.slice i k c] W fun e w'=>e=.returned (.int .i64 0)/\Below W.heap.size W w'):
  Calls Tryz.prog 137 #[.agg #[.bool h,.slice ao j cap],.agg #[.bool nb,.slice i k c]] w (WhoPost w 0):=by
 have m:=hid l;clear l
 have n:¬(w.heap.size=w.heap.size+1+1):=by omega
 have p:¬(w.heap.size+1+1=w.heap.size):=by omega
 go_enter Tryz.func137,Tryz.ntmps137
 go_wp2_with fail
 refine (m.out _ (aAn w _ _ _ _)).mono ?_;rintro e u ⟨rfl,b⟩;have d:=b.size;rw [aAD] at d;have a:=newW (by rw [aAD];omega) (aBc _ _ _ _ _) b;have f:=(aAn w _ _ _ _).trans (b.mono (aAn w _ _ _ _).size);have g:=aGU u;have F:=finw a g f (by omega);have x:=aAb (o:=0) a;have y:=aAb (o:=1) a;have z:=aAa (o:=0) a rfl;have A:=aAa (o:=1) a rfl;have q:=F.c0;have r:=F.c1;have s:=hid F.num;have t:=hid F.below;clear F g f a;clear b
 go_wp2_with fail
 refine bodyPost_ret (v:=.agg #[.bool false,.slice none 0 0]) (by simp [results,Tryz.results137,go_sem,q,r]) rfl ⟨_,rfl,s.out,t.out⟩
theorem aC8 {a b:List Int}(c:Nm.Good 4294967296 a)(d:Nm.Good 4294967296 b)(h:Nm.val 4294967296 a<=Nm.val 4294967296 b):a.length<=b.length:=by
 rcases Nat.lt_or_ge b.length a.length with h1 | h1
 ·have:=Nm.aDn (by decide) d.dig c h1;omega
 ·exact h1
theorem opp {x y:Int}(hs:¬decide (x<0)=decide (y<0)):(x<0/\0<=y)\/(0<=x/\y<0):=by
 by_cases a:x<0
 ·refine Or.inl ⟨a,?_⟩
  rcases Int.lt_or_le y 0 with h | h
  ·exact absurd (by rw [decide_eq_true a,decide_eq_true h]) hs
  ·exact h
 ·refine Or.inr ⟨by omega,?_⟩
  rcases Int.lt_or_le y 0 with h | h
  ·exact h
  ·exact absurd (by rw [decide_eq_false a,decide_eq_false (by omega)]) hs
theorem aH5 (w:World)(x y:Int)(u v:Value)(n:Nat)(E:WhoAt w x u)(F:WhoAt w y v)(bx:x.natAbs<2^n)(H:y.natAbs<2^n)(L:n<=1000000000):Calls Tryz.prog 137 #[u,v] w (WhoPost w (x+y)):=by
 obtain ⟨a,C,t,rfl,p,f,j⟩:=E.open;obtain ⟨b,D,z,rfl,q,g,k⟩:=F.open;have I:=aBk f j bx;have J:=aBk g k H
 by_cases s:decide (x<0)=decide (y<0)
 ·refine aK3 w _ _ _ _ _ _ _ _ (x+y) _ s (fun W hW=>aEq W a b _ _ (p.below hW) (q.below hW) (by omega) (by omega) f.dig g.dig) ?_;rintro W B r ⟨l,c⟩ m
  have e:(x<0)=(y<0):=by simpa using s
  by_cases o:x<0
  ·have:y<0:=by rw [<-e];exact o
   exact aBZ m l (by rw [c,j,k];omega) (by simp;omega)
  ·have:¬y<0:=by rw [<-e];exact o
   exact aBZ m l (by rw [c,j,k];omega) (by simp;omega)
 ·have d:(decide (x<0)==decide (y<0))=false:=by simpa using s
  have i:∀ W,Below w.heap.size w W->Calls Tryz.prog 154 #[.slice C a.length t,.slice D b.length z] W fun e w'=>e=.returned (.int .i64 (Nm.cmp (Nm.val 4294967296 a) (Nm.val 4294967296 b)))/\Below W.heap.size W w':=fun W hW=>aA6 W a b _ _ (p.below hW) (q.below hW) (by omega) f g
  have A:=opp s
  rcases Int.lt_trichotomy (Nm.val 4294967296 a) (Nm.val 4294967296 b) with h | h | h
  ·rw [Nm.aAC h] at i;refine aPd w _ _ _ _ _ _ _ _ (x+y) _ d i (fun W hW=>aAO W b a _ _ (q.below hW) (p.below hW) (by omega) (aC8 f g (by omega)) g.dig f.dig (by omega)) ?_;rintro W B r ⟨l,c⟩ m;rw [j,k] at h c;exact aBZ m l (by rw [c];omega) (by simp;omega)
  ·rw [Nm.aAz h] at i;rw [j,k] at h;rw [show x+y=0 by omega];exact aPb w _ _ _ _ _ _ _ _ d i
  ·rw [Nm.aAt h] at i;refine aPc w _ _ _ _ _ _ _ _ (x+y) _ d i (fun W hW=>aAO W a b _ _ (p.below hW) (q.below hW) (by omega) (aC8 g f (by omega)) f.dig g.dig (by omega)) ?_;rintro W B r ⟨l,c⟩ m;rw [j,k] at h c;exact aBZ m l (by rw [c];omega) (by simp;omega)
open Go.RowKit
theorem aC1 (w:World)(a:List Int)(v:Value)(b:Lims w a v):Calls Tryz.prog 167 #[v] w fun e w'=>e=.returned (.bool (decide (a=[1])))/\w'=w:=by
 obtain ⟨n,l,rfl,d⟩:=b.shape
 by_cases i:a.length=1
 ·obtain ⟨x,rfl⟩:∃ x,a=[x]:=by
   match a,i with
   | [x],_=>exact ⟨x,rfl⟩
  obtain ⟨g,rfl,f⟩:=b.place (by simp);have j:=f 0 (by simp);have k:Nm.at' [x] 0=x:=rfl;rw [k] at j
  have c:decide ([x]=[(1:Int)])=(x==1):=by
   by_cases h:x=1
   ·subst h;rfl
   ·simp [h]
  rw [c];clear b f;simp only [List.length_cons,List.length_nil,Nat.zero_add]
  go_enter Tryz.func167,Tryz.ntmps167
  go_wp2_with fail
  go_ret
  first | exact ⟨rfl,rfl⟩ | trace_state
 ·have c:decide (a=[(1:Int)])=false:=decide_eq_false (fun h=>i (by rw [h];rfl));rw [c]
  have m:((a.length:Int)==1)=false:=by
   rw [beq_eq_false_iff_ne];omega
  clear b
  go_enter Tryz.func167,Tryz.ntmps167
  go_wp2_with fail
  go_ret
  first | exact ⟨rfl,rfl⟩ | trace_state
theorem aIW (w:World)(f nb:Bool)(ao g:Option Addr)(c d cap a:Nat)(z:Int)(P:List Int->Prop)(ae:((c:Int)==0)=false)(af:((d:Int)==0)=false)
  (C:∀ W,Below w.heap.size w W->Calls Tryz.prog 167 #[.slice ao c cap] W fun e w'=>e=.returned (.bool false)/\w'=W)
  (D:∀ W,Below w.heap.size w W->Calls Tryz.prog 167 #[.slice g d a] W fun e w'=>e=.returned (.bool false)/\w'=W)
  (E:∀ W,Below w.heap.size w W->Calls Tryz.prog 153 #[.slice ao c cap,.slice g d a] W (LimPost W P))
  (H:∀ W xs v,P xs->Lims W xs v->WhoAt W z (.agg #[.bool (!(f==nb)),v])):
  Calls Tryz.prog 136 #[.agg #[.bool f,.slice ao c cap],.agg #[.bool nb,.slice g d a]] w (WhoPost w z):=by
 have s:=hid (C _ (aAn w (.bool f) (.slice ao c cap) (.bool nb) (.slice g d a)));have t:=hid (D _ (aAn w (.bool f) (.slice ao c cap) (.bool nb) (.slice g d a)));have u:=hid (E _ (aAn w (.bool f) (.slice ao c cap) (.bool nb) (.slice g d a)));have I:=hid H;clear E H C D
 go_enter Tryz.func136,Tryz.ntmps136
 go_wp2_with fail
 refine (s.out).mono ?_;rintro e w0 ⟨rfl,A⟩;have l:=aCx w (.bool f) (.slice ao c cap) (.bool nb) (.slice g d a);have m:=aCe w (.bool f) (.slice ao c cap) (.bool nb) (.slice g d a);have j:=aBc w (.bool f) (.slice ao c cap) (.bool nb) (.slice g d a);have p:=aAD w (.bool f) (.slice ao c cap) (.bool nb) (.slice g d a);have k:=aAn w (.bool f) (.slice ao c cap) (.bool nb) (.slice g d a);have n:=aBc w (.bool f) (.slice ao c cap) (.bool nb) (.slice g d a);rw [<-A] at l m j t u p k n;clear A s;have J:=aAa (o:=0) l rfl;have L:=aAa (o:=1) l rfl;have M:=aAa (o:=0) m rfl;have N:=aAa (o:=1) m rfl;have O:=aAb (o:=0) j;have R:=aAb (o:=1) j;have S:=aAa (o:=0) j rfl;have q:=aAa (o:=1) j rfl;clear l m j;have k:=hid k;have n:=hid n
 go_wp2_with fail
 refine (t.out).mono ?_;rintro e ad ⟨rfl,rfl⟩
 go_wp2_with fail
 refine (u.out).mono ?_;rintro e w1 ⟨v1,xs,rfl,B,i,h⟩;have r:=h.size;rw [p] at r;obtain ⟨o1,c1,rfl,_⟩:=i.shape;have b:=newW (by rw [p];omega) n.out h;have x:=I.out _ xs _ B (i.weak (Nat.zero_le _));have y:=k.out.trans (h.mono k.out.size);have F:=finw b x y (by omega);have r0:=aAb (o:=0) b;have r1:=aAb (o:=1) b;clear J L M N O R S q;have s0:=aAa (o:=0) b rfl;have s1:=aAa (o:=1) b rfl;have T:=F.c0;have U:=F.c1;have X:=hid F.num;have Y:=hid F.below;clear F x y b;clear h i B
 go_wp2_with fail
 refine bodyPost_ret (v:=.agg #[.bool (!(f==nb)),.slice o1 xs.length c1]) (by simp [results,Tryz.results136,go_sem,T,U]) rfl ⟨_,rfl,X.out,Y.out⟩
theorem aK6 (w:World)(c nb:Bool)(ao d:Option Addr)(f b cap a:Nat)(z:Int)(t:((f:Int)==0)=false)(u:((b:Int)==0)=false)
  (r:∀ W,Below w.heap.size w W->Calls Tryz.prog 167 #[.slice ao f cap] W fun e w'=>e=.returned (.bool true)/\w'=W)
  (j:∀ W,Below w.heap.size w W->WhoAt W z (.agg #[.bool (!(c==nb)),.slice d b a])):
  Calls Tryz.prog 136 #[.agg #[.bool c,.slice ao f cap],.agg #[.bool nb,.slice d b a]] w (WhoPost w z):=by
 have k:=hid (r _ (aAn w (.bool c) (.slice ao f cap) (.bool nb) (.slice d b a)));have x:=hid j;have F:=finw (aBc w (.bool c) (.slice ao f cap) (.bool nb) (.slice d b a)) (j _ (aAn w _ _ _ _)) (aAn w _ _ _ _) (by omega);have l:=F.c0;have m:=F.c1;have n:=hid F.num;have p:=hid F.below;clear j r F
 go_enter Tryz.func136,Tryz.ntmps136
 go_wp2_with fail
 refine (k.out).mono ?_;rintro e I ⟨rfl,q⟩;have h:=aCx w (.bool c) (.slice ao f cap) (.bool nb) (.slice d b a);have i:=aCe w (.bool c) (.slice ao f cap) (.bool nb) (.slice d b a);have g:=aBc w (.bool c) (.slice ao f cap) (.bool nb) (.slice d b a);rw [<-q] at h i g l m n p;clear q k;have y:=aAa (o:=0) h rfl;have A:=aAa (o:=1) h rfl;have B:=aAa (o:=0) i rfl;have C:=aAa (o:=1) i rfl;have D:=aAb (o:=0) g;have E:=aAb (o:=1) g;have H:=aAa (o:=0) g rfl;have s:=aAa (o:=1) g rfl;clear h i g
 go_wp2_with fail
 refine bodyPost_ret (v:=.agg #[.bool (!(c==nb)),.slice d b a]) (by simp [results,Tryz.results136,go_sem,l,m]) rfl ⟨_,rfl,n.out,p.out⟩
theorem aK7 (w:World)(c nb:Bool)(ao f:Option Addr)(b d cap a:Nat)(z:Int)(y:((b:Int)==0)=false)(A:((d:Int)==0)=false)
  (r:∀ W,Below w.heap.size w W->Calls Tryz.prog 167 #[.slice ao b cap] W fun e w'=>e=.returned (.bool false)/\w'=W)
  (s:∀ W,Below w.heap.size w W->Calls Tryz.prog 167 #[.slice f d a] W fun e w'=>e=.returned (.bool true)/\w'=W)
  (t:∀ W,Below w.heap.size w W->WhoAt W z (.agg #[.bool (!(c==nb)),.slice ao b cap])):
  Calls Tryz.prog 136 #[.agg #[.bool c,.slice ao b cap],.agg #[.bool nb,.slice f d a]] w (WhoPost w z):=by
 have j:=hid (r _ (aAn w (.bool c) (.slice ao b cap) (.bool nb) (.slice f d a)));have k:=hid (s _ (aAn w (.bool c) (.slice ao b cap) (.bool nb) (.slice f d a)));have F:=finw (aBc w (.bool c) (.slice ao b cap) (.bool nb) (.slice f d a)) (t _ (aAn w _ _ _ _)) (aAn w _ _ _ _) (by omega);have l:=F.c0;have m:=F.c1;have n:=hid F.num;have p:=hid F.below;clear t r s F
 go_enter Tryz.func136,Tryz.ntmps136
 go_wp2_with fail
 refine (j.out).mono ?_;rintro e L ⟨rfl,q⟩;have h:=aCx w (.bool c) (.slice ao b cap) (.bool nb) (.slice f d a);have i:=aCe w (.bool c) (.slice ao b cap) (.bool nb) (.slice f d a);have g:=aBc w (.bool c) (.slice ao b cap) (.bool nb) (.slice f d a);rw [<-q] at h i g k l m n p;clear q j;have B:=aAa (o:=0) h rfl;have C:=aAa (o:=1) h rfl;have D:=aAa (o:=0) i rfl;have E:=aAa (o:=1) i rfl;have H:=aAb (o:=0) g;have I:=aAb (o:=1) g;have J:=aAa (o:=0) g rfl;have u:=aAa (o:=1) g rfl;clear h i g
 go_wp2_with fail
 refine (k.out).mono ?_;rintro e x ⟨rfl,rfl⟩
 go_wp2_with fail
 refine bodyPost_ret (v:=.agg #[.bool (!(c==nb)),.slice ao b cap]) (by simp [results,Tryz.results136,go_sem,l,m]) rfl ⟨_,rfl,n.out,p.out⟩
theorem aIX (w:World)(d nb:Bool)(ao e:Option Addr)(a c cap b:Nat)(h:a=0\/(¬a=0/\c=0)):
  Calls Tryz.prog 136 #[.agg #[.bool d,.slice ao a cap],.agg #[.bool nb,.slice e c b]] w (WhoPost w 0):=by
 rcases h with rfl | ⟨h1,rfl⟩
 ·go_enter Tryz.func136,Tryz.ntmps136
  go_wp2_with fail
  refine bodyPost_ret (v:=.agg #[.bool false,.slice none 0 0]) (by simp [results,Tryz.results136,go_sem]) rfl ⟨_,rfl,aGU _,aAn w _ _ _ _⟩
 ·have f:((a:Int)==0)=false:=by simpa using h1
  go_enter Tryz.func136,Tryz.ntmps136
  go_wp2_with fail
  refine bodyPost_ret (v:=.agg #[.bool false,.slice none 0 0]) (by simp [results,Tryz.results136,go_sem]) rfl ⟨_,rfl,aGU _,aAn w _ _ _ _⟩
theorem aK5 (w:World)(x y:Int)(u v:Value)(n:Nat)(J:WhoAt w x u)(L:WhoAt w y v)(bx:x.natAbs<2^n)(M:y.natAbs<2^n)(S:n<=1000000000):Calls Tryz.prog 136 #[u,v] w (WhoPost w (x*y)):=by
 obtain ⟨a,P,F,rfl,l,q,m⟩:=J.open;obtain ⟨b,R,H,rfl,s,t,o⟩:=L.open;have N:=aBk q m bx;have O:=aBk t o M;have C:=aDY q m;have D:=aDY t o
 by_cases z:a.length=0\/(¬a.length=0/\b.length=0)
 ·have e:x*y=0:=by
   rcases z with h | ⟨_,h⟩
   ·rw [C.1 (List.eq_nil_of_length_eq_zero h),Int.zero_mul]
   ·rw [D.1 (List.eq_nil_of_length_eq_zero h),Int.mul_zero]
  rw [e];exact aIX w _ _ _ _ _ _ _ _ z
 ·have j:¬a.length=0:=fun h=>z (Or.inl h)
  have p:¬b.length=0:=fun h=>z (Or.inr ⟨j,h⟩)
  have A:x≠0:=fun h=>j (by rw [C.2 h];rfl)
  have k:y≠0:=fun h=>p (by rw [D.2 h];rfl)
  have E:(!(decide (x<0)==decide (y<0)))=decide (x*y<0):=by
   rcases Int.lt_or_gt_of_ne A with hx1 | hx1
   ·rcases Int.lt_or_gt_of_ne k with hy1 | hy1
    ·have:=Int.mul_pos_of_neg_of_neg hx1 hy1;simp [hx1,hy1];omega
    ·have:=Int.mul_neg_of_neg_of_pos hx1 hy1;simp [hx1,show ¬y<0 by omega];omega
   ·rcases Int.lt_or_gt_of_ne k with hy1 | hy1
    ·have:=Int.mul_neg_of_pos_of_neg hx1 hy1;simp [hy1,show ¬x<0 by omega];omega
    ·have:=Int.mul_pos hx1 hy1;simp [show ¬y<0 by omega,show ¬x<0 by omega];omega
  have g:∀ W (ds:List Int) r,Nm.Good 4294967296 ds->Nm.val 4294967296 ds=((x*y).natAbs:Int)->Lims W ds r->WhoAt W (x*y) (.agg #[.bool (!(decide (x<0)==decide (y<0))),r]):=fun W ds r c d B=>aBZ B c d E
  by_cases f:a=[1]
  ·have hx1:(x.natAbs:Int)=1:=by rw [<-m,f];rfl
   exact aK6 w _ _ _ _ _ _ _ _ (x*y) (by simpa using j) (by simpa using p) (fun W hW=>(aC1 W a _ (l.below hW)).mono fun e w' ⟨c,d⟩=>⟨by rw [c,decide_eq_true f],d⟩) fun W hW=>g W b _ t (by rw [o,Int.natAbs_mul];simp [show x.natAbs=1 by omega]) (s.below hW)
  ·by_cases i:b=[1]
   ·have hy1:(y.natAbs:Int)=1:=by rw [<-o,i];rfl
    exact aK7 w _ _ _ _ _ _ _ _ (x*y) (by simpa using j) (by simpa using p) (fun W hW=>(aC1 W a _ (l.below hW)).mono fun e w' ⟨c,d⟩=>⟨by rw [c,decide_eq_false f],d⟩) (fun W hW=>(aC1 W b _ (s.below hW)).mono fun e w' ⟨c,d⟩=>⟨by rw [c,decide_eq_true i],d⟩) fun W hW=>g W a _ q (by rw [m,Int.natAbs_mul];simp [show y.natAbs=1 by omega]) (l.below hW)
   ·refine aIW w _ _ _ _ _ _ _ _ (x*y) _ (by simpa using j) (by simpa using p) (fun W hW=>(aC1 W a _ (l.below hW)).mono fun e w' ⟨c,d⟩=>⟨by rw [c,decide_eq_false f],d⟩) (fun W hW=>(aC1 W b _ (s.below hW)).mono fun e w' ⟨c,d⟩=>⟨by rw [c,decide_eq_false i],d⟩) (fun W hW=>aBN W a b _ _ (l.below hW) (s.below hW) (by omega) (by omega) q.dig t.dig) ?_;rintro W I r ⟨c,d⟩ B;exact g W I r c (by rw [d,m,o,Int.natAbs_mul];simp) B
theorem aIT (w:World)(m nb:Bool)(ao n:Option Addr)(q s cap d:Nat)(y z:Int)
  (x:∀ W,Below w.heap.size w W->Calls Tryz.prog 123 #[.agg #[.bool nb,.slice n s d]] W (WhoPost W y))
  (A:∀ W v,Below w.heap.size w W->WhoAt W y v->Calls Tryz.prog 137 #[.agg #[.bool m,.slice ao q cap],v] W (WhoPost W z)):
  Calls Tryz.prog 146 #[.agg #[.bool m,.slice ao q cap],.agg #[.bool nb,.slice n s d]] w (WhoPost w z):=by
 have B:=hid x;have C:=hid A;clear x A
 have D:¬(w.heap.size=w.heap.size+1+1):=by omega
 have E:¬(w.heap.size+1+1=w.heap.size):=by omega
 go_enter Tryz.func146,Tryz.ntmps146
 go_wp2_with fail
 go_region_held3 (fun w'=>w'.cell? ⟨w.heap.size,0,none⟩=some (.bool m)/\w'.cell? ⟨w.heap.size,1,none⟩=some (.slice ao q cap)/\w'.cell? ⟨w.heap.size+1,0,none⟩=some (.bool nb)/\w'.cell? ⟨w.heap.size+1,1,none⟩=some (.slice n s d)) (go_keep) (first
  | (go_at_call 123
     refine (B.out _ (aCa w _ _ _ _)).mono ?_;rintro e T ⟨v1,rfl,g,b⟩;have i:=b.size;rw [aBd] at i;have t:=newW (by rw [aBd];omega) (aF5 _ _ _ _ _) b;have H:=aAa (o:=0) (newW (by rw [aBd];omega) (aDF _ _ _ _ _) b) rfl;have I:=aAa (o:=1) (newW (by rw [aBd];omega) (aDF _ _ _ _ _) b) rfl;have J:=aAa (o:=0) (newW (by rw [aBd];omega) (aEz _ _ _ _ _) b) rfl;have L:=aAa (o:=1) (newW (by rw [aBd];omega) (aEz _ _ _ _ _) b) rfl
     have M:w.heap.size+1<T.heap.size:=by omega
     have h:=hid ((aCa w _ _ _ _).trans (b.mono (aCa w _ _ _ _).size))
     clear b)
  | (go_at_call 137
     refine (C.out _ _ h.out g).mono ?_;rintro e w2 ⟨r,rfl,l,c⟩;have u:=h.out.trans (c.mono h.out.size);have a:=newW (by omega) t c;have N:=c.size;have U:=(c.cell (p:=⟨w.heap.size,0,none⟩) (by simp only;omega)).trans H;have X:=(c.cell (p:=⟨w.heap.size,1,none⟩) (by simp only;omega)).trans I;have Y:=(c.cell (p:=⟨w.heap.size+1,0,none⟩) (by simp only;omega)).trans J;have y3:=(c.cell (p:=⟨w.heap.size+1,1,none⟩) (by simp only;omega)).trans L;obtain ⟨j,k,f,rfl,_⟩:=l.open;have F:=finw a l u (by omega);have r0:=aAb (o:=0) a;have r1:=aAb (o:=1) a;have s0:=aAa (o:=0) a rfl;have s1:=aAa (o:=1) a rfl;have O:=F.c0;have P:=F.c1;have R:=hid F.num;have S:=hid F.below;clear F l u a;clear c t h g
     generalize decide (z<0)=nc at *))
 all_goals
  go_wp2_with fail
  refine bodyPost_ret (v:=.agg #[.bool nc,.slice k j.length f]) (by simp [results,Tryz.results146,go_sem,O,P]) rfl ⟨_,rfl,R.out,S.out⟩
theorem aK2 (w:World)(x y:Int)(u v:Value)(n:Nat)(c:WhoAt w x u)(d:WhoAt w y v)(bx:x.natAbs<2^n)(j:y.natAbs<2^n)(g:n<=1000000000):Calls Tryz.prog 146 #[u,v] w (WhoPost w (x-y)):=by
 obtain ⟨a,h,e,rfl,_⟩:=c.open;obtain ⟨b,i,f,rfl,_⟩:=d.open;exact aIT w _ _ _ _ _ _ _ _ (-y) (x-y) (fun W hW=>aKb W y _ (d.below hW)) (fun W r hW hr=>aH5 W x (-y) _ _ n (c.below hW) hr bx (by rwa [Int.natAbs_neg]) g)
theorem aH3 (w:World)(x y:Int)(u v:Value)(n:Nat)(z:WhoAt w x u)(A:WhoAt w y v)(bx:x.natAbs<2^n)(B:y.natAbs<2^n)(L:n<=1000000000):Calls Tryz.prog 122 #[u,v] w fun e w'=>e=.returned (.int .i64 (Nm.cmp x y))/\Below w.heap.size w w':=by
 obtain ⟨a,I,E,rfl,q,k,r⟩:=z.open;obtain ⟨b,J,F,rfl,s,l,t⟩:=A.open;have C:=aBk k r bx;have D:=aBk l t B
 have j:∀ o o',Below w.heap.size w ((w.alloc o).alloc o'):=fun o o'=>belowW (belowW (Below.refl _ _) (Nat.le_refl _) _) (by simp) _
 have m:=hid (fun W hW=>aA6 W a b _ _ (q.below hW) (s.below hW) (by omega) k l);have p:=hid (fun W hW=>aA6 W b a _ _ (s.below hW) (q.below hW) (by omega) l k);rw [r,t] at m p;have d:=hid j;clear q s k l r t z A bx B j C D
 by_cases g:x<0
 ·by_cases f:y<0
  ·have e:Nm.cmp ((y.natAbs:Nat):Int) ((x.natAbs:Nat):Int)=Nm.cmp x y:=by
    rcases Int.lt_trichotomy x y with h | h | h
    ·rw [Nm.aAC h,Nm.aAC (by omega)]
    ·rw [Nm.aAz h,Nm.aAz (by omega)]
    ·rw [Nm.aAt h,Nm.aAt (by omega)]
   rw [e] at p;rw [decide_eq_true g,decide_eq_true f];clear e;generalize Nm.cmp x y=c at*
   go_enter Tryz.func122,Tryz.ntmps122
   go_wp2_with fail
   refine (p.out _ (d.out _ _)).mono ?_;rintro e H ⟨rfl,i⟩
   go_wp2_with fail
   go_ret
   exact ⟨rfl,(d.out _ _).trans (i.mono (d.out _ _).size)⟩
  ·rw [decide_eq_true g,decide_eq_false f,Nm.aAC (show x<y by omega)]
   go_enter Tryz.func122,Tryz.ntmps122
   go_wp2_with fail
   go_ret
   exact ⟨rfl,d.out _ _⟩
 ·by_cases f:y<0
  ·rw [decide_eq_false g,decide_eq_true f,Nm.aAt (show y<x by omega)]
   go_enter Tryz.func122,Tryz.ntmps122
   go_wp2_with fail
   go_ret
   exact ⟨rfl,d.out _ _⟩
  ·rw [show ((x.natAbs:Nat):Int)=x by omega,show ((y.natAbs:Nat):Int)=y by omega] at m;rw [decide_eq_false g,decide_eq_false f];generalize Nm.cmp x y=c at*
   go_enter Tryz.func122,Tryz.ntmps122
   go_wp2_with fail
   refine (m.out _ (d.out _ _)).mono ?_;rintro e H ⟨rfl,i⟩
   go_wp2_with fail
   go_ret
   exact ⟨rfl,(d.out _ _).trans (i.mono (d.out _ _).size)⟩
end Go.Proofs.YteghhlfmcjmnoaaGreatDoor
