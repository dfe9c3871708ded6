import Derived.Test.YtnlddnbfoehboaaGreatDoorCPl14
import Derived.Test.YtnlddnbfoehboaaGreatDoorCPl09
import Derived.Test.YtnlddnbfoehboaaGreatDoorCPl01
import Derived.Test.YtnlddnbfoehboaaGreatDoorCPl10
import Derived.Test.YtnlddnbfoehboaaGreatDoorCPl07
set_option linter.all false
set_option maxRecDepth 100000
set_option maxHeartbeats 2000000
namespace Go.Proofs.YtnlddnbfoehboaaGreatDoor
open Option renaming some->Y,none->X
open Bool renaming true->I,false->J
open Option renaming bind_some->j8,map_map->j9,bind_eq_some_iff->o9,map_eq_some_iff->p5,map_some->p6
open List renaming mem_cons->p8,replicate->q8,any_map->q9,map_map->r5,map_cons->r7,map_nil->r8,any_eq_false->r9,getElem?_append_left->s7,getElem?_eq_getElem->s8,find?->u5
open Nat renaming le_refl->zq6,lt_of_le_of_lt->u7
open Int renaming ediv_self->u9,mul_ne_zero->x8,pos_of_mul_pos_left->y8,mul_pos->z8,lt_or_le->A0,le_of_lt->A4,natAbs_pos->A5,lt_trichotomy->A6
open Nm (iQ gW tz jQ)
open Go.Proofs.Tryz
open Go.RowKit
namespace Ab
open Rf (Nd Inv Wt cD readK symsT)
def tH (z:Int):UInt8:=if z<0 then 45 else if z=0 then 48 else if z=1 then 43 else UInt8.ofNat z.toNat
theorem xA (wr:World)(b:UInt8):(convert 91 9 (.slice (Y ⟨wr.heap.size,0,X⟩) 1 1)).run prog (wr.alloc (.cells #[.int .u8 (b.toNat:Int)] 5))=.ok (.string ⟨#[b]⟩) (wr.alloc (.cells #[.int .u8 (b.toNat:Int)] 5)):=by
 refine run_convert_bytes_back (P:=prog) _ 91 9 5 ⟨wr.heap.size,0,X⟩ 1 [b] underlying91 underlying5 underlying9 ?_;intro j a
 obtain rfl:j=0:=by simpa using a
 exact aB (lE _ _) rfl
def Jd (u:Wt)(c:Nat)(P:Bool)(w:World)(k xb d:Nat)(ans:Option (List Int))(out:Value)(wr:World):Prop:=
 ∃(s:ByteArray) (pre:LB) (st:Rf.St) (r todo:Nat) (m:Mt),out=.string s/\dE s (pre.map tH)/\pre.length+todo=k+1/\nP u c P w wr xb st d r m/\r+(if P then 1 else 0)=pre.length/\ans=(readK (cD u) todo st d r).map (pre++·)
def aYU (w:World)(a:Option (List Int))(e:Ending)(w':World):Prop:=Below w.heap.size w w'/\match a with
 |none=>e=.returned (.tuple #[.string ⟨#[]⟩,.int .i64 6])
 |some b=>∃s,e=.returned (.tuple #[.string s,.int .i64 0])/\dE s (b.map tH)
def Gv:Value->Nat
 |.string s=>s.size
 |_=>0
section
variable {u:Wt} {c k xb d r todo:Nat} {P:Bool} {w wr w':World} {st:Rf.St} {m:Mt} {pre:LB} {ans:Option (List Int)} {s:ByteArray}
theorem nP.cells (h:nP u c P w wr xb st d r m):∃b,wr.cell? ⟨xb,0,X⟩=Y (.pointer (Y ⟨b,0,X⟩))/\wr.cell? ⟨b,0,X⟩=Y (.bool P)/\wr.cell? ⟨xb,2,X⟩=Y (.int .i64 (r:Int)):=by
 obtain⟨own,at1,o,l,n,_,f,_,_,_,e,g,_,_,⟨⟨z,a,_⟩,_⟩⟩:=h.ex;obtain⟨x,j,q,p,hv,t,tl,A,sq,i,C,D,y,v,B⟩:=f.nd d n e;exact⟨at1 d,aB a rfl,by rw[<-g];exact aB B.blk rfl,aB a rfl⟩
theorem nP.still (h:nP u c P w wr xb st d r m)(b:Below wr.heap.size wr w'):nP u c P w w' xb st d r m:=by
 obtain⟨own,at1,g,f,n,i,v,j,l,o,p,q,t,h8,⟨⟨z,a,e⟩,y⟩⟩:=h.ex;exact⟨⟨own,at1,g,f,n,i,v.still b,j,l,o,p,q,t,h8,⟨⟨z,(b.block _ (bL a)).trans a,e.keep (D:=[]) (Kp.cQ b) (λk x=>by cases x) λ_ _=>rfl⟩,y⟩⟩,h.below.trans (b.mono h.below.size),h.bits⟩
end
variable {w:World}{b:Nat}
theorem aIq {k c:Nat}{u:Wt}(hk:k<=60)(hc:c<=3000)(hu:u.Ok)(hC:∀W,Below w.heap.size w W->Calls prog 78 #[.pointer (Y ⟨b,0,X⟩)] W (kL W (Y u))):Calls prog 32 #[.pointer (Y ⟨b,0,X⟩),.int .i64 (k:Int),.int .i64 (c:Int)] w (aYU w (symsT u k c)):=by
 have HC:=hid hC;have HU:=hid hu;clear hC hu
 go_in
 go_wp2_with fail
 have a1:=(Below.refl w.heap.size w).alloc (zq6 _) (.cells #[.pointer (Y ⟨b,0,X⟩)] 26 (0,0));have k1:=aB (o:=0) (iJ w (.cells #[.pointer (Y ⟨b,0,X⟩)] 26 (0,0))) rfl;refine(Zr hk hc k1 ⟨b,rfl⟩ (HC.out _ a1)).mono ?_;rintro e w1⟨rfl,d1⟩;have e1:=a1.trans (d1.mono a1.size);clear k1
 go_wp2_with fail
 refine(aLs hc HU.out (HC.out _ e1)).mono ?_;rintro e w2⟨xb,ns,d,n,rfl,F,hn,j⟩;have HR:=hid j;obtain⟨nb,c0,c1,_⟩:=j.cells
 have hS:symsT u k c=if n.pos=I then(readK (cD u) k ⟨ns,c⟩ d 0).map (43::·)else readK (cD u) (k+1) ⟨ns,c⟩ d 0:=by
  unfold symsT;rw[F,j8,hn,j8]
 have HS:=hid hS;clear j hS F hn;generalize hp:n.pos=P at*
 have R:∀out,out=(if P=I then Value.string ⟨#[43]⟩else .string ⟨#[]⟩)->Jd u c P w1 k xb d (symsT u k c) out w2:=by
  intro out ho;rw[HS.out]
  cases P with
  |false=>exact⟨_,[],_,0,k+1,_,ho,dE.mk' [],E4,HR.out,rfl,E4⟩
  |true=>exact⟨_,[43],_,0,k,_,ho,dE.mk' [43],by simp;omega,HR.out,rfl,E4⟩
 have ST:=hid R;clear R hp;cases P
 all_goals
  go_wp2_with fail
  go_loopw [10] (λout wr=>Jd u c _ w1 k xb d (symsT u k c) out wr) (λout _=>k+1-Gv out)
  case atStart=>exact ST.out _ rfl
  case round=>
   obtain⟨s,pre,st,r,todo,m,rfl,T,U,j,p,S⟩:=hrel
   have ay:s.size=pre.length:=by rw[T.size];simp
   have b1:=e1.trans (j.below.mono e1.size);have B:=hid T
   cases todo with
   |zero=>
    have A:=hid (show symsT u k c=Y pre by rw[S];simp[readK])
    have aq:¬((s.size:Nat):Int)<(k:Int)+1:=O
    clear S j T p
    go_wp2_with fail
    refine bodyPost_ret (v:=.tuple #[.string s,.int .i64 0]) (by simp[results,results32,go_sem]) rfl ⟨b1,?_⟩;rw[A.out];exact⟨s,rfl,B.out⟩
   |succ todo=>
    have au:((s.size:Nat):Int)<(k:Int)+1:=O
    have RR:=hid j;have A:=hid S
    have ab:r<=100:=by split at p<;>omega
    clear S j T
    go_wp2_with fail
    refine(aGy hc RR.out ab).mono ?_;rintro e f(⟨rfl,aa,i,a⟩|⟨i,z,rfl,a,M,C⟩)
    .have g:=hid (show symsT u k c=X by rw[A.out,readK,a];rfl);clear a
     go_wp2_with fail
     refine bodyPost_ret (v:=.tuple #[.string ⟨#[]⟩,.int .i64 6]) (by simp[results,results32,go_sem]) rfl ⟨e1.trans (aa.mono e1.size),?_⟩;rw[g.out]
    .have g:=hid (show symsT u k c=(readK (cD u) todo i d (r+1)).map ((pre++[z])++·) by rw[A.out,readK,a,j9];congr 1;funext l;simp);have x:=hid C;clear a C A
     by_cases L:pre=[]
     .subst L
      first
      |(exfalso;simp at p;done)
      | (obtain rfl:r=0:=by simpa using p
         have ad:s=⟨#[]⟩:=by
          have:=B.out.eq;obtain⟨⟨l⟩⟩:=s;simp at this;subst this;rfl
         subst ad;simp at M
         rcases M with rfl|rfl|rfl|rfl
         .have y:(convert 91 9 (.slice (Y ⟨f.heap.size,0,X⟩) 1 1)).run prog (f.alloc (.cells #[.int .u8 43] 5))=.ok (.string ⟨#[43]⟩) (f.alloc (.cells #[.int .u8 43] 5)):=xA f 43
          go_wp2_with fail
          go_roundw
          case rel=>exact⟨_,[43],i,1,todo,_,rfl,dE.mk' [43],by simp at U ⊢;omega,x.out.still ((Below.refl _ _).alloc (zq6 _) _),rfl,g.out⟩
          case measure=>show k+1-1<k+1-0;omega
         .have y:(convert 91 9 (.slice (Y ⟨f.heap.size,0,X⟩) 1 1)).run prog (f.alloc (.cells #[.int .u8 45] 5))=.ok (.string ⟨#[45]⟩) (f.alloc (.cells #[.int .u8 45] 5)):=xA f 45
          go_wp2_with fail
          go_roundw
          case rel=>exact⟨_,[45],i,1,todo,_,rfl,dE.mk' [45],by simp at U ⊢;omega,x.out.still ((Below.refl _ _).alloc (zq6 _) _),rfl,g.out⟩
          case measure=>show k+1-1<k+1-0;omega
         .have y:(convert 91 9 (.slice (Y ⟨f.heap.size,0,X⟩) 1 1)).run prog (f.alloc (.cells #[.int .u8 111] 5))=.ok (.string ⟨#[111]⟩) (f.alloc (.cells #[.int .u8 111] 5)):=xA f 111
          go_wp2_with fail
          go_roundw
          case rel=>exact⟨_,[111],i,1,todo,_,rfl,dE.mk' [111],by simp at U ⊢;omega,x.out.still ((Below.refl _ _).alloc (zq6 _) _),rfl,g.out⟩
          case measure=>show k+1-1<k+1-0;omega
         .have y:(convert 91 9 (.slice (Y ⟨f.heap.size,0,X⟩) 1 1)).run prog (f.alloc (.cells #[.int .u8 119] 5))=.ok (.string ⟨#[119]⟩) (f.alloc (.cells #[.int .u8 119] 5)):=xA f 119
          go_wp2_with fail
          go_roundw
          case rel=>exact⟨_,[119],i,1,todo,_,rfl,dE.mk' [119],by simp at U ⊢;omega,x.out.still ((Below.refl _ _).alloc (zq6 _) _),rfl,g.out⟩
          case measure=>show k+1-1<k+1-0;omega)
     .have ax:=List.length_pos_iff.2 L;have hne:=(Qj (t:=s) O).1
      have N:z∈([-1,1,0]:LB):=by
       split at M
       .rename_i h;have h2:=h.2;have h1:=h.1
        simp at h1 p<;>omega
       .exact M
      clear M;simp only[p8,List.not_mem_nil,or_false]at N
      rcases N with rfl|rfl|rfl
      .have q:=B.out.app (dE.mk' [45]);have D:=q.size
       go_wp2_with fail
       go_roundw
       case rel=>exact⟨_,pre++[-1],i,r+1,todo,_,rfl,q.to (by simp[tH]),by simp;omega,x.out,by simp at p ⊢;omega,g.out⟩
       case measure=>simp[Gv]at D ⊢;omega
      .have q:=B.out.app (dE.mk' [43]);have D:=q.size
       go_wp2_with fail
       go_roundw
       case rel=>exact⟨_,pre++[1],i,r+1,todo,_,rfl,q.to (by simp[tH]),by simp;omega,x.out,by simp at p ⊢;omega,g.out⟩
       case measure=>simp[Gv]at D ⊢;omega
      .have q:=B.out.app (dE.mk' [48]);have D:=q.size
       go_wp2_with fail
       go_roundw
       case rel=>exact⟨_,pre++[0],i,r+1,todo,_,rfl,q.to (by simp[tH]),by simp;omega,x.out,by simp at p ⊢;omega,g.out⟩
       case measure=>simp[Gv]at D ⊢;omega
theorem aIp {k c:Nat}(g:k<=60)(hc:c<=3000)(a:∀W,Below w.heap.size w W->Calls prog 78 #[.pointer (Y ⟨b,0,X⟩)] W (kL W X)):Calls prog 32 #[.pointer (Y ⟨b,0,X⟩),.int .i64 (k:Int),.int .i64 (c:Int)] w λe w'=>e=.returned (.tuple #[.string ⟨#[]⟩,.int .i64 5])/\Below w.heap.size w w':=by
 have HC:=hid a;clear a
 go_in
 go_wp2_with fail
 have a1:=(Below.refl w.heap.size w).alloc (zq6 _) (.cells #[.pointer (Y ⟨b,0,X⟩)] 26 (0,0));have k1:=aB (o:=0) (iJ w (.cells #[.pointer (Y ⟨b,0,X⟩)] 26 (0,0))) rfl;refine(Zr g hc k1 ⟨b,rfl⟩ (HC.out _ a1)).mono ?_;rintro e h⟨rfl,f⟩;clear k1
 go_wp2_with fail
 exact bodyPost_ret (v:=.tuple #[.string ⟨#[]⟩,.int .i64 5]) (by simp[results,results32,go_sem]) rfl ⟨rfl,a1.trans (f.mono a1.size)⟩
theorem aJM {k c:Int}(h:nM k c):Calls prog 32 #[.pointer (Y ⟨b,0,X⟩),.int .i64 k,.int .i64 c] w λe w'=>e=.returned (.tuple #[.string ⟨#[]⟩,.int .i64 4])/\Below w.heap.size w w':=by
 go_in
 go_wp2_with fail
 refine(aO9 h).mono ?_;rintro e a⟨rfl,rfl⟩
 go_wp2_with fail
 exact bodyPost_ret (v:=.tuple #[.string ⟨#[]⟩,.int .i64 4]) (by simp[results,results32,go_sem]) rfl ⟨rfl,(Below.refl _ _).alloc (zq6 _) _⟩
def fMd:List G->Option RG
 | [.ns [p],.ns [q]]=>Y (.one (.ns [bif decide (Nm.cmp q 0<0)then -p else p,bif decide (Nm.cmp q 0<0)then -q else q]))
 |_=>X
theorem aUN:bD Z 100 (eF J fMd aS 1 [1,1]):=by
 refine iB Pd bO (aZ func100 rfl rfl) ?_;intro a out h;unfold fMd at h
 split at h<;>cases h
 exact⟨[],1,E0,E3,λ_ _=>fX⟩
variable {v:World}{p q:Int}
theorem aML {z c:Value}(i:NumAt v p z)(j:NumAt v q c)(d:Bits 1 p)(f:Bits 1 q):Calls prog 100 #[z,c] v λe b=>∃a,e=.returned (.agg (a:PH).toArray)/\aP J b [if q<0 then -p else p,if q<0 then -q else q] a/\Below v.heap.size v b:=by
 refine(aUN.2 [n1 p,n1 q] _ _ rfl fX v [z,c] ⟨Et i 1 d,Et j 1 f,trivial⟩).mono ?_;rintro e b⟨c,rfl,⟨a,rfl,r⟩,g⟩;obtain⟨h,_⟩:=sD (k:=J) _ [bif decide (Nm.cmp q 0<0)then -p else p,bif decide (Nm.cmp q 0<0)then -q else q] 1 a rfl r;refine⟨a,rfl,?_,g⟩;rw[aJC]at h
 simpa[Bool.cond_eq_ite]using h
theorem aMB (h:q≠0):(aN p q).natAbs<=q.natAbs:=by
 unfold aN;exact Nat.le_of_dvd O (Nat.gcd_dvd_right _ _)
theorem aXP (h:p≠0):Lz p 0=[49,47,48]:=by
 have e1:eZ p 0=1/\eP p 0=0:=by
  have a:aN p 0=(p.natAbs:Int):=by simp[aN]
  unfold eZ eP;rw[a];have c0:Nm.cmp 0 0=0:=rfl;simp only[c0]
  rcases Int.lt_or_lt_of_ne h with h1|h1
  .rw[iQ h1]
   have:-p/(p.natAbs:Int)=1:=by rw[show((p.natAbs:Nat):Int)=-p by omega];exact u9 O
   simpa using this
  .rw[gW h1]
   have:p/(p.natAbs:Int)=1:=by rw[show((p.natAbs:Nat):Int)=p by omega];exact u9 O
   simpa using this
 unfold Lz;rw[e1.1,e1.2];simp[Nm.text,Lib.decDigits]
theorem aRE (h:q≠0):aN (if q<0 then -p else p) (if q<0 then -q else q)=aN p q/\(if q<0 then -p else p)/aN p q=eZ p q/\(if q<0 then -q else q)/aN p q=eP p q:=by
 have:=aO6 (p:=p) h;rw[aJC]at this
 by_cases a:q<0
 .simp[a]at this ⊢;exact⟨by simp[aN],this⟩
 .simp[a]at this ⊢;exact this
variable {a0 a1:Option Addr}
theorem aGM {w c0 U c1:Nat}(hH:aP J v [p,q] [.bool (decide (p<0)),.slice a0 w c0,.bool (decide (q<0)),.slice a1 U c1])(bp:RB 1000 p)(bq:RB 1000 q)(h0:p≠0\/q≠0):Calls prog 63 #[.agg #[.bool (decide (p<0)),.slice a0 w c0],.agg #[.bool (decide (q<0)),.slice a1 U c1]] v λe w'=>∃s,e=.returned (.string s)/\dE s (Lz p q)/\Below v.heap.size v w':=by
 have HP:=hid (Fy hH);have HQ:=hid (Qx hH);have BP:=hid bp;have L:=hid bq;clear hH bp bq
 go_in
 go_wp2_with fail
 have a2:=(Below.refl v.heap.size v).alloc (zq6 _) (.cells #[.bool (decide (p<0)),.slice a0 w c0] 46 (0,0));have a3:=(Below.refl (v.alloc (.cells #[.bool (decide (p<0)),.slice a0 w c0] 46 (0,0))).heap.size _).alloc (zq6 _) (.cells #[.bool (decide (q<0)),.slice a1 U c1] 46 (0,0));have k3:=iJ (v.alloc (.cells #[.bool (decide (p<0)),.slice a0 w c0] 46 (0,0))) (.cells #[.bool (decide (q<0)),.slice a1 U c1] 46 (0,0));rw[World.size_alloc]at k3;have k2:=(a3.block _ E4).trans (iJ v (.cells #[.bool (decide (p<0)),.slice a0 w c0] 46 (0,0)));have d2:=a2.trans (a3.mono a2.size);generalize (v.alloc _).alloc _=w2 at*;refine(Kg w2 q _ (HQ.out.below d2)).mono ?_;rintro e w3⟨rfl,d3⟩;have x:=d2.trans (d3.mono d2.size);obtain⟨x0,x1⟩:=Kw k2 d3;obtain⟨x2,x3⟩:=Kw k3 d3
 by_cases b:q=0
 .have hc:Nm.cmp q 0=0:=by rw[b];rfl
  go_wp2_with fail
  refine bodyPost_ret (v:=.string ⟨#[49,47,48]⟩) (by simp[results,results63,go_sem]) rfl ⟨_,rfl,?_,x⟩;rw[b,aXP (h0.resolve_right λh=>h b)];exact dE.mk' _
 .have hc:¬Nm.cmp q 0=0:=aN9 b;obtain⟨i1,i2,i3⟩:=aRE (p:=p) b
  go_wp2_with fail
  refine(aML (HP.out.below x) (HQ.out.below x) (wS BP.out E3) (wS L.out E3)).mono ?_;rintro e c⟨ys,rfl,f,d4⟩
  have bP:RB 1000 (if q<0 then -p else p):=by split;exact Zl BP.out;exact BP.out
  have bQ:RB 1000 (if q<0 then -q else q):=by split;exact Zl L.out;exact L.out
  generalize (if q<0 then -p else p)=P at*;generalize (if q<0 then -q else q)=Q at*;obtain⟨b0,m0,e0,b1,m1,e1,rfl⟩:=jA f;have NP:=hid (Fy f);have NQ:=hid (Qx f);have u:=hid bP;have M:=hid bQ;clear x0 x1 x2 x3 bP bQ f
  go_wp2_with fail
  have N:=(Below.refl c.heap.size c).alloc (zq6 _) (.cells #[.bool (decide (P<0)),.slice b0 m0 e0,.bool (decide (Q<0)),.slice b1 m1 e1] 142 (0,0));have T:=iJ c (.cells #[.bool (decide (P<0)),.slice b0 m0 e0,.bool (decide (Q<0)),.slice b1 m1 e1] 142 (0,0));refine(aOG _ P Q _ _ 1000 (NP.out.below N) (NQ.out.below N) u.out M.out E3).mono ?_;rintro e o⟨a,rfl,n6,d6⟩;have e6:=N.trans (d6.mono N.size);have hg:(((Nat.gcd P.natAbs Q.natAbs:Nat):Int))=aN p q:=i1;rw[hg]at n6;have gp:=Ka (t:=p) b;obtain⟨ds,gv,rfl,hI,hG,hV⟩:=n6;obtain⟨B,A,y,rfl⟩:=Io hI;have NG:Hid (NumAt o (aN p q) (.agg #[.bool (decide (aN p q<0)),.slice B A y])):=hid ⟨ds,_,rfl,hI,hG,hV⟩;have j:=hid gp;have J2:=hid i2;have J3:=hid i3
  have BG:Hid (RB 1001 (aN p q)):=hid (by
   have:=aMB b (p:=p)
   exact sX (u7 this L.out) E3)
  clear hI hG hV gp i1 i2 i3 hg hc;generalize decide (aN p q<0)=S at*
  go_wp2_with fail
  have R:=(Below.refl o.heap.size o).alloc (zq6 _) (.cells #[.bool S,.slice B A y] 46 (0,0));have k7:=iJ o (.cells #[.bool S,.slice B A y] 46 (0,0));have i:=(R.block _ (bL ((d6.block _ (bL T)).trans T))).trans ((d6.block _ (bL T)).trans T);have l:=e6.trans (R.mono e6.size);generalize o.alloc _=F at*
  have g:∀W,Below F.heap.size F W->(λW:World=>W.cell? ⟨c.heap.size,0,X⟩=Y (.bool (decide (P<0)))/\W.cell? ⟨c.heap.size,1,X⟩=Y (.slice b0 m0 e0)/\W.cell? ⟨c.heap.size,2,X⟩=Y (.bool (decide (Q<0)))/\W.cell? ⟨c.heap.size,3,X⟩=Y (.slice b1 m1 e1)/\C2 o.heap.size (.bool S) (.slice B A y) W) W:=λW C=>⟨aB ((C.block _ (bL i)).trans i) rfl,aB ((C.block _ (bL i)).trans i) rfl,aB ((C.block _ (bL i)).trans i) rfl,aB ((C.block _ (bL i)).trans i) rfl,Kw k7 C⟩
  refine mX (λW:World=>W.cell? ⟨c.heap.size,0,X⟩=Y (.bool (decide (P<0)))/\W.cell? ⟨c.heap.size,1,X⟩=Y (.slice b0 m0 e0)/\W.cell? ⟨c.heap.size,2,X⟩=Y (.bool (decide (Q<0)))/\W.cell? ⟨c.heap.size,3,X⟩=Y (.slice b1 m1 e1)/\C2 o.heap.size (.bool S) (.slice B A y) W) (λ_=>I) E0 ?_
  iterate 6 refine cH [0,1,2,6,7,8] 12 (g _ (bB F)) ?_
  have p7:=hid ((NP.out.below l).below (bB F));have g7:=hid ((NG.out.below R).below (bB F));refine aW 3 (Wo _ P (aN p q) _ _ 1001 p7.out g7.out (sX u.out E3) BG.out E3 j.out) ?_;rintro e w8⟨v8,rfl,n8,d8⟩;have e8:=aX d8;refine⟨_,rfl,λ_=>g _ e8,?_⟩;refine aW 4 (aHX w8 _ v8 1000 n8 (u7 (Kk j.out) u.out) E3) ?_;rintro e w9⟨s9,rfl,t9,d9⟩;have r:=e8.trans (d9.mono e8.size);refine⟨_,rfl,λ_=>g _ r,?_⟩;have z9:=t9.size;have y9:=Kh (n:=1000) (z:=P/aN p q) (u7 (Kk j.out) u.out)
  have x9:¬9223372036854775807<s9.size+1:=O
  clear y9 z9;refine cH [5] 4 (g _ r) ?_;refine aW 9 (Wo _ Q (aN p q) _ _ 1001 ((NQ.out.below l).below r) ((NG.out.below R).below r) (sX M.out E3) BG.out E3 j.out) ?_;rintro e aq⟨ap,rfl,an,af⟩;have k:=r.trans (af.mono r.size);refine⟨_,rfl,λ_=>g _ k,?_⟩;refine aW 10 (aHX aq _ ap 1000 an (u7 (Kk j.out) M.out) E3) ?_;rintro e cc⟨D,rfl,m,ag⟩;have d:=k.trans (ag.mono k.size);refine⟨_,rfl,λ_=>g _ d,?_⟩;have av:=m.size;have ar:=Kh (n:=1000) (z:=Q/aN p q) (u7 (Kk j.out) M.out);have z9:=t9.size;have y9:=Kh (n:=1000) (z:=P/aN p q) (u7 (Kk j.out) u.out)
  have ch:¬9223372036854775807<s9.size+1+D.size:=O
  clear y9 z9 ar av;refine bK 11 (λ_=>g _ d) ?_;refine bK 12 (λ_=>g _ d) ?_;refine kC E0 ?_ _
  go_wp2_with fail
  rw[J2.out]at t9;rw[J3.out]at m;have e4:=x.trans (d4.mono x.size);have f7:=e4.trans (l.mono e4.size);exact bodyPost_ret (v:=.string (s9++⟨#[47]⟩++D)) (by simp[results,results63,go_sem]) rfl ⟨_,rfl,(t9.app (dE.mk' [47])).app m,f7.trans (d.mono f7.size)⟩
def aV (l:LB):Mt:=l.foldl (λm z=>m.mul (Mt.sym z)) Rf.one
theorem aIQ (l:LB)(z:Int):aV (l++[z])=(aV l).mul (Mt.sym z):=by simp[aV]
def Bt (m:Mt):Int:=m.a*m.d-m.b*m.c
theorem aWw (m n:Mt):Bt (m.mul n)=Bt m*Bt n:=by
 unfold Bt Mt.mul;grind
theorem aWx (z:Int):Bt (Mt.sym z)≠0:=by
 unfold Bt Mt.sym
 (repeat' split)<;>decide
theorem aOh (l:LB):Bt (aV l)≠0:=by
 have:∀(l:LB) (m:Mt),Bt m≠0->Bt (l.foldl (λm z=>m.mul (Mt.sym z)) m)≠0:=by
  intro l
  induction l with
  |nil=>exact λm h=>h
  |cons z l a=>exact λm h=>a _ (by rw[aWw];exact x8 h (aWx z))
 exact this l _ E3
theorem aST {m:Mt}(h:Bt m≠0):(m.b≠0\/m.d≠0)/\(m.a≠0\/m.c≠0):=by
 unfold Bt at h;constructor
 .by_cases e:m.b=0
  .exact Or.inr λf=>h (by rw[e,f];simp)
  .exact Or.inl e
 .by_cases e:m.a=0
  .exact Or.inr λf=>h (by rw[e,f];simp)
  .exact Or.inl e
def Je (u:Wt)(c:Nat)(P:Bool)(w:World)(k f d:Nat)(e:Option (List Int))(b:Nat)(wr:World):Prop:=
 ∃(a:LB) (st:Rf.St) (r:Nat),a.length+b=k+1/\nP u c P w wr f st d r (aV a)/\r+(if P then 1 else 0)=a.length/\e=(readK (cD u) b st d r).map (a++·)
def Jw (w:World)(a:Option (List Int))(e:Ending)(g:World):Prop:=Below w.heap.size w g/\match a with
 |none=>e=.returned (.tuple #[.string ⟨#[]⟩,.string ⟨#[]⟩,.int .i64 6])
 |some f=>∃s t,e=.returned (.tuple #[.string s,.string t,.int .i64 0])/\dE s (Lz (aV f).b (aV f).d)/\dE t (Lz (aV f).a (aV f).c)
theorem aMs {k c:Nat}{A:Wt}(hk:k<=60)(hc:c<=3000)(hu:A.Ok)(hC:∀W,Below w.heap.size w W->Calls prog 78 #[.pointer (Y ⟨b,0,X⟩)] W (kL W (Y A))):Calls prog 34 #[.pointer (Y ⟨b,0,X⟩),.int .i64 (k:Int),.int .i64 (c:Int)] w (Jw w (symsT A k c)):=by
 have HC:=hid hC;have HU:=hid hu;clear hC hu
 go_in
 go_wp2_with fail
 have a1:=(Below.refl w.heap.size w).alloc (zq6 _) (.cells #[.pointer (Y ⟨b,0,X⟩)] 26 (0,0));have k1:=aB (o:=0) (iJ w (.cells #[.pointer (Y ⟨b,0,X⟩)] 26 (0,0))) rfl;refine(Zr hk hc k1 ⟨b,rfl⟩ (HC.out _ a1)).mono ?_;rintro e w1⟨rfl,d1⟩;have e1:=a1.trans (d1.mono a1.size);clear k1
 go_wp2_with fail
 refine(aLs hc HU.out (HC.out _ e1)).mono ?_;rintro e w2⟨h,ns,d,n,rfl,D,hn,m⟩;have S:=hid m
 have hS:symsT A k c=if n.pos=I then(readK (cD A) k ⟨ns,c⟩ d 0).map (43::·)else readK (cD A) (k+1) ⟨ns,c⟩ d 0:=by
  unfold symsT;rw[D,j8,hn,j8]
 have HS:=hid hS;clear m hS D hn;generalize hp:n.pos=P at*
 have s:Je A c P w1 k h d (symsT A k c) (if P=I then k else k+1) w2:=by
  rw[HS.out]
  cases P with
  |false=>exact⟨[],_,0,E4,S.out,rfl,E4⟩
  |true=>exact⟨[43],_,0,by simp;omega,S.out,rfl,E4⟩
 obtain⟨f,hE⟩:∃f:Nat->World->Prop,f=Je A c P w1 k h d (symsT A k c):=⟨_,rfl⟩
 obtain⟨M,hM⟩:∃M:Nat,M=if P=I then k else k+1:=⟨_,rfl⟩
 rw[<-hM,<-hE]at s;have ST:=hid s;have HE:=hid hE;clear s hp hM hE HS S;cases P
 all_goals
  go_wp2_with fail
  go_loopg [] M (λB wr=>f B wr)
  case atStart=>exact ST.out
  case round=>
   rw[HE.out]at hrel;obtain⟨g,st,r,ht,m,hr,ha⟩:=hrel;obtain⟨nb,x0,x1,x2⟩:=m.cells;have T:=hid m;have N:=hid ha;have b1:=e1.trans (m.below.mono e1.size);simp at hr
   cases gk with
   |zero=>
    have n1:¬((r:Int)<(k:Int)):=O
    try have n2:¬((r:Int)<(k:Int)+1):=O
    have x:=hid (show symsT A k c=Y g by rw[N.out];simp[readK]);obtain⟨own,at1,cb,c',n',_,hN,_,_,_,_,_,_,_,⟨⟨xs,F,q⟩,_⟩⟩:=T.out.ex;obtain⟨a0,l0,c0,a1,l1,c1,U,l2,c2,a3,l3,c3,rfl⟩:=eN q.1;obtain⟨v0,v1,v2,v3,v4,v5,v6,v7,_⟩:=q.1;have j:=hid F;have HB:Hid (aP J wr [(aV g).b,(aV g).d] [.bool (decide ((aV g).b<0)),.slice a1 l1 c1,.bool (decide ((aV g).d<0)),.slice a3 l3 c3]):=hid ⟨rfl,v3,rfl,v7,trivial⟩;have HD:Hid (aP J wr [(aV g).a,(aV g).c] [.bool (decide ((aV g).a<0)),.slice a0 l0 c0,.bool (decide ((aV g).c<0)),.slice U l2 c2]):=hid ⟨rfl,v1,rfl,v5,trivial⟩;have L:=hid (Rf.cO.mono T.out.bits (show 2*r+1<=1000 by omega));clear ha m hN q F v0 v1 v2 v3 v4 v5 v6 v7
    go_wp2_with fail
    have t:∀W,Below wr.heap.size wr W->(λW:World=>W.cell? ⟨h,3,X⟩=Y (.bool (decide ((aV g).a<0)))/\W.cell? ⟨h,4,X⟩=Y (.slice a0 l0 c0)/\W.cell? ⟨h,5,X⟩=Y (.bool (decide ((aV g).b<0)))/\W.cell? ⟨h,6,X⟩=Y (.slice a1 l1 c1)/\W.cell? ⟨h,7,X⟩=Y (.bool (decide ((aV g).c<0)))/\W.cell? ⟨h,8,X⟩=Y (.slice U l2 c2)/\W.cell? ⟨h,9,X⟩=Y (.bool (decide ((aV g).d<0)))/\W.cell? ⟨h,10,X⟩=Y (.slice a3 l3 c3)) W:=λW p=>⟨aB ((p.block _ (bL j.out)).trans j.out) rfl,aB ((p.block _ (bL j.out)).trans j.out) rfl,aB ((p.block _ (bL j.out)).trans j.out) rfl,aB ((p.block _ (bL j.out)).trans j.out) rfl,aB ((p.block _ (bL j.out)).trans j.out) rfl,aB ((p.block _ (bL j.out)).trans j.out) rfl,aB ((p.block _ (bL j.out)).trans j.out) rfl,aB ((p.block _ (bL j.out)).trans j.out) rfl⟩
    obtain⟨q1,q2⟩:=aST (aOh g);refine mX (λW:World=>W.cell? ⟨h,3,X⟩=Y (.bool (decide ((aV g).a<0)))/\W.cell? ⟨h,4,X⟩=Y (.slice a0 l0 c0)/\W.cell? ⟨h,5,X⟩=Y (.bool (decide ((aV g).b<0)))/\W.cell? ⟨h,6,X⟩=Y (.slice a1 l1 c1)/\W.cell? ⟨h,7,X⟩=Y (.bool (decide ((aV g).c<0)))/\W.cell? ⟨h,8,X⟩=Y (.slice U l2 c2)/\W.cell? ⟨h,9,X⟩=Y (.bool (decide ((aV g).d<0)))/\W.cell? ⟨h,10,X⟩=Y (.slice a3 l3 c3)) (λ_=>I) E0 ?_
    iterate 20 refine cH [0,1,2,3,4,5,6,7,8,9,11,12,13,14,15,16,17,18,19,20] 24 (t _ (bB wr)) ?_
    refine aW 10 (aGM (pJ (On.below (bB wr)) HB.out) L.out.b L.out.d q1) ?_;rintro e w5⟨s5,rfl,t5,d5⟩;have R:=aX d5;refine⟨_,rfl,λ_=>t _ R,?_⟩;refine aW 21 (aGM (pJ (On.below R) HD.out) L.out.a L.out.c q2) ?_;rintro e w6⟨s6,rfl,t6,d6⟩;have y:=R.trans (d6.mono R.size);refine⟨_,rfl,λ_=>t _ y,?_⟩;refine bK 22 (λ_=>t _ y) ?_;refine bK 23 (λ_=>t _ y) ?_;refine bK 24 (λ_=>t _ y) ?_;refine kC E0 ?_ _
    go_wp2_with fail
    refine bodyPost_ret (v:=.tuple #[.string s5,.string s6,.int .i64 0]) (by simp[results,results34,go_sem]) rfl ⟨b1.trans (y.mono b1.size),?_⟩;rw[x.out];exact⟨s5,s6,rfl,t5,t6⟩
   |succ B=>
    have m1:(r:Int)<(k:Int)+1:=O
    try have m2:(r:Int)<(k:Int):=O
    have af:r<=100:=O
    clear ha m
    go_wp2_with fail
    refine(aGy hc T.out af).mono ?_;rintro e w5(⟨rfl,ae,s',i⟩|⟨s',z,rfl,i,hz,C⟩)
    .have x:=hid (show symsT A k c=X by rw[N.out,readK,i];rfl);clear i
     go_wp2_with fail
     refine bodyPost_ret (v:=.tuple #[.string ⟨#[]⟩,.string ⟨#[]⟩,.int .i64 6]) (by simp[results,results34,go_sem]) rfl ⟨e1.trans (ae.mono e1.size),?_⟩;rw[x.out]
    .have x:=hid (show symsT A k c=(readK (cD A) B s' d (r+1)).map ((g++[z])++·) by rw[N.out,readK,i,j9];congr 1;funext l;simp);have R5:=hid C;clear i C N hz
     go_wp2_with fail
     go_roundg B
     case measure=>omega
     case rel=>
      rw[HE.out];exact⟨g++[z],s',r+1,by simp;omega,by rw[aIQ];exact R5.out,by simp;omega,x.out⟩
theorem aMr {k c:Nat}(f:k<=60)(hc:c<=3000)(a:∀W,Below w.heap.size w W->Calls prog 78 #[.pointer (Y ⟨b,0,X⟩)] W (kL W X)):Calls prog 34 #[.pointer (Y ⟨b,0,X⟩),.int .i64 (k:Int),.int .i64 (c:Int)] w λe g=>e=.returned (.tuple #[.string ⟨#[]⟩,.string ⟨#[]⟩,.int .i64 5])/\Below w.heap.size w g:=by
 have HC:=hid a;clear a
 go_in
 go_wp2_with fail
 have a1:=(Below.refl w.heap.size w).alloc (zq6 _) (.cells #[.pointer (Y ⟨b,0,X⟩)] 26 (0,0));have k1:=aB (o:=0) (iJ w (.cells #[.pointer (Y ⟨b,0,X⟩)] 26 (0,0))) rfl;refine(Zr f hc k1 ⟨b,rfl⟩ (HC.out _ a1)).mono ?_;rintro e h⟨rfl,d⟩;clear k1
 go_wp2_with fail
 exact bodyPost_ret (v:=.tuple #[.string ⟨#[]⟩,.string ⟨#[]⟩,.int .i64 5]) (by simp[results,results34,go_sem]) rfl ⟨rfl,a1.trans (d.mono a1.size)⟩
theorem aOj {k c:Int}(h:nM k c):Calls prog 34 #[.pointer (Y ⟨b,0,X⟩),.int .i64 k,.int .i64 c] w λe a=>e=.returned (.tuple #[.string ⟨#[]⟩,.string ⟨#[]⟩,.int .i64 4])/\Below w.heap.size w a:=by
 go_in
 go_wp2_with fail
 refine(aO9 h).mono ?_;rintro e d⟨rfl,rfl⟩
 go_wp2_with fail
 exact bodyPost_ret (v:=.tuple #[.string ⟨#[]⟩,.string ⟨#[]⟩,.int .i64 4]) (by simp[results,results34,go_sem]) rfl ⟨rfl,(Below.refl _ _).alloc (zq6 _) _⟩
theorem aK9 {n:Int}{x c:Value}{i:LB}{a:PH}(h:aP I v (n::i) (x::c::a)):WhoAt v n (.agg #[x,c]):=by
 obtain⟨g,⟨b,d,e,f⟩,_⟩:=h;exact⟨b,c,by rw[g],d,e,f⟩
theorem aGv {a:World}{w c0 c c1:Nat}(k:aP I a [p,q] [.bool (decide (p<0)),.slice a0 w c0,.bool (decide (q<0)),.slice a1 c c1])(i:RB 1000 p)(j:RB 1000 q)(r:∀W,Below a.heap.size a W->mI W):
  Calls prog 61 #[.agg #[.bool (decide (p<0)),.slice a0 w c0,.bool (decide (q<0)),.slice a1 c c1]] a (aR a (Nm.text p++[47]++Nm.text q)):=by
 have y:=hid (aK9 k);have z:=hid (aK9 (show aP I a [q] [.bool (decide (q<0)),.slice a1 c c1]from k.2.2));have u:=hid i;have x:=hid j;have o:=hid r;have lp:=Kh i;have F:=Kh j;clear k i j r
 go_in
 go_wp2_with fail
 have b:=(Below.refl a.heap.size a).alloc (zq6 _) (.cells #[.bool (decide (p<0)),.slice a0 w c0,.bool (decide (q<0)),.slice a1 c c1] 132 (0,0));have k1:=iJ a (.cells #[.bool (decide (p<0)),.slice a0 w c0,.bool (decide (q<0)),.slice a1 c c1] 132 (0,0));generalize a.alloc _=h at*
 have d:∀W,Below h.heap.size h W->(λW:World=>W.cell? ⟨a.heap.size,0,X⟩=Y (.bool (decide (p<0)))/\W.cell? ⟨a.heap.size,1,X⟩=Y (.slice a0 w c0)/\W.cell? ⟨a.heap.size,2,X⟩=Y (.bool (decide (q<0)))/\W.cell? ⟨a.heap.size,3,X⟩=Y (.slice a1 c c1)) W:=λW g=>⟨aB ((g.block _ (bL k1)).trans k1) rfl,aB ((g.block _ (bL k1)).trans k1) rfl,aB ((g.block _ (bL k1)).trans k1) rfl,aB ((g.block _ (bL k1)).trans k1) rfl⟩
 refine mX (λW:World=>W.cell? ⟨a.heap.size,0,X⟩=Y (.bool (decide (p<0)))/\W.cell? ⟨a.heap.size,1,X⟩=Y (.slice a0 w c0)/\W.cell? ⟨a.heap.size,2,X⟩=Y (.bool (decide (q<0)))/\W.cell? ⟨a.heap.size,3,X⟩=Y (.slice a1 c c1)) (λ_=>I) E0 ?_
 iterate 4 refine cH [0,1,4,5] 8 (d _ (bB h)) ?_
 have e1:=b.trans ((bB h).mono b.size);refine aW 2 (aJv _ p _ 1000 (y.out.below e1) u.out E3 (o.out _ e1)) ?_;rintro e C⟨l,rfl,m,A⟩;have e2:=aX A;refine⟨_,rfl,λ_=>d _ e2,?_⟩;have n:=m.size
 have M:¬9223372036854775807<l.size+1:=O
 clear n;refine cH [3] 3 (d _ e2) ?_;have f2:=b.trans (e2.mono b.size);refine aW 6 (aJv C q _ 1000 (z.out.below f2) x.out E3 (o.out _ f2)) ?_;rintro e L⟨s,rfl,t,B⟩;have f:=e2.trans (B.mono e2.size);refine⟨_,rfl,λ_=>d _ f,?_⟩;have n:=m.size;have D:=t.size
 have N:¬9223372036854775807<l.size+1+s.size:=O
 clear n D;refine bK 7 (λ_=>d _ f) ?_;refine bK 8 (λ_=>d _ f) ?_;refine kC E0 ?_ _
 go_wp2_with fail
 exact bodyPost_ret (v:=.string (l++⟨#[47]⟩++s)) (by simp[results,results61,go_sem]) rfl ⟨_,rfl,((m.app (dE.mk' [47])).app t).to E4,b.trans (f.mono b.size)⟩
def orL (u x y:Bool)(k:SF->LT):LT:=.br u (k (.st I)) (.br x (k (.st I)) (k (.sy y)))
def La (d:SF)(k:LT):LT:=
 match d with
 |.st I=>.ret (.one (.b J))
 |.st J=>k
 |.sy t=>.br t (.ret (.one (.b J))) k
def Sz (u d:SF)(k:LT):LT:=
 match u with
 |.st I=>La d k
 |.st J=>k
 |.sy t=>.br t (La d k) k
variable {P:RG->Prop}{Q:List (K (List AT))->AS->Prop}
theorem aTg {m x y:Bool}{k:SF->LT}(h:∀s:SF,s.val=(m||x||y)->(k s).ok P Q):(orL m x y k).ok P Q:=by
 refine⟨λe=>h _ (by rw[e];rfl),λe=>⟨λe2=>h _ (by rw[e,e2];rfl),λe2=>h _ (by rw[e,e2];rfl)⟩⟩
theorem aUa {u d:SF}{k:LT}(g:u.val=I->d.val=I->P (.one (.b J)))(f:k.ok P Q):(Sz u d k).ok P Q:=by
 have h:u.val=I->(La d k).ok P Q:=by
  intro i
  cases d with
  |st b=>cases b with
   |true=>exact g i rfl
   |false=>exact f
  |sy t=>exact⟨λe=>g i e,λ_=>f⟩
 cases u with
 |st b=>cases b with
  |true=>exact h rfl
  |false=>exact f
 |sy t=>exact⟨λe=>h e,λ_=>f⟩
def nC (u d:Bool)(l:List (Int×Int)):Bool:=!((u||l.any λc=>decide (c.1<0)||decide (c.2<0))==(d||l.any λc=>decide (c.1>0)||decide (c.2>0)))
theorem aOs (u d:Bool)(p q:Int)(l:List (Int×Int)):nC u d ((p,q)::l)=nC (u||decide (p<0)||decide (q<0)) (d||decide (p>0)||decide (q>0)) l:=by
 unfold nC;grind
theorem aOr (l:List (Int×Int)):nC I I l=J:=by unfold nC;simp
def Dt (f:LB)(e:LB)(i:Nat)(u d:Bool):AS:=
 ⟨[.top,.top,.val (.one (.ptr 0 0)),.val (.one (.ptr 1 0)),.top,.val (.one (.sbool u)),.val (.one (.sbool d)),.val (.one (.int .i64 i))]++q8 57 .top,
  [(0,⟨cF I 0 8,230,I,J,J⟩),(1,⟨cF I 8 4,127,I,J,J⟩)],2,(f.map λz=>(z,19))++e.map (λz=>(z,3)),[]⟩
def cl (p q a b c d:Int):Int×Int:=(cp d p b q,cp a q c p)
def mB (p0 q0 p1 q1 p2 q2 p3 q3 a b c d:Int):Bool:=nC J J [cl p0 q0 a b c d,cl p1 q1 a b c d,cl p2 q2 a b c d,cl p3 q3 a b c d]
section
variable (p0 q0 p1 q1 p2 q2 p3 q3 a b c d:Int)
theorem aOz:(run Z (gI Ps (aE Nj)) (λ_=>X) (aL Z (gI Ps (aE Nj))) Bm 300 [.code (aG f255),.top f255] (start f255 (fP I [.ns [p0,q0,p1,q1,p2,q2,p3,q3],.ns [a,b,c,d]] [19,3]))).bind (pO I [0,1] [2,3,1005,1006,7] 2 [])=
  Y (.again (.code (.loop (Fa (aG f255) f255))::Jj (aG f255) f255) (Dt [p0,q0,p1,q1,p2,q2,p3,q3] [a,b,c,d] 0 J J)):=E0
noncomputable def nY (i:Nat)(n:Nat)(u v:Bool):Option LT:=(run Z (gI Ps (aE Nj)) (λ_=>X) (aL Z (gI Ps (aE Nj))) qY 300 (.code (Fa (aG f255) f255)::.lp (Fa (aG f255) f255) n::Jj (aG f255) f255) (Dt [p0,q0,p1,q1,p2,q2,p3,q3] [a,b,c,d] i u v)).bind (pO I [0,1] [2,3,1005,1006,7] 2 [])
noncomputable def lI (i:Nat)(n:Nat)(u v:Bool)(p q:Int):LT:=orL u (decide ((cl p q a b c d).1<0)) (decide ((cl p q a b c d).2<0)) λe=>orL v (decide ((cl p q a b c d).1>0)) (decide ((cl p q a b c d).2>0)) λf=>Sz e f (.again (.lp (Fa (aG f255) f255) n::Jj (aG f255) f255) (Dt [p0,q0,p1,q1,p2,q2,p3,q3] [a,b,c,d] (i+1) e.val f.val))
theorem aOu (n:Nat)(u v:Bool):nY p0 q0 p1 q1 p2 q2 p3 q3 a b c d 0 n u v=Y (lI p0 q0 p1 q1 p2 q2 p3 q3 a b c d 0 n u v p0 q0):=E0
theorem aOv (n:Nat)(u v:Bool):nY p0 q0 p1 q1 p2 q2 p3 q3 a b c d 1 n u v=Y (lI p0 q0 p1 q1 p2 q2 p3 q3 a b c d 1 n u v p1 q1):=E0
theorem aOw (n:Nat)(u v:Bool):nY p0 q0 p1 q1 p2 q2 p3 q3 a b c d 2 n u v=Y (lI p0 q0 p1 q1 p2 q2 p3 q3 a b c d 2 n u v p2 q2):=E0
theorem aOx (n:Nat)(u v:Bool):nY p0 q0 p1 q1 p2 q2 p3 q3 a b c d 3 n u v=Y (lI p0 q0 p1 q1 p2 q2 p3 q3 a b c d 3 n u v p3 q3):=E0
theorem aOy (n:Nat)(u v:Bool):nY p0 q0 p1 q1 p2 q2 p3 q3 a b c d 4 n u v=Y (.ret (.one (.b !(u==v)))):=E0
end
def Bz:List G->Option RG
 | [.ns [p0,q0,p1,q1,p2,q2,p3,q3],.ns [a,b,c,d]]=>Y (.one (.b (mB p0 q0 p1 q1 p2 q2 p3 q3 a b c d)))
 |_=>X
theorem aSL:bD Z 255 (eF I Bz aS 0 [19,3]):=by
 refine Va Zi aTr (aZ func255 rfl rfl) (kb:=[0,1]) (kt:=[2,3,1005,1006,7]) (nx:=2) (rb:=[]) ?_ E0 ?_
 .intro x ns out h t y D;unfold Bz at h;split at h
  .cases h;trivial
  .cases h
 .intro x out h M F;unfold Bz at h;split at h
  .rename_i p0 q0 p1 q1 p2 q2 p3 q3 a b c d;cases h;refine⟨λm s=>∃(i:Nat) (u v:Bool),m=5-i/\i<=4/\s=Dt [p0,q0,p1,q1,p2,q2,p3,q3] [a,b,c,d] i u v/\nC u v ([cl p0 q0 a b c d,cl p1 q1 a b c d,cl p2 q2 a b c d,cl p3 q3 a b c d].drop i)=mB p0 q0 p1 q1 p2 q2 p3 q3 a b c d,⟨300,_,aOz p0 q0 p1 q1 p2 q2 p3 q3 a b c d,rfl,5,0,J,J,rfl,O,rfl,rfl⟩,?_⟩;rintro m s⟨i,u,v,rfl,hi,rfl,k⟩ n
   have e:∀(j:Nat) (p q:Int) (r:List (Int×Int)),j<4->nC u v (cl p q a b c d::r)=mB p0 q0 p1 q1 p2 q2 p3 q3 a b c d->r=[cl p0 q0 a b c d,cl p1 q1 a b c d,cl p2 q2 a b c d,cl p3 q3 a b c d].drop (j+1)->
     (lI p0 q0 p1 q1 p2 q2 p3 q3 a b c d j n u v p q).ok (λg=>g=.one (.b (mB p0 q0 p1 q1 p2 q2 p3 q3 a b c d))) λz A=>z=.lp (Fa (aG f255) f255) n::Jj (aG f255) f255/\∃w,w<5-j/\∃(i:Nat) (u v:Bool),w=5-i/\i<=4/\A=Dt [p0,q0,p1,q1,p2,q2,p3,q3] [a,b,c,d] i u v/\nC u v ([cl p0 q0 a b c d,cl p1 q1 a b c d,cl p2 q2 a b c d,cl p3 q3 a b c d].drop i)=mB p0 q0 p1 q1 p2 q2 p3 q3 a b c d:=by
    intro j p q r L t y
    have f:nC (u||decide ((cl p q a b c d).1<0)||decide ((cl p q a b c d).2<0)) (v||decide ((cl p q a b c d).1>0)||decide ((cl p q a b c d).2>0)) r=mB p0 q0 p1 q1 p2 q2 p3 q3 a b c d:=by rw[<-aOs];exact t
    refine aTg λB l=>aTg λC o=>aUa ?_ ?_
    .intro e1 e2;rw[<-l,<-o,e1,e2,aOr]at f;rw[f]
    .refine⟨rfl,5-(j+1),O,j+1,B.val,C.val,rfl,O,rfl,?_⟩;grind
   rcases(by omega:i=0\/i=1\/i=2\/i=3\/i=4)with rfl|rfl|rfl|rfl|rfl
   .exact⟨300,_,aOu p0 q0 p1 q1 p2 q2 p3 q3 a b c d n u v,e 0 p0 q0 _ O k rfl⟩
   .exact⟨300,_,aOv p0 q0 p1 q1 p2 q2 p3 q3 a b c d n u v,e 1 p1 q1 _ O k rfl⟩
   .exact⟨300,_,aOw p0 q0 p1 q1 p2 q2 p3 q3 a b c d n u v,e 2 p2 q2 _ O k rfl⟩
   .exact⟨300,_,aOx p0 q0 p1 q1 p2 q2 p3 q3 a b c d n u v,e 3 p3 q3 _ O k rfl⟩
   .refine⟨300,_,aOy p0 q0 p1 q1 p2 q2 p3 q3 a b c d n u v,?_⟩
    have:(!(u==v))=mB p0 q0 p1 q1 p2 q2 p3 q3 a b c d:=by rw[<-k];simp[nC]
    show RG.one (.b !(u==v))=_;rw[this]
  .cases h
noncomputable def tw8 (a c p1 d p2 e b f:Int):Int:=cR (cR (cR (cR (cR (cR (cR (cR (-1) a) c) p1) d) p2) e) b) f
theorem Iw {t b:Int}(d:t<=190000000)(c:Bits 19 b):cR t b<=190000000:=by
 have h:(Nm.cmp b 0==0)=J->(tz b:Int)<=190000000:=by
  intro h
  have a:b≠0:=λe=>by rw[jQ e]at h;cases h
  have:=Nm.aYe a c;omega
 unfold cR;grind
noncomputable def hv (t z:Int):Int:=bif decide (t<1)then z else qG z t
noncomputable def Lo:List G->Option RG
 | [.ns [a,c,p1,d,p2,e,b,f]]=>Y (.one (.ns [hv (tw8 a c p1 d p2 e b f) a,hv (tw8 a c p1 d p2 e b f) c,hv (tw8 a c p1 d p2 e b f) p1,hv (tw8 a c p1 d p2 e b f) d,hv (tw8 a c p1 d p2 e b f) p2,hv (tw8 a c p1 d p2 e b f) e,hv (tw8 a c p1 d p2 e b f) b,hv (tw8 a c p1 d p2 e b f) f]))
 |_=>X
theorem aVZ:bD Z 241 (eF I Lo aS 19 [19]):=by
 refine iB Zi bO (aZ func241 rfl rfl) ?_;intro s out h;unfold Lo at h;split at h
 .rename_i a d p1 e p2 f c g;cases h;refine⟨q8 8 (decide (tw8 a d p1 e p2 f c g<1)=J->1<=tw8 a d p1 e p2 f c g/\tw8 a d p1 e p2 f c g<=1000000000),19,E0,E3,λ_ q=>?_⟩;have b:∀z∈[a,d,p1,e,p2,f,c,g],Bits 19 z:=q.1;simp at b;obtain⟨b0,b1,k,l,m,n,o,p⟩:=b;have r:tw8 a d p1 e p2 f c g<=190000000:=Iw (Iw (Iw (Iw (Iw (Iw (Iw (Iw E3 b0) b1) k) l) m) n) o) p;intro P i;have i:=List.eq_of_mem_replicate i;subst i;intro j
  have j:¬tw8 a d p1 e p2 f c g<1:=by simpa using j
  exact⟨O,O⟩
 .cases h
def Ca:List G->Option RG
 | [.ns [a,d,p1,e,p2,f,c,g]]=>Y (.one (.b (mB a d p1 e p2 f c g 1 0 0 1)))
 |_=>X
theorem aTM:bD Z 258 (eF I Ca aS 0 [19]):=by
 refine iB (l:=(255,eF I Bz aS 0 [19,3])::Nj) ⟨aSL,Zi⟩ bO (aZ func258 rfl rfl) ?_;intro a out h;unfold Ca at h;split at h
 .cases h;exact⟨[],0,E0,E3,λ_ _=>fX⟩
 .cases h
noncomputable def tC7:List (FuncId×TE):=(255,eF I Bz aS 0 [19,3])::(241,eF I Lo aS 19 [19])::(258,eF I Ca aS 0 [19])::Nj
theorem aXo:cK Z tC7:=⟨aSL,aVZ,aTM,Zi⟩
end Ab
namespace Pg
open Rf Nw
def sc (d:Int)(v:V):V:=(d*v.1,d*v.2)
def hY (u v:V):V:=(u.1+v.1,u.2+v.2)
theorem Zw (m:Mt)(d:Int)(v:V):hZ m (sc d v)=sc d (hZ m v):=by
 unfold hZ sc Mt.at1 Mt.at2
 ext<;>grind
theorem Sl (m:Mt)(d:Int)(v:V):fC m (sc d v)=sc d (fC m v):=by
 unfold fC sc Mt.wW Mt.wX
 ext<;>grind
theorem aQM (m:Mt)(u v:V):hZ m (hY u v)=hY (hZ m u) (hZ m v):=by
 unfold hZ hY Mt.at1 Mt.at2
 ext<;>grind
theorem aQJ (m:Mt)(u v:V):fC m (hY u v)=hY (fC m u) (fC m v):=by
 unfold fC hY Mt.wW Mt.wX
 ext<;>grind
theorem aXf (d e:Int)(v:V):sc d (sc e v)=sc (d*e) v:=by
 unfold sc
 ext<;>grind
theorem Aa (v:V):sc 1 v=v:=by unfold sc;simp
theorem aSF (m:Mt):fC m (0,0)=(0,0):=by unfold fC Mt.wW Mt.wX;simp
theorem aKw (m k:Mt)(v:V):fC (m.mul k) v=fC k (fC m v):=by
 unfold fC Mt.wW Mt.wX Mt.mul
 ext<;>grind
theorem Kt (v:V):fC one v=v:=by unfold fC Mt.wW Mt.wX one;simp
theorem aQN (v:V):hZ one v=v:=by unfold hZ Mt.at1 Mt.at2 one;simp
def iN (u v:V)(m:Mt):V:=hY (sc m.a u) (sc m.c v)
def iO (u v:V)(m:Mt):V:=hY (sc m.b u) (sc m.d v)
def tU:List V->Mt->List V
 | [a,b,c,d],m=>[iN a c m,iN b d m,iO a c m,iO b d m]
 |_,_=>[]
def oG:List V->Mt->List V
 | [a,b,c,d],m=>[iN a b m,iO a b m,iN c d m,iO c d m]
 |_,_=>[]
theorem Ox (d:Int)(u v:V)(m:Mt):iN (sc d u) (sc d v) m=sc d (iN u v m):=by
 unfold iN sc hY
 ext<;>grind
theorem Oy (d:Int)(u v:V)(m:Mt):iO (sc d u) (sc d v) m=sc d (iO u v m):=by
 unfold iO sc hY
 ext<;>grind
theorem aRX (m:Mt):iN (0,0) (0,0) m=(0,0):=by unfold iN sc hY;simp
theorem aRY (m:Mt):iO (0,0) (0,0) m=(0,0):=by unfold iO sc hY;simp
theorem Oq (k:Mt)(u v:V)(m:Mt):iN (fC k u) (fC k v) m=fC k (iN u v m):=by
 unfold iN;rw[aQJ,Sl,Sl]
theorem Ot (k:Mt)(u v:V)(m:Mt):iO (fC k u) (fC k v) m=fC k (iO u v m):=by
 unfold iO;rw[aQJ,Sl,Sl]
theorem aVg (k:Mt)(u v:V)(m:Mt):iN (hZ k u) (hZ k v) m=hZ k (iN u v m):=by
 unfold iN;rw[aQM,Zw,Zw]
theorem aVi (k:Mt)(u v:V)(m:Mt):iO (hZ k u) (hZ k v) m=hZ k (iO u v m):=by
 unfold iO;rw[aQM,Zw,Zw]
theorem Gj (h m:Mt):hZ (h.mul m) (1,0)=iN (hZ h (1,0)) (hZ h (0,1)) m:=by
 unfold iN sc hY hZ Mt.at1 Mt.at2 Mt.mul
 ext<;>grind
theorem Te (h m:Mt):hZ (h.mul m) (0,1)=iO (hZ h (1,0)) (hZ h (0,1)) m:=by
 unfold iO sc hY hZ Mt.at1 Mt.at2 Mt.mul
 ext<;>grind
theorem aJd (t:List V)(u v y:V)(m:Mt):bR t (iN u v m) y=iN (bR t u y) (bR t v y) m:=by
 unfold bR iN sc hY;split
 .ext<;>grind
 .simp
theorem aJe (t:List V)(u v y:V)(m:Mt):bR t (iO u v m) y=iO (bR t u y) (bR t v y) m:=by
 unfold bR iO sc hY;split
 .ext<;>grind
 .simp
theorem aJf (t:List V)(u v y:V)(m:Mt):bR t y (iN u v m)=iN (bR t y u) (bR t y v) m:=by
 unfold bR iN sc hY;split
 .ext<;>grind
 .simp
theorem aJg (t:List V)(u v y:V)(m:Mt):bR t y (iO u v m)=iO (bR t y u) (bR t y v) m:=by
 unfold bR iO sc hY;split
 .ext<;>grind
 .simp
def Fb (g:Int)(m:Mt):Mt:=⟨g*m.a,g*m.b,g*m.c,g*m.d⟩
theorem aVf (g:Int)(u v:V)(m:Mt):iN u v (Fb g m)=sc g (iN u v m):=by
 unfold iN sc hY Fb
 ext<;>grind
theorem aVh (g:Int)(u v:V)(m:Mt):iO u v (Fb g m)=sc g (iO u v m):=by
 unfold iO sc hY Fb
 ext<;>grind
def pad:List V->List V
 | []=>[(0,0),(0,0),(0,0),(0,0)]
 | [a]=>[a,(0,0),(0,0),(0,0)]
 | [a,b]=>[a,b,(0,0),(0,0)]
 | [a,b,c]=>[a,b,c,(0,0)]
 |l=>l
structure fJ (l cs:List V):Prop where
 ex:∃d:Int,0<d/\pad l=cs.map (sc d)
 len:cs.length=4
variable {d:Int}
theorem aXz (hd:0<d)(v:V):mV (sc d v)=mV v:=by
 have h:∀x:Int,decide (0<d*x)=decide (0<x):=λx=>by
  rw[decide_eq_decide];exact⟨λh=>y8 h hd,λh=>z8 hd h⟩
 unfold mV sc;rw[h,h]
where
 y8 {d x:Int} (h:0<d*x) (hd:0<d):0<x:=by
  rcases A0 0 x with h1|h1
  .exact h1
  .have:=Int.mul_nonpos_of_nonneg_of_nonpos (A4 hd) h1;omega
theorem aRi (hd:0<d)(v:V):lH (sc d v)=lH v:=by
 have h:∀x:Int,decide (d*x<0)=decide (x<0):=λx=>by
  rw[decide_eq_decide];constructor
  .intro h
   rcases A0 x 0 with h1|h1
   .exact h1
   .have:=Int.mul_nonneg (A4 hd) h1;omega
  .exact λh=>Int.mul_neg_of_pos_of_neg hd h
 unfold lH sc;rw[h,h]
theorem aUm (hd:0<d)(l:List V):fits (l.map (sc d))=fits l:=by
 unfold fits;rw[q9,q9];congr 1
 .congr 1;funext v;exact aXz hd v
 .congr 1;funext v;exact aRi hd v
theorem aRo (l:List V):fits (pad l)=fits l:=by
 unfold pad fits
 split<;>simp[mV,lH]
theorem aPI {f:V->V}(e:f (0,0)=(0,0))(l:List V):pad (l.map f)=(pad l).map f:=by
 unfold pad
 match l with
 | []=>simp[e]
 | [a]=>simp[e]
 | [a,b]=>simp[e]
 | [a,b,c]=>simp[e]
 |a::b::c::d::r=>simp
theorem fJ.fits {l cs:List V}(h:fJ l cs):Nw.fits l=Nw.fits cs:=by
 obtain⟨d,hd,e⟩:=h.ex;rw[<-aRo,e,aUm hd]
theorem fJ.fC {l cs:List V}(h:fJ l cs)(m:Mt):fJ (l.map (Rf.fC m)) (cs.map (Rf.fC m)):=by
 obtain⟨d,hd,e⟩:=h.ex;refine⟨⟨d,hd,?_⟩,by simp[h.len]⟩;rw[aPI (aSF m),e,r5,r5];congr 1;funext v;exact Sl m d v
theorem fJ.can {l cs:List V}(h:fJ l cs)(s:Int):Rf.can l s=Nw.fits (cs.map (Rf.fC (Mt.sym s))):=(h.fC _).fits
variable {cs:List V}
theorem fJ.over {l a:List V}{t:Int}(h:fJ l cs)(b:0<t)(e:cs=a.map (sc t)):fJ l a:=by
 obtain⟨d,hd,e1⟩:=h.ex;refine⟨⟨d*t,z8 hd b,?_⟩,by have:=h.len;rw[e]at this;simpa using this⟩;rw[e1,e,r5];congr 1;funext v;exact aXf d t v
theorem fJ.times {l:List V}{t:Int}(h:fJ l cs)(a:0<t):fJ (l.map (sc t)) cs:=by
 obtain⟨d,hd,e⟩:=h.ex;refine⟨⟨t*d,z8 a hd,?_⟩,h.len⟩;rw[aPI (by unfold sc;simp),e,r5];congr 1;funext v;exact aXf t d v
theorem four (h:cs.length=4):∃a b c d,cs=[a,b,c,d]:=by
 match cs,h with
 | [a,b,c,d],_=>exact⟨a,b,c,d,rfl⟩
variable {a b x y z t:V}
theorem fJ.of4 {c d:V}(h:fJ [a,b,c,d] [x,y,z,t]):∃e:Int,0<e/\a=sc e x/\b=sc e y/\c=sc e z/\d=sc e t:=by
 obtain⟨e,g,f⟩:=h.ex;simp[pad]at f;exact⟨e,g,f⟩
theorem fJ.mk4 {c d:V}{e:Int}(j:0<e)(f:a=sc e x)(g:b=sc e y)(h:c=sc e z)(i:d=sc e t):fJ [a,b,c,d] [x,y,z,t]:=⟨⟨e,j,by simp[pad,f,g,h,i]⟩,rfl⟩
theorem fJ.of2 (h:fJ [a,b] [x,y,z,t]):∃e:Int,0<e/\a=sc e x/\b=sc e y/\(0,0)=sc e z/\(0,0)=sc e t:=by
 obtain⟨e,d,c⟩:=h.ex;simp[pad]at c;exact⟨e,d,c⟩
theorem fJ.mk2 {e:Int}(h:0<e)(c:a=sc e x)(d:b=sc e y)(f:(0,0)=sc e z)(g:(0,0)=sc e t):fJ [a,b] [x,y,z,t]:=⟨⟨e,h,by simp only[pad,r7,r8,<-c,<-d,<-f,<-g]⟩,rfl⟩
theorem fJ.tU {a b c d:V}{cs:List V}(m:Mt)(h:fJ [a,b,c,d] cs):fJ [iN a c m,iN b d m,iO a c m,iO b d m] (Pg.tU cs m):=by
 obtain⟨x,y,z,t,rfl⟩:=four h.len;obtain⟨e,f,rfl,rfl,rfl,rfl⟩:=h.of4;exact .mk4 f (Ox ..) (Ox ..) (Oy ..) (Oy ..)
theorem fJ.oG {a b c d:V}{cs:List V}(m:Mt)(h:fJ [a,b,c,d] cs):fJ [iN a b m,iO a b m,iN c d m,iO c d m] (Pg.oG cs m):=by
 obtain⟨x,y,z,t,rfl⟩:=four h.len;obtain⟨e,f,rfl,rfl,rfl,rfl⟩:=h.of4;exact .mk4 f (Ox ..) (Oy ..) (Ox ..) (Oy ..)
theorem fJ.Dk (m:Mt)(h:fJ [a,b] cs):fJ [iN a b m,iO a b m] (Pg.oG cs m):=by
 obtain⟨x,y,z,t,rfl⟩:=four h.len;obtain⟨e,f,rfl,rfl,c,d⟩:=h.of2;refine .mk2 f (Ox ..) (Oy ..) ?_ ?_
 .rw[<-Ox,<-c,<-d,aRX]
 .rw[<-Oy,<-c,<-d,aRY]
theorem fJ.Na (m:Mt){n:Int}(c:0<n)(h:fJ [a,b] cs):fJ [iN a b (Fb n m),iO a b (Fb n m)] (Pg.oG cs m):=by
 have:=(h.Dk m).times c
 simpa[aVf,aVh]using this
end Pg
namespace Pg
open Rf Nw
def eG (v:V):Int:=if v.1=0/\v.2=0 then 1 else v.1+v.2
def scaled (u v o r:V):Int:=(((u.1*v.2-u.2*v.1)*(eG o*eG r)).natAbs:Int)
def zU (a b:Int):Int:=if a<b then b else a
def wJ (cs:List V)(times:Int):Int:=
 match cs with
 | [a,b,c,d]=>Nm.cmp (zU (scaled a c b d) (scaled b d a c)*times) (zU (scaled a b c d) (scaled c d a b))
 |_=>0
def Ar (S:Int)(f:V)(x:Int):Prop:=0<f.2/\0<=f.1/\f.1*S=2*x*f.2
theorem aGz {k a b:Int}(c:0<k):k*a<=k*b↔a<=b:=⟨λh=>Int.le_of_mul_le_mul_left h c,λh=>Int.mul_le_mul_of_nonneg_left h O⟩
theorem Ar.gA {n:Int}{P g:V}{x t:Int}(i:0<n)(j:Ar n P x)(k:Ar n g t):Ar n (Rf.gA P g) (zU x t):=by
 obtain⟨f1,f2,f3⟩:=j;obtain⟨b,c,d⟩:=k
 have a:g.1*P.2<=P.1*g.2↔t<=x:=by
  have e1:n*(g.1*P.2)=2*(P.2*g.2)*t:=by
   grind
  have e2:n*(P.1*g.2)=2*(P.2*g.2)*x:=by
   grind
  have l:0<2*(P.2*g.2):=z8 E3 (z8 f1 b);rw[<-aGz i,e1,e2,aGz l]
 unfold Rf.gA zU
 by_cases h:t<=x
 .rw[if_pos (a.2 h),if_neg O];exact⟨f1,f2,f3⟩
 .rw[if_neg (λe=>h (a.1 e)),if_pos O];exact⟨b,c,d⟩
theorem aN8 {k a b:Int}(c:0<k):Nm.cmp (k*a) (k*b)=Nm.cmp a b:=by
 have d:k*a<k*b↔a<b:=⟨λh=>Int.lt_of_mul_lt_mul_left h O,λh=>Int.mul_lt_mul_of_pos_left h c⟩
 have e:k*a=k*b↔a=b:=⟨λh=>Int.eq_of_mul_eq_mul_left O h,λh=>by rw[h]⟩
 unfold Nm.cmp
 simp_all
theorem Ar.cmp {n:Int}{P g:V}{x t l:Int}(c:0<n)(d:Ar n P x)(e:Ar n g t):Nm.cmp (l*P.1*g.2) (g.1*P.2)=Nm.cmp (x*l) t:=by
 obtain⟨f1,f2,f3⟩:=d;obtain⟨b,i,j⟩:=e;have h:0<2*(P.2*g.2):=z8 E3 (z8 f1 b);rw[<-aN8 c,<-aN8 (a:=x*l) h];grind
def pG (v:V):Prop:=(0<=v.1/\0<=v.2)\/(v.1<=0/\v.2<=0)
theorem Xe {l:List V}(h:fits l=I):∀v∈l,pG v:=by
 unfold fits at h;intro v hv;unfold pG
 cases a:l.any mV with
 |false=>
  have:=r9.1 a v hv;simp[mV]at this;omega
 |true=>
  cases hd:l.any lH with
  |true=>rw[a,hd]at h;cases h
  |false=>
   have:=r9.1 hd v hv;simp[lH]at this;omega
theorem Zp {P:V}(h:pG P):eG P≠0:=by
 unfold eG pG at*;omega
theorem Zo {P:V}(h:pG P):(P.1+P.2=0↔P.1=0/\P.2=0):=by
 unfold pG at h;omega
theorem Vv {P v o r:V}{e S:Int}(q:0<e)(i:pG P)(hv:pG v)(s:pG o)(t:pG r)(l:S=((eG P).natAbs:Int)*((eG v).natAbs:Int)*(((eG o).natAbs:Int)*((eG r).natAbs:Int))):Ar S (apart (sc e P) (sc e v)) (scaled P v o r):=by
 have j:(sc e P).1+(sc e P).2=e*(P.1+P.2):=by unfold sc;grind
 have k:(sc e v).1+(sc e v).2=e*(v.1+v.2):=by unfold sc;grind
 have c:∀x:Int,e*x=0↔x=0:=λx=>⟨λh=>by rcases Int.mul_eq_zero.1 h with h|h;omega;exact h,λh=>by rw[h];simp⟩
 unfold apart;rw[j,k]
 by_cases hc:P.1+P.2=0\/v.1+v.2=0
 .rw[if_pos (by rw[c,c];exact hc)]
  have m:scaled P v o r=0:=by
   have:P.1*v.2-P.2*v.1=0:=by
    rcases hc with h|h
    .obtain⟨a,b⟩:=(Zo i).1 h
     simp_all
    .obtain⟨a,b⟩:=(Zo hv).1 h;rw[a,b];simp
   unfold scaled;rw[this];simp
  refine⟨E3,E3,?_⟩;rw[m];simp
 .rw[if_neg (by rw[c,c];exact hc)]
  have f:=λh=>hc (Or.inl h)
  have g:=λh=>hc (Or.inr h)
  have n:eG P=P.1+P.2:=by unfold eG;rw[if_neg (λh=>f ((Zo i).2 h))]
  have p:eG v=v.1+v.2:=by unfold eG;rw[if_neg (λh=>g ((Zo hv).2 h))]
  have w:=x8 (λh=>f ((c _).1 h)) (λh=>g ((c _).1 h))
  have d:((sc e P).1-(sc e P).2)*(e*(v.1+v.2))-((sc e v).1-(sc e v).2)*(e*(P.1+P.2))=2*(e*e)*(P.1*v.2-P.2*v.1):=by unfold sc;grind
  refine⟨by simp only;omega,?_⟩;rw[d,l,n,p];unfold scaled;simp only[Int.natAbs_mul];grind
theorem fJ.wider {l cs:List V}(h:fJ l cs)(m:l.length=4)(g:Nw.fits l=I)(f:Int):Rf.wider f l=wJ cs f:=by
 obtain⟨x,y,z,t,rfl⟩:=four h.len;obtain⟨a,b,c,d,rfl⟩:=four m;rw[h.fits]at g;obtain⟨e,i,rfl,rfl,rfl,rfl⟩:=h.of4;have o1:=Xe g x E4;have o2:=Xe g y E4;have o3:=Xe g z E4;have o4:=Xe g t E4;have p1:=A5.2 (Zp o1);have p2:=A5.2 (Zp o2);have n:=A5.2 (Zp o3);have o:=A5.2 (Zp o4);have j:0<((eG x).natAbs:Int)*((eG y).natAbs:Int)*(((eG z).natAbs:Int)*((eG t).natAbs:Int)):=z8 (z8 O O) (z8 O O);have f1:=Vv (S:=((eG x).natAbs:Int)*((eG y).natAbs:Int)*(((eG z).natAbs:Int)*((eG t).natAbs:Int))) i o1 o3 o2 o4 (by grind);have f2:=Vv (S:=((eG x).natAbs:Int)*((eG y).natAbs:Int)*(((eG z).natAbs:Int)*((eG t).natAbs:Int))) i o2 o4 o1 o3 (by grind);have f3:=Vv (S:=((eG x).natAbs:Int)*((eG y).natAbs:Int)*(((eG z).natAbs:Int)*((eG t).natAbs:Int))) i o1 o2 o3 o4 (by grind);have k:=Vv (S:=((eG x).natAbs:Int)*((eG y).natAbs:Int)*(((eG z).natAbs:Int)*((eG t).natAbs:Int))) i o3 o4 o1 o2 (by grind);exact Ar.cmp j (Ar.gA j f1 f2) (Ar.gA j f3 k)
end Pg
namespace Pg
open Rf Nw
structure HC (n:Nd):Prop where
 len:n.had.length=n.out.length+1
 fst:n.had[0]?=Y one
 lst:n.had[n.out.length]?=Y n.told
 step:∀(r:Nat) (c:Int) (m:Mt),n.out[r]?=Y c->n.had[r]?=Y m->n.had[r+1]?=Y (m.mul (Mt.sym c))
theorem HC.fresh (pos:Bool)(t:List V)(args:NU):HC (fresh pos t args):=⟨rfl,rfl,rfl,λr c m h=>by simp[Rf.fresh]at h⟩
variable {g:Nd}
theorem HC.of {n':Nd}(h:HC g)(b:n'.out=g.out)(a:n'.had=g.had)(c:n'.told=g.told):HC n':=⟨by rw[b,a];exact h.len,by rw[a];exact h.fst,by rw[b,a,c];exact h.lst,by rw[b,a];exact h.step⟩
theorem HC.give (h:HC g)(c:Int):HC {g with out:=g.out++[c],told:=g.told.mul (Mt.sym c),had:=g.had++[g.told.mul (Mt.sym c)]}:=by
 refine⟨by simp[h.len],?_,?_,?_⟩
 .simp only;rw[s7 (by rw[h.len];omega)];exact h.fst
 .simp only;simp[h.len]
 .intro r d m a b
  by_cases f:r<g.out.length
  .rw[s7 f]at a;rw[s7 (by rw[h.len];omega)]at b ⊢;exact h.step r d m a b
  .have e:r=g.out.length:=by
    grind
   subst e;simp at a;rw[s7 (by rw[h.len];omega),h.lst]at b;cases b;subst a;simp[h.len]
structure Go (ns ns':List Nd):Prop where
 len:ns.length<=ns'.length
 at':∀(i:Nat) (n:Nd),ns[i]?=Y n->∃n',ns'[i]?=Y n'/\n'.pos=n.pos/\(∀(r:Nat) (m:Mt),n.had[r]?=Y m->n'.had[r]?=Y m)/\(∀(r:Nat) (c:Int),n.out[r]?=Y c->n'.out[r]?=Y c)
theorem Go.refl (ns:List Nd):Go ns ns:=⟨zq6 _,λi n h=>⟨n,h,rfl,λ_ _ h=>h,λ_ _ h=>h⟩⟩
theorem Go.trans {a b c:List Nd}(h:Go a b)(d:Go b c):Go a c:=⟨Nat.le_trans h.len d.len,λi n f=>by
 have⟨n1,h1,h2,h3,h4⟩:=h.at' i n f;have⟨n2,h5,h6,h7,h8⟩:=d.at' i n1 h1
 exact⟨n2,h5,h6.trans h2,λr m e=>h7 r m (h3 r m e),λr m e=>h8 r m (h4 r m e)⟩⟩
theorem Go.more (ns a:List Nd):Go ns (ns++a):=⟨E4,λi n h=>⟨n,by rw[s7 (List.getElem?_eq_some_iff.1 h).1];exact h,rfl,λ_ _ h=>h,λ_ _ h=>h⟩⟩
theorem Go.set {ns:List Nd}{i:Nat}{g n':Nd}(h:ns[i]?=Y g)(e:n'.pos=g.pos)(a:∀(r:Nat) (m:Mt),g.had[r]?=Y m->n'.had[r]?=Y m)(d:∀(r:Nat) (c:Int),g.out[r]?=Y c->n'.out[r]?=Y c):Go ns (ns.set i n'):=by
 refine⟨E4,λk m b=>?_⟩;grind
theorem Go.ends {ns b:List Nd}(h:Go ns b){g:Nd}{w:Nat}{e:V×V}(c:ends ns g w=Y e):ends b g w=Y e:=by
 unfold Rf.ends at*;have⟨a,h1,h2⟩:=o9.1 c;have⟨x,h3,h4⟩:=o9.1 h2;have⟨r,h5,h6⟩:=o9.1 h4;have⟨x',g1,_,g2,_⟩:=h.at' a x h3;grind
theorem Go.bare {ns b:List Nd}(h:Go ns b){g:Nd}{l:List V}(a:bare ns g=Y l):bare b g=Y l:=by
 unfold Rf.bare at*;split at a
 .exact a
 .exact a
 .obtain⟨e,c,rfl⟩:=p5.1 a;rw[h.ends c];rfl
 .have⟨e,c,h2⟩:=o9.1 a;rw[h.ends c];obtain⟨r,d,rfl⟩:=p5.1 h2
  by_cases f:g.args.length=2
  .rw[if_pos f]at d ⊢;rw[h.ends d];rfl
  .grind
 .cases a
theorem Go.corners {ns a:List Nd}(h:Go ns a){g:Nd}{l:List V}(d:corners ns g=Y l):corners a g=Y l:=by
 unfold Rf.corners at*;obtain⟨b,c,rfl⟩:=p5.1 d;rw[h.bare c];rfl
theorem Go.waits {ns d:List Nd}(h:Go ns d):∀(c rd:NU),(∀a∈c,a<ns.length)->waits d c rd=waits ns c rd
 | [],_,_=>by simp[Rf.waits]
 |_::_,[],_=>by simp[Rf.waits]
 |a::c,r::i,f=>by
  unfold Rf.waits;have e:=f a E4;have⟨x',g1,g2,_⟩:=h.at' a ns[a] (s8 e);rw[g1,s8 e,h.waits c i (λb g=>f b (by simp[g]))]
  simp_all
variable {ns:List Nd}{l:List V}
theorem aIj (d:corners ns g=Y l)(c:Int)(o:LB)(hd:List Mt):corners ns {g with out:=o,told:=g.told.mul (Mt.sym c),had:=hd}=Y (l.map (fC (Mt.sym c))):=by
 unfold Rf.corners at*;obtain⟨b,a,rfl⟩:=p5.1 d;have:bare ns {g with out:=o,told:=g.told.mul (Mt.sym c),had:=hd}=Y b:=a;rw[this];simp only[p6,r5];congr 2;funext v;exact aKw _ _ v
theorem aIe:∀(l:NU) (k r:Nat),l[k]?=Y r->(bump l k)[k]?=Y (r+1)
 | [],_,_,h=>by simp at h
 |x::l,0,r,h=>by simp at h;subst h;simp[bump]
 |x::l,k+1,r,h=>by simp[bump];exact aIe l k r (by simpa using h)
variable {n:Nd}{P v:V}
theorem aGT (a:n.t=[P,v]):bare ns n=(ends ns n 0).map λe=>[hZ ⟨P.1,v.1,P.2,v.2⟩ e.1,hZ ⟨P.1,v.1,P.2,v.2⟩ e.2]:=by
 unfold Rf.bare;rw[a]
theorem Nv {y z:V}(a:n.t=[P,v,y,z]):bare ns n=(ends ns n 0).bind λe=>(if n.args.length=2 then ends ns n 1 else Y ((1,0),(0,1))).map λr=>[bR [P,v,y,z] e.1 r.1,bR [P,v,y,z] e.1 r.2,bR [P,v,y,z] e.2 r.1,bR [P,v,y,z] e.2 r.2]:=by
 unfold Rf.bare;rw[a]
theorem aGS (a:n.t=[]):bare ns n=Y [hZ n.part (1,0),hZ n.part (0,1)]:=by
 unfold Rf.bare;rw[a]
variable {a r:Nat}{x:Nd}{c:Int}
theorem aFM {w:Nat}{e:V×V}(b:ends ns n w=Y e)(h:n.args[w]?=Y a)(i:ns[a]?=Y x)(f:n.read[w]?=Y r)(hc:x.out[r]?=Y c)(d:HC x):
  ends ns {n with read:=bump n.read w} w=Y (iN e.1 e.2 (Mt.sym c),iO e.1 e.2 (Mt.sym c)):=by
 unfold Rf.ends at*;rw[h]at b ⊢;simp only[j8,i,f]at b ⊢;obtain⟨m,g,rfl⟩:=p5.1 b;rw[(aIe n.read w r f)];simp only[j8,d.step r c m hc g,p6];rw[Gj,Te]
theorem aN1:∀(l:NU) (k j:Nat),j≠k->(bump l k)[j]?=l[j]?
 | [],_,_,_=>by simp[bump]
 |x::l,0,0,h=>absurd rfl h
 |x::l,0,j+1,_=>by simp[bump]
 |x::l,k+1,0,_=>by simp[bump]
 |x::l,k+1,j+1,h=>by simp[bump];exact aN1 l k j O
theorem aGu {w k:Nat}(h:w≠k):ends ns {n with read:=bump n.read k} w=ends ns n w:=by
 unfold Rf.ends;rw[aN1 _ _ _ h]
theorem aJJ (h:g.t=[P,v])(k:corners ns g=Y l)(j:g.args[0]?=Y a)(o:ns[a]?=Y x)(m:g.read[0]?=Y r)(hc:x.out[r]?=Y c)(d:HC x):
  ∃p q,l=[p,q]/\corners ns {g with read:=bump g.read 0}=Y [iN p q (Mt.sym c),iO p q (Mt.sym c)]:=by
 unfold Rf.corners at*;obtain⟨b,f,rfl⟩:=p5.1 k;rw[aGT h]at f;obtain⟨e,i,rfl⟩:=p5.1 f;refine⟨_,_,rfl,?_⟩;rw[aGT (n:={g with read:=bump g.read 0}) h,aFM i j o m hc d];simp only[p6,r7,r8];rw[Oq,Ot,aVg,aVi]
theorem aIk {y z:V}(i:g.t=[P,v,y,z])(m:corners ns g=Y l)(k:g.args[0]?=Y a)(w:ns[a]?=Y x)(o:g.read[0]?=Y r)(hc:x.out[r]?=Y c)(f:HC x):
  ∃p q s t,l=[p,q,s,t]/\corners ns {g with read:=bump g.read 0}=Y [iN p s (Mt.sym c),iN q t (Mt.sym c),iO p s (Mt.sym c),iO q t (Mt.sym c)]:=by
 unfold Rf.corners at*;obtain⟨b,h,rfl⟩:=p5.1 m;rw[Nv i]at h;have⟨e,h2,h3⟩:=o9.1 h;obtain⟨d,j,rfl⟩:=p5.1 h3;refine⟨_,_,_,_,rfl,?_⟩;rw[Nv (n:={g with read:=bump g.read 0}) i,aFM h2 k w o hc f,aGu E3];simp only[j8];rw[j];simp only[p6,r7,r8];rw[aJd,aJd,aJe,aJe,Oq,Oq,Ot,Ot]
theorem aG6 {y z:V}(j:g.t=[P,v,y,z])(f:g.args.length=2)(o:corners ns g=Y l)(m:g.args[1]?=Y a)(A:ns[a]?=Y x)(w:g.read[1]?=Y r)(hc:x.out[r]?=Y c)(h:HC x):
  ∃p q s t,l=[p,q,s,t]/\corners ns {g with read:=bump g.read 1}=Y [iN p q (Mt.sym c),iO p q (Mt.sym c),iN s t (Mt.sym c),iO s t (Mt.sym c)]:=by
 unfold Rf.corners at*;obtain⟨b,i,rfl⟩:=p5.1 o;rw[Nv j,if_pos f]at i;have⟨e,h2,h3⟩:=o9.1 i;obtain⟨d,k,rfl⟩:=p5.1 h3;refine⟨_,_,_,_,rfl,?_⟩;rw[Nv (n:={g with read:=bump g.read 1}) j,if_pos f,aGu E3,h2];simp only[j8];rw[aFM k m A w hc h];simp only[p6,r7,r8];rw[aJf,aJf,aJg,aJg,Oq,Oq,Ot,Ot]
theorem aIo (b:g.t=[])(a:corners ns g=Y l)(m:Mt)(k:Nat):∃p q,l=[p,q]/\corners ns {g with part:=g.part.mul m,k:=k}=Y [iN p q m,iO p q m]:=by
 unfold Rf.corners at*;rw[aGS b]at a;simp at a;subst a;refine⟨_,_,rfl,?_⟩;rw[aGS (n:={g with part:=g.part.mul m,k:=k}) b];simp only[p6,r7,r8];rw[Gj,Te,Oq,Ot]
end Pg
namespace Ab
variable {t:Int}{x:LB}
theorem Ip {z:Int}(h:∀y∈x,y=0\/(0<=t/\t<=(tz y:Int))):∀y∈z::x,y=0\/(0<=cR t z/\cR t z<=(tz y:Int)):=by
 intro y c
 have b:cR t z=(if z=0 then t else if t<0\/(tz z:Int)<t then(tz z:Int)else t):=by
  unfold cR
  by_cases a:z=0
  .rw[jQ a,if_pos a];rfl
  .have:(Nm.cmp z 0==0)=J:=by
    rcases Int.lt_or_gt_of_ne a with g|g
    .rw[iQ g];decide
    .rw[gW g];decide
   grind
 grind
variable {n:Int}
theorem aMF {w:Nat}(h:(2:Int)^w ∣ n):n=2^w*Nm.half n w:=by
 have e:=Int.mul_ediv_cancel' (Int.dvd_natAbs.2 h);unfold Nm.half;grind
theorem aRA {b:Int}(h:b=0\/(0<=t/\t<=(tz b:Int))):b=(if t<1 then 1 else 2^t.toNat)*hv t b:=by
 unfold hv
 by_cases a:t<1
 .grind
 .rw[if_neg a,decide_eq_false a,cond_false];unfold qG;rw[decide_eq_false a,cond_false];refine aMF ?_
  rcases h with rfl|⟨c,d⟩
  .simp
  .refine Int.dvd_trans ⟨2^(tz b-t.toNat),?_⟩ (Nm.aTE b);rw[<-Int.pow_add];congr 1;omega
theorem aOM (a c p1 d p2 e b f:Int):∃s:Int,0<s/\[(a,c),(p1,d),(p2,e),(b,f)]=[(hv (tw8 a c p1 d p2 e b f) a,hv (tw8 a c p1 d p2 e b f) c),(hv (tw8 a c p1 d p2 e b f) p1,hv (tw8 a c p1 d p2 e b f) d),(hv (tw8 a c p1 d p2 e b f) p2,hv (tw8 a c p1 d p2 e b f) e),(hv (tw8 a c p1 d p2 e b f) b,hv (tw8 a c p1 d p2 e b f) f)].map (Pg.sc s):=by
 have i:∀y∈([]:LB),y=0\/(0<=(-1:Int)/\(-1:Int)<=(tz y:Int)):=λy g=>by cases g
 have h:=Ip (z:=f) (Ip (z:=b) (Ip (z:=e) (Ip (z:=p2) (Ip (z:=d) (Ip (z:=p1) (Ip (z:=c) (Ip (z:=a) i)))))));have j:cR (cR (cR (cR (cR (cR (cR (cR (-1) a) c) p1) d) p2) e) b) f=tw8 a c p1 d p2 e b f:=rfl;rw[j]at h;generalize tw8 a c p1 d p2 e b f=t at*;refine⟨if t<1 then 1 else 2^t.toNat,by split;decide;exact Nm.nF E3 _,?_⟩
 have k:=λy g=>aRA (h y g)
 simp only[r7,r8,Pg.sc];rw[<-k a E4,<-k c E4,<-k p1 E4,<-k d E4,<-k p2 E4,<-k e E4,<-k b E4,<-k f E4]
def code (c:Int):Int:=if c=-1 then 5 else if c=0 then 6 else if c=1 then 7 else if c=43 then 1 else if c=45 then 2 else if c=111 then 3 else 4
theorem Xw (c:Int):gX (code c)=(Mt.sym c).a/\gY (code c)=(Mt.sym c).b/\gZ (code c)=(Mt.sym c).c/\hX (code c)=(Mt.sym c).d:=by
 unfold code Mt.sym;split
 .decide
 .split
  .decide
  .split
   .decide
   .split
    .decide
    .split
     .exact⟨rfl,rfl,rfl,rfl⟩
     .split<;>exact⟨rfl,rfl,rfl,rfl⟩
theorem aG2 (c:Int):1<=code c/\code c<=7:=by unfold code;split<;>(try decide);split<;>(try decide);split<;>(try decide);split<;>(try decide);split<;>(try decide);split<;>decide
theorem aOt (e g p1 i p2 j f k a b c d:Int):mB e g p1 i p2 j f k a b c d=Nw.fits ([(e,g),(p1,i),(p2,j),(f,k)].map (Rf.fC ⟨a,b,c,d⟩)):=by
 have k1:∀x y:Int,decide (Nm.cmp x y<0)=decide (x-y<0):=λx y=>by
  rcases A6 x y with h|h|h
  .rw[iQ h,decide_eq_true E3,decide_eq_true O]
  .rw[jQ h,decide_eq_false E3,decide_eq_false O]
  .rw[gW h,decide_eq_false E3,decide_eq_false O]
 have k2:∀x y:Int,decide (Nm.cmp x y>0)=decide (0<x-y):=λx y=>by
  rcases A6 x y with h|h|h
  .grind
  .rw[jQ h,decide_eq_false E3,decide_eq_false O]
  .rw[gW h,decide_eq_true E3,decide_eq_true O]
 have e1:∀p q:Int,(Rf.fC ⟨a,b,c,d⟩ (p,q))=(d*p-b*q,a*q-c*p):=λp q=>by
  unfold Rf.fC Mt.wW Mt.wX;grind
 unfold mB nC Nw.fits Nw.mV Nw.lH cl cp;simp only[r7,List.any_cons,k1,k2,e1];rw[Bool.beq_comm];rfl
noncomputable abbrev tN:=tC7
theorem lT:cK Z tN:=aXo
def Tv (d:Bool)(c mt e f pl:Int)(lp rp a b gv:AC):List AC:=.sbool d::cF I 0 8++[a,.sint .i64 mt,lp,.sint .i64 e,rp,.sint .i64 f,gv,.sint .i64 c,b,.sint .i64 pl]
def Bk (i:Nat):Option Bool->List (Nat×bH)
 |none=>[]
 |some s=>[(i,ext (.sbool s::iE 26) 234)]
def Di (i:Nat):Option Bool->AC
 |none=>.lit (.pointer X)
 |some _=>.ptr i 0
def gvC:Option Nat->AC
 |none=>.lit (.slice X 0 0)
 |some len=>.dsl 3 0 len 1
def gvB:Option Nat->List (Nat×bH)
 |none=>[]
 |some _=>[(3,ext [] 105)]
def xC (i:Nat):Bool->AC
 |false=>.lit (.pointer X)
 |true=>.ptr i 0
def xB (i:Nat)(ty:TypeId):Bool->List (Nat×bH)
 |false=>[]
 |true=>[(i,ext [] ty)]
def Us (h:LB)(b:Bool)(l r:Option Bool)(g:XW)(c n:Bool)(a mt d f pl:Int)(e:Nat):AS:=
 ⟨.val (.one (.ptr 0 0))::q8 e .fB,(0,ext (Tv b a mt d f pl (Di 1 l) (Di 2 r) (xC 4 c) (xC 5 n) (gvC g)) 234)::(Bk 1 l++(Bk 2 r++(gvB g++(xB 4 276 c++xB 5 338 n)))),6,h.map λz=>(z,10),[]⟩
def Fz:Option Bool->Int->Int->Int
 |none,_,k=>k
 |some s,r,k=>bif s then(bif r==0 then 0 else k)else k
def fitS (a c p1 d p2 e b f s:Int):Bool:=mB a c p1 d p2 e b f (gX s) (gY s) (gZ s) (hX s)
def Uv (a c p1 d p2 e b f:Int):Int:=bif fitS a c p1 d p2 e b f 1 then 1 else bif fitS a c p1 d p2 e b f 2 then 2 else bif fitS a c p1 d p2 e b f 3 then 3 else bif fitS a c p1 d p2 e b f 4 then 4 else 0
def Ta (a c p1 d p2 e b f:Int):Int:=bif fitS a c p1 d p2 e b f 5 then 5 else bif fitS a c p1 d p2 e b f 7 then 7 else bif fitS a c p1 d p2 e b f 6 then 6 else 0
def vV (a:Bool)(g:XW)(x y:Int):Int:=
 match g with
 |none=>bif a then x else y
 |some len=>bif a then(bif (len:Int)==0 then x else y)else y
def xO (b d p1 e p2 f c h:Int)(i:Bool)(l r:Option Bool)(g:XW)(a j k:Int):Int:=
 bif a != 0 then 0 else Fz l j (Fz r k (vV i g (Uv b d p1 e p2 f c h) (Ta b d p1 e p2 f c h)))
noncomputable def bN:AW:=λf=>bif f==245 then Y f245 else bif f==246 then Y f246 else X
theorem aWc:bS Z bN:=by
 intro f c h;unfold bN at h
 cases a:f==245 with
 |true=>
  rw[a]at h;cases h
  have:f=245:=by simpa using a
  subst this;exact⟨(aZ func245 rfl rfl).at',(aZ func245 rfl rfl).en⟩
 |false=>
  rw[a]at h
  cases b:f==246 with
  |true=>
   rw[b]at h;cases h
   have:f=246:=by simpa using b
   subst this;exact⟨(aZ func246 rfl rfl).at',(aZ func246 rfl rfl).en⟩
  |false=>rw[b]at h;cases h
noncomputable def Ha (f:LB)(b:Bool)(l r:Option Bool)(g:XW)(c n:Bool)(a mt d e pl:Int):Option Tr:=run Z (aE tN) bN (aL Z (aE tN)) (λ_=>J) 2000 [.code (aG f237),.top f237] (Us f b l r g c n a mt d e pl 39)
theorem aPg (e h p1 j p2 k f m:Int)(b:Bool)(l r:Option Bool)(g:XW)(c n:Bool)(a mt d o pl:Int):((Ha [e,h,p1,j,p2,k,f,m] b l r g c n a mt d o pl).bind outcome).bind (lK I)=Y ([],.one (.i .i64 (xO e h p1 j p2 k f m b l r g a d o)),0):=by
 cases l with
 |none=>
  cases r with
  |none=>cases g<;>kernel_rfl
  |some p=>cases g<;>kernel_rfl
 |some q=>
  cases r with
  |none=>cases g<;>kernel_rfl
  |some p=>cases g<;>kernel_rfl
structure NodeAt (w:World) (k:Nat) (zs:LB) (hs:Bool) (uns mt lr rr pl:Int) (lp rp gv cv nv:Value):Prop where
 ex:∃xs:PH,w.heap[k]?=Y (.cells (.bool hs::xs++[cv,.int .i64 mt,lp,.int .i64 lr,rp,.int .i64 rr,gv,.int .i64 uns,nv,.int .i64 pl]).toArray 234 (0,0))/\aP I w zs xs
def iF (w:World):Option (Nat×Bool)->Value->Prop
 |none,v=>v=.pointer X
 |some (k,s),v=>v=.pointer (Y ⟨k,0,X⟩)/\∃a:PH,w.heap[k]?=Y (.cells (.bool s::a).toArray 234 (0,0))/\a.length=26/\∀y∈a,One y
def GivAt (w:World):Option (Nat×Nat)->Value->Prop
 |none,v=>v=.slice X 0 0
 |some (k,len),v=>∃a,v=.slice (Y ⟨k,0,X⟩) len a/\∃cs:PH,w.heap[k]?=Y (.cells cs.toArray 105 (0,0))
def ExtAt (w:World)(ty:TypeId):Option Nat->Value->Prop
 |none,v=>v=.pointer X
 |some k,v=>v=.pointer (Y ⟨k,0,X⟩)/\∃cs:PH,w.heap[k]?=Y (.cells cs.toArray ty (0,0))
def Mz (k:Nat)(l r:Option (Nat×Bool))(g:Option (Nat×Nat))(c n:XW):Nat->Option (Nat×Nat)
 |0=>Y (k,0)
 |1=>l.map λx=>(x.1,0)
 |2=>r.map λx=>(x.1,0)
 |3=>g.map λx=>(x.1,0)
 |4=>c.map λx=>(x,0)
 |5=>n.map λx=>(x,0)
 |_=>X
variable {φ:LI}{ν:LV}{v:World}{i:Nat}{l:Option (Nat×Bool)}{z:Value}
theorem aPP (a:φ i=l.map λx=>(x.1,0))(h:iF v l z):relC Z φ ν v (Di i (l.map (·.2))) z:=by
 cases l with
 |none=>exact⟨h,rfl⟩
 |some x=>exact⟨x.1,0,a,h.1⟩
variable {g:Option (Nat×Nat)}
theorem aUr (b:φ 3=g.map λx=>(x.1,0))(h:GivAt v g z):relC Z φ ν v (gvC (g.map (·.2))) z:=by
 cases g with
 |none=>exact⟨h,rfl⟩
 |some x=>obtain⟨a,c,_⟩:=h;exact⟨x.1,a,by rw[b];rfl,c⟩
variable {c:XW}
theorem aOo {ty:TypeId}(a:φ i=c.map λx=>(x,0))(h:ExtAt v ty c z):relC Z φ ν v (xC i c.isSome) z:=by
 cases c with
 |none=>exact⟨h,rfl⟩
 |some x=>exact⟨x,0,a,h.1⟩
theorem qU {b:Nat}{B:bH}:∀{l:List (Nat×bH)},look l b=Y B->(b,B)∈l
 | [],h=>by simp[look]at h
 |(c,D)::l,h=>by
  simp only[look]at h
  cases hc:(c==b)with
  |true=>
   grind
  |false=>
   rw[hc]at h;exact List.mem_cons_of_mem _ (qU h)
variable {b:Nat}{B:bH}
theorem aKJ (h:(b,B)∈Bk i (l.map (·.2))):∃x,l=Y x/\b=i/\B=ext (.sbool x.2::iE 26) 234:=by
 cases l with
 |none=>simp[Bk]at h
 |some x=>simp[Bk]at h;exact⟨x,rfl,h⟩
theorem aUx (h:(b,B)∈gvB (g.map (·.2))):∃x,g=Y x/\b=3/\B=ext [] 105:=by
 cases g with
 |none=>simp[gvB]at h
 |some x=>simp[gvB]at h;exact⟨x,rfl,h⟩
theorem aTH {ty:TypeId}(h:(b,B)∈xB i ty c.isSome):∃x,c=Y x/\b=i/\B=ext [] ty:=by
 cases c with
 |none=>simp[xB]at h
 |some x=>simp[xB]at h;exact⟨x,rfl,h⟩
variable {k:Nat}{m:Bool}{r:Option (Nat×Bool)}{mt pl:Int}{lp rp gv C:Value}
theorem aWR {i:LB}{a:XW}{y:Int}{S:Value}(hn:NodeAt v k i m n mt t y pl lp rp gv C S)(h8:i.length=8)(hb:∀z∈i,Bits 10 z)(N:iF v l lp)(R:iF v r rp)(L:GivAt v g gv)(hc:ExtAt v 276 c C)(P:ExtAt v 338 a S)(nt:Nat):
  RepW Z v (Mz k l r g c a) (Mz k l r g c a) (Us i m (l.map (·.2)) (r.map (·.2)) (g.map (·.2)) c.isSome a.isSome n mt t y pl nt) v:=by
 obtain⟨T,U,h2⟩:=hn.ex
 have F:aD (relC Z (Mz k l r g c a) (i.map λz=>(z,10)) v) (Tv m n mt t y pl (Di 1 (l.map (·.2))) (Di 2 (r.map (·.2))) (xC 4 c.isSome) (xC 5 a.isSome) (gvC (g.map (·.2)))) (.bool m::T++[C,.int .i64 mt,lp,.int .i64 t,rp,.int .i64 y,gv,.int .i64 n,S,.int .i64 pl]):=by
  have hx:aD (relC Z (Mz k l r g c a) (i.map λz=>(z,10)) v) (cF I 0 8) T:=by
   rw[<-h8]
   exact qA i T 0 _ h2 hb λj z hz=>by rw[Nat.zero_add,List.getElem?_map,hz];rfl
  exact aD.append (⟨rfl,hx⟩) ⟨aOo rfl hc,rfl,aPP rfl N,rfl,aPP rfl R,rfl,aUr rfl L,rfl,aOo rfl P,rfl,trivial⟩
 have seg0:∀{p:Nat} {cs:PH} {ty:TypeId} {q:List AC},v.heap[p]?=Y (.cells cs.toArray ty (0,0))->aD (relC Z (Mz k l r g c a) (i.map λz=>(z,10)) v) q cs->yJ Z (Mz k l r g c a) (i.map λz=>(z,10)) v p 0 ty q:=λM ha=>⟨[],_,[],by simpa using M,rfl,ha⟩
 have f:∀{p:Nat} {cs:PH} {ty:TypeId},v.heap[p]?=Y (.cells cs.toArray ty (0,0))->yJ Z (Mz k l r g c a) (i.map λz=>(z,10)) v p 0 ty []:=λ{p cs ty} M=>⟨[],[],cs,M,rfl,trivial⟩
 refine qW rfl ?_ ?_ ?_
 .intro b B hB;have s:=qU hB;simp only[Us,p8,List.mem_append]at s
  rcases s with⟨rfl,rfl⟩|h|h|h|h|h
  .exact⟨rfl,rfl,rfl,k,0,rfl,seg0 U F⟩
  .obtain⟨x,rfl,rfl,rfl⟩:=aKJ h;obtain⟨_,u,d,A,D⟩:=N;exact⟨rfl,rfl,rfl,x.1,0,rfl,seg0 d ⟨rfl,Es 26 u A D⟩⟩
  .obtain⟨x,rfl,rfl,rfl⟩:=aKJ h;obtain⟨_,u,d,A,D⟩:=R;exact⟨rfl,rfl,rfl,x.1,0,rfl,seg0 d ⟨rfl,Es 26 u A D⟩⟩
  .obtain⟨x,rfl,rfl,rfl⟩:=aUx h;obtain⟨W,_,cs,d⟩:=L;exact⟨rfl,rfl,rfl,x.1,0,rfl,f d⟩
  .obtain⟨x,rfl,rfl,rfl⟩:=aTH h;obtain⟨_,cs,d⟩:=hc;exact⟨rfl,rfl,rfl,x,0,rfl,f d⟩
  .obtain⟨x,rfl,rfl,rfl⟩:=aTH h;obtain⟨_,cs,d⟩:=P;exact⟨rfl,rfl,rfl,x,0,rfl,f d⟩
 .intro b o;have:6<=b:=o
  match b,this with
  |b+6,_=>rfl
 .intro b p o' o
  match b,o with
  |0,e=>cases e;exact cZ U
  |1,e=>
   cases l with
   |none=>cases e
   |some x=>cases e;obtain⟨_,u,d,_⟩:=N;exact cZ d
  |2,e=>
   cases r with
   |none=>cases e
   |some x=>cases e;obtain⟨_,u,d,_⟩:=R;exact cZ d
  |3,e=>
   cases g with
   |none=>cases e
   |some x=>cases e;obtain⟨_,_,cs,d⟩:=L;exact cZ d
  |4,e=>
   cases c with
   |none=>cases e
   |some x=>cases e;obtain⟨_,cs,d⟩:=hc;exact cZ d
  |5,e=>
   cases a with
   |none=>cases e
   |some x=>cases e;obtain⟨_,cs,d⟩:=P;exact cZ d
  |_+6,e=>cases e
theorem aLk {B:Spec}{h:AW}{W:FuncId}{i:Func}(F:Fn W i)(A:∀w0 ψ,SpecOk Z w0 ψ B)(q:bS Z h){D:XW}{N:Int}{L:Value}(hn:NodeAt v k x m n mt t N pl lp rp gv C L)(h8:x.length=8)(hb:∀z∈x,Bits 10 z)(hl:iF v l lp)(hr:iF v r rp)(hg:GivAt v g gv)(hc:ExtAt v 276 c C)(hm:ExtAt v 338 D L)
  {p:Nat} (y:i.ntmps-1=p) {M:List Prop} {out:RG} {a:Nat} (ht:((run Z B h (aL Z B) (λ_=>J) b [.code (aG i),.top i] (Us x m (l.map (·.2)) (r.map (·.2)) (g.map (·.2)) c.isSome D.isSome n mt t N pl p)).bind outcome).bind (lK I)=Y (M,out,a)) (hp:Holds M):
  Calls prog W #[.pointer (Y ⟨k,0,X⟩)] v λe j=>∃d,e=.returned d/\RRV Z j (xS I a out) d/\Below v.heap.size v j:=by
 obtain⟨o,P,R⟩:=aK ht;obtain⟨tr,S,T⟩:=aK P;refine pZ (vs:=[.one (.ptr 0 0)]) (args:=[.pointer (Y ⟨k,0,X⟩)]) F (A _ _) q (by subst y;rfl) ⟨⟨k,0,rfl,rfl⟩,trivial⟩ (aWR hn h8 hb hl hr hg hc hm _) S _ (yM T (Fq R hp (zq6 _))) ?_;rintro r0 s φ d j⟨u,r',U,h8⟩ hrel hw;exact⟨d,rfl,h8 j d (Bh U hrel),RepF.below hw u⟩
variable {b:Int}
theorem aMP {p1 h p2 i f j:Int}{nn:XW}{d p q:Int}{t:Value}(B:NodeAt v k [n,b,p1,h,p2,i,f,j] m d mt p q pl lp rp gv C t)(s:∀z∈[n,b,p1,h,p2,i,f,j],Bits 10 z)(y:iF v l lp)(D:iF v r rp)(x:GivAt v g gv)(hc:ExtAt v 276 c C)(A:ExtAt v 338 nn t):
  Calls prog 237 #[.pointer (Y ⟨k,0,X⟩)] v λe u=>e=.returned (.int .i64 (xO n b p1 h p2 i f j m (l.map (·.2)) (r.map (·.2)) (g.map (·.2)) d p q))/\Below v.heap.size v u:=by
 have W:=aPg n b p1 h p2 i f j m (l.map (·.2)) (r.map (·.2)) (g.map (·.2)) c.isSome nn.isSome d mt p q pl
 have o:f237.ntmps-1=39:=E0
 refine(aLk (aZ func237 rfl rfl) (λ_ _=>dX lT) aWc B rfl s y D x hc A o W fX).mono ?_;rintro e u⟨a,rfl,hv,s⟩;rw[hv.2]
 simp_all
def eA:Option Bool->Int->Bool
 |none,_=>J
 |some s,r=>s&&(r==0)
theorem aNO (l:Option Bool)(r k:Int):Fz l r k=if eA l r then 0 else k:=by
 cases l with
 |none=>rfl
 |some s=>
  unfold Fz eA;grind
theorem aUl (a d p1 e p2 f b g c:Int):fitS a d p1 e p2 f b g (code c)=Nw.fits ([(a,d),(p1,e),(p2,f),(b,g)].map (Rf.fC (Mt.sym c))):=by
 obtain⟨h,i,j,k⟩:=Xw c;unfold fitS;rw[h,i,j,k,aOt]
def eX:Option Int->Int
 |none=>0
 |some c=>code c
variable {T:XW}
theorem aOq {x:Int}{len:Nat}(a:T.getD 0=len):vV m T x b=if m=I/\len=0 then x else b:=by
 unfold vV;grind
theorem sV {ns:List Rf.Nd}{a:Rf.Nd}{d:List Rf.V}{p1 i p2 j f k:Int}{l r:Option Bool}{y z:Int}{o:Option Int}(hc:Rf.corners ns a=Y d)(F:Pg.fJ d [(n,b),(p1,i),(p2,j),(f,k)])(C:a.pos=!m)(L:T.getD 0=a.out.length)(s:(eA l y||eA r z)=Rf.waits ns a.args a.read)(e:Rf.next ns a=Y o):
  xO n b p1 i p2 j f k m l r T 0 y z=eX o:=by
 unfold xO;rw[show((0:Int) != 0)=J from rfl,cond_false,aNO,aNO];unfold Rf.next at e
 cases A:eA l y with
 |true=>
  rw[A,Bool.true_or]at s;rw[<-s]at e;simp at e;subst e;rfl
 |false=>
  rw[A,Bool.false_or]at s
  cases B:eA r z with
  |true=>
   rw[B]at s;rw[<-s]at e;simp at e;subst e;rfl
  |false=>
   rw[B]at s;rw[<-s]at e;simp only[Bool.false_eq_true,if_false,hc,p6,Option.some.injEq]at e ⊢;rw[aOq L]
   have p:∀c,Rf.can d c=fitS n b p1 i p2 j f k (code c):=λc=>by rw[F.can,aUl]
   have w:code 43=1:=rfl;have x:code 45=2:=rfl;have t:code 111=3:=rfl;have u:code 119=4:=rfl;have D:code (-1)=5:=rfl;have e1:code 1=7:=rfl;have e0:code 0=6:=rfl;have q:a.out.length=0↔a.out=[]:=List.length_eq_zero_iff;subst e;unfold Rf.tries
   by_cases v:m=I/\a.out.length=0
   .rw[if_pos v,if_pos ⟨by rw[C,v.1];rfl,q.1 v.2⟩];simp only[u5,p,w,x,t,u];unfold Uv
    cases fitS n b p1 i p2 j f k 1<;>simp<;>try rfl
    cases fitS n b p1 i p2 j f k 2<;>simp<;>try rfl
    cases fitS n b p1 i p2 j f k 3<;>simp<;>try rfl
    cases fitS n b p1 i p2 j f k 4<;>rfl
   .rw[if_neg v,if_neg (λh=>v ⟨by have:=h.1;rw[C]at this;simpa using this,q.2 h.2⟩)];simp only[u5,p,D,e1,e0];unfold Ta
    cases fitS n b p1 i p2 j f k 5<;>simp<;>try rfl
    cases fitS n b p1 i p2 j f k 7<;>simp<;>try rfl
    cases fitS n b p1 i p2 j f k 6<;>rfl
end Ab
theorem aS8 (w:World)(k o:Nat)(p:Option Addr)(h:w.cell? ⟨k,o+25,X⟩=Y (.pointer p)):Calls prog 260 #[.pointer (Y ⟨k,o,X⟩)] w λe b=>e=.returned (.int .i64 (if p.isSome then 8 else 1))/\b=w:=by
 cases p with
 |none=>
  go_in
  go_wp2_with fail
  go_ret
  simp
 |some a=>
  go_in
  go_wp2_with fail
  go_ret
  exact⟨rfl,rfl⟩
namespace Ab
def zE (s:Bool)(r:Int):Int:=bif s then(bif decide (r>0)then Wr (r-1)else r)else r
def sDg (s:Bool)(r:Int):AS:=⟨.val (.agg [.ptr 0 0,.sint .i64 r])::q8 22 .fB,[(0,ext [.sbool s] 234)],1,[],[]⟩
def sDn (r:Int):AS:=⟨.val (.agg [.lit (.pointer X),.sint .i64 r])::q8 22 .fB,[],0,[],[]⟩
theorem aUf (s:Bool)(r:Int):((run Z (aE []) (λ_=>X) (aL Z (aE [])) (λ_=>J) 300 [.code (aG f261),.top f261] (sDg s r)).bind outcome).bind (lK I)=Y ([],.one (.i .i64 (zE s r)),0):=E0
theorem aUi (r:Int):((run Z (aE []) (λ_=>X) (aL Z (aE [])) (λ_=>J) 300 [.code (aG f261),.top f261] (sDn r)).bind outcome).bind (lK I)=Y ([],.one (.i .i64 r),0):=E0
variable {v:World}
theorem aWr {k o:Nat}{s:Bool}{a d:PH}(r:Int)(q:v.heap[k]?=Y (.cells (a++[Value.bool s]++d).toArray 234 (0,0)))(t:a.length=o):Calls prog 261 #[.agg #[.pointer (Y ⟨k,o,X⟩),.int .i64 r]] v λe f=>e=.returned (.int .i64 (zE s r))/\Below v.heap.size v f:=by
 obtain⟨x,g,h⟩:=aK (aUf s r);obtain⟨A,i,j⟩:=aK g;refine pZ (vs:=[.agg [.ptr 0 0,.sint .i64 r]]) (args:=[.agg #[.pointer (Y ⟨k,o,X⟩),.int .i64 r]]) (φ:=λb=>bif b==0 then Y (k,o)else X) (aZ func261 rfl rfl) (dX (l:=[]) trivial) bO rfl ⟨⟨[.pointer (Y ⟨k,o,X⟩),.int .i64 r],rfl,⟨k,o,rfl,rfl⟩,rfl,trivial⟩,trivial⟩ (qW rfl ?_ ?_ ?_) i _ (yM j (Fq h fX (zq6 _))) ?_
 .intro b B n;have:=qU n;simp[sDg]at this;obtain⟨rfl,rfl⟩:=this;exact⟨rfl,rfl,rfl,k,o,rfl,a,[.bool s],d,q,t,rfl,trivial⟩
 .intro b p;have:1<=b:=p;grind
 .grind
 .rintro z st φ c f⟨hc,y,m,h8⟩ hrel u;rw[((h8 f c (Bh m hrel)).2)];exact⟨rfl,RepF.below u hc⟩
theorem aWu (w:World)(r:Int):Calls prog 261 #[.agg #[.pointer X,.int .i64 r]] w λe a=>e=.returned (.int .i64 r)/\Below w.heap.size w a:=by
 obtain⟨m,c,d⟩:=aK (aUi r);obtain⟨q,f,g⟩:=aK c;refine pZ (vs:=[.agg [.lit (.pointer X),.sint .i64 r]]) (args:=[.agg #[.pointer X,.int .i64 r]]) (φ:=λ_=>X) (aZ func261 rfl rfl) (dX (l:=[]) trivial) bO rfl ⟨⟨[.pointer X,.int .i64 r],rfl,⟨rfl,rfl⟩,rfl,trivial⟩,trivial⟩ (qW rfl (λb B i=>by simp[sDn,look]at i) (λ_ _=>rfl) (λb k o e=>by cases e)) f _ (yM g (Fq d fX (zq6 _))) ?_;rintro p st φ v a⟨hc,n,h,h8⟩ hrel j;rw[((h8 a v (Bh h hrel)).2)];exact⟨rfl,RepF.below j hc⟩
def Gs:AC->Option Int
 |.int .i64 n=>Y n
 |.sint .i64 n=>Y n
 |_=>X
def lwO:Option AC->Option Int
 |some (.lit (.pointer X))=>Y 1
 |some (.ptr _ _)=>Y 8
 |_=>X
def spD:Spec:=λf _ ν _ a d=>
 bif f==261 then (match d with
  | [.agg [.lit (.pointer X),c]]=>(Gs c).map λr=>([],.val (.one (.sint .i64 r)),[],X)
  | [.agg [.ptr b 0,c]]=>(Gs c).bind λr=>(a b).bind λB=>bif B.ty==234 then(match B.cs with|.sbool s::_=>Y ([],.val (.one (.sint .i64 (zE s r))),[],X)|_=>X)else X
  |_=>X)
 else bif f==260 then (match d with
  | [.one (.ptr b 0)]=>(a b).bind λB=>bif B.ty==234 then(lwO (B.cs[25]?)).map λn=>([],.val (.one (.int .i64 n)),[],X)else X
  |_=>X)
 else X
theorem aOP {φ:LI}{ν:LV}{c:AC}{r:Int}{x:Value}(h:Gs c=Y r)(a:relC Z φ ν v c x):x=.int .i64 r:=by
 unfold Gs at h;split at h
 .cases h;exact a
 .cases h;exact a
 .cases h
theorem aXi (w0:World)(ψ:LI):SpecOk Z w0 ψ spD:=by
 intro f d ν id bx vs av r p aq h;unfold spD at h
 cases W:f==261 with
 |true=>
  have:f=261:=by simpa using W
  subst this;rw[W]at h;simp at h;refine⟨(aZ func261 rfl rfl).en,?_⟩;split at h
  .obtain⟨n,e1,e2⟩:=bI h;cases e2;intro _ l t φ w m _ _ _ g a;obtain⟨x,rfl,R,rfl,hy⟩:=So a
   match R,hy with
   | [u,v],⟨D,h3,_⟩=>
    have hu:=D.1;have hv:=aOP e1 h3;subst hu hv;refine(aWu w n).mono ?_;rintro e w'⟨rfl,hb⟩;exact⟨_,rfl,hb,rfl⟩
   | [_],⟨_,h⟩=>exact h.elim
   |_::_::_::_,⟨_,_,h⟩=>exact h.elim
  .rename_i b c;obtain⟨n,e1,e2⟩:=aK h;obtain⟨B,S,j⟩:=aK e2
   cases A:(B.ty==234)with
   |false=>rw[A]at j;cases j
   |true=>
    rw[A]at j;simp at j;split at j
    .rename_i s rest ad;cases j;intro _ l t φ w m _ _ _ g a;obtain⟨k,o,ai,N,L,T,z,U,P⟩:=g b B S;rw[ad]at P;obtain⟨x,rfl,R,rfl,hy⟩:=So a
     match R,hy,N,P,z with
     | [u,v],⟨⟨k',o',M,q2⟩,h3,_⟩,y::N,⟨k1,_⟩,z=>
      rw[T]at M;cases M;have hv:=aOP e1 h3;subst hv k1 q2
      have ae:B.ty=234:=by simpa using A
      rw[ae]at z;refine(aWr n (by simpa using z) U).mono ?_;rintro e w'⟨rfl,hb⟩;exact⟨_,rfl,hb,rfl⟩
     | [_],⟨_,h⟩,_,_,_=>exact h.elim
     |_::_::_::_,⟨_,_,h⟩,_,_,_=>exact h.elim
    .cases j
  .cases h
 |false=>
  rw[W]at h;simp at h
  cases D:f==260 with
  |false=>rw[D]at h;cases h
  |true=>
   have:f=260:=by simpa using D
   subst this;rw[D]at h;simp at h;refine⟨(aZ func260 rfl rfl).en,?_⟩;split at h
   .rename_i b;obtain⟨B,S,j⟩:=aK h
    cases A:(B.ty==234)with
    |false=>rw[A]at j;cases j
    |true=>
     rw[A]at j;simp only[cond_true]at j
     have F:∀(φ:LI) (l:LV) (w:World) (m:PH) (c:AC),B.cs[25]?=Y c->yE Z φ l w bx->aD (dJ Z φ l w) [.one (.ptr b 0)] m->∃k o x,m=[.pointer (Y ⟨k,o,X⟩)]/\relC Z φ l w c x/\w.cell? ⟨k,o+25,X⟩=Y x:=by
      intro φ l w m c hc g a;obtain⟨k,o,ai,R,L,T,z,U,P⟩:=g b B S;obtain⟨x,rfl,k',o',M,q2⟩:=So a;rw[T]at M;cases M;obtain⟨y,ag,ah⟩:=P.at hc;refine⟨k,o,y,by rw[q2];rfl,ah,?_⟩;rw[Oj z,<-U];exact aP7 ag
     obtain⟨nn,C,e6⟩:=bI j;cases e6;unfold lwO at C;split at C
     .rename_i hc;cases C;intro _ l t φ w m _ _ _ g a;obtain⟨k,o,x,rfl,q,i⟩:=F φ l w m _ hc g a;have q:=q.1;subst q;refine(aS8 w k o X i).mono ?_;rintro e w'⟨rfl,rfl⟩;exact⟨_,rfl,Below.refl _ _,rfl⟩
     .rename_i b' al hc;cases C;intro _ l t φ w m _ _ _ g a;obtain⟨k,o,x,rfl,q,i⟩:=F φ l w m _ hc g a;obtain⟨k2,o2,_,q⟩:=q;subst q;refine(aS8 w k o _ i).mono ?_;rintro e w'⟨rfl,rfl⟩;exact⟨_,rfl,Below.refl _ _,rfl⟩
     .cases C
   .cases h
def Ce:List G->Option RG
 | [.ns [a,c,p1,d,p2,e,b,f],.i .i64 t]=>bif decide (t.natAbs<100)then Y (.one (.i .i64 (jV a c p1 d p2 e b f t)))else X
 |_=>X
theorem aVN:bD Z 259 (eF I Ce aS 0 [15,0]):=by
 refine aQs aSM ?_;intro b out h c d;unfold Ce at h;split at h
 .rename_i e g p1 i p2 j f k t
  cases a:decide (t.natAbs<100)with
  |false=>rw[a]at h;cases h
  |true=>
   rw[a]at h;cases h
   have:t.natAbs<100:=by simpa using a
   exact⟨rfl,iR O fX⟩
 .cases h
noncomputable def tR:List (FuncId×TE):=(259,eF I Ce aS 0 [15,0])::tN
theorem aX9:cK Z tR:=⟨aVN,lT⟩
def Vc:Option Bool->Int->Bool->Bool->Bool
 |none,_,_,k=>k
 |some s,r,v,k=>bif s then(bif r==0 then v else k)else k
def dgO:Option Bool->Int->Int
 |none,r=>r
 |some s,r=>zE s r
def rlK (a c p1 d p2 e b f t:Int)(x:Bool):Bool:=bif mB a c p1 d p2 e b f 1 0 0 1 then(bif jV a c p1 d p2 e b f t==1 then I else bif jV a c p1 d p2 e b f t==-1 then J else x)else x
def wgt:Bool->Int
 |false=>1
 |true=>8
def oH (d f p1 g p2 h e i:Int)(l r:Option Bool)(n:Bool)(a c:Int):Bool:=
 match l with
 |none=>J
 |some b=>Vc (Y b) a I (Vc r c J (rlK d f p1 g p2 h e i (wgt n) (decide (dgO (Y b) a<=dgO r c))))
noncomputable def Dl (f:LB)(b:Bool)(l r:Option Bool)(g:XW)(c n:Bool)(a mt d e pl:Int):Option Tr:=run Z (gI spD (aE tR)) bN (aL Z (gI spD (aE tR))) (λ_=>J) 2000 [.code (aG f248),.top f248] (Us f b l r g c n a mt d e pl 45)
theorem aM2 (e h p1 i p2 j f k:Int)(o:Bool)(l r:Option Bool)(g:XW)(c n:Bool)(a mt d m pl:Int):((Dl [e,h,p1,i,p2,j,f,k] o l r g c n a mt d m pl).bind outcome).bind (lK I)=Y ([],.one (.b (oH e h p1 i p2 j f k l r n d m)),0):=by
 cases l with
 |none=>kernel_rfl
 |some p=>
  cases r with
  |none=>cases n<;>cases g<;>cases c<;>kernel_rfl
  |some q=>cases n<;>cases g<;>cases c<;>kernel_rfl
theorem aKh {k:Nat}{n b p1 h p2 i f j:Int}{m:Bool}{l r:Option (Nat×Bool)}{g:Option (Nat×Nat)}{c nn:XW}{d mt p q pl:Int}{lp rp gv C t:Value}(B:NodeAt v k [n,b,p1,h,p2,i,f,j] m d mt p q pl lp rp gv C t)(s:∀z∈[n,b,p1,h,p2,i,f,j],Bits 10 z)(y:iF v l lp)(D:iF v r rp)(x:GivAt v g gv)(hc:ExtAt v 276 c C)(A:ExtAt v 338 nn t):
  Calls prog 248 #[.pointer (Y ⟨k,0,X⟩)] v λe u=>e=.returned (.bool (oH n b p1 h p2 i f j (l.map (·.2)) (r.map (·.2)) nn.isSome p q))/\Below v.heap.size v u:=by
 have W:=aM2 n b p1 h p2 i f j m (l.map (·.2)) (r.map (·.2)) (g.map (·.2)) c.isSome nn.isSome d mt p q pl
 have o:f248.ntmps-1=45:=E0
 refine(aLk (aZ func248 rfl rfl) (λ_ _=>Fp (aXi _ _) (dX aX9)) aWc B rfl s y D x hc A o W fX).mono ?_;rintro e u⟨a,rfl,hv,s⟩;rw[hv.2]
 simp_all
end Ab
end Go.Proofs.YtnlddnbfoehboaaGreatDoor
