import Derived.Test.YteghhlfmcjmnoaaGreatDoorCKn23
import Derived.Test.YteghhlfmcjmnoaaGreatDoorCKn08
import Derived.Test.YteghhlfmcjmnoaaGreatDoorCKn22
import Derived.Test.YteghhlfmcjmnoaaGreatDoorCKn04
import Derived.Test.YteghhlfmcjmnoaaGreatDoorProg
import Derived.Test.YteghhlfmcjmnoaaGreatDoorCKn13
import Derived.Shelf.LaysM
import Derived.Shelf.Strconv.Itoa3
import Derived.Lib.AppendIntMem
import Derived.BigQuiet
import Derived.Deep.RegionHeld3
set_option linter.unusedSimpArgs false
set_option linter.unusedVariables false
set_option maxRecDepth 100000
set_option maxHeartbeats 2000000
namespace Go.Proofs.YteghhlfmcjmnoaaGreatDoor
open Go.RowKit
open Ab
open Rf (Wt fuelF readK symsT)
structure ExAt (w:World) (xb:Nat) (t:Rd.Tr):Prop where
 ex:∃ rb rv,w.heap[xb]?=some (.cells #[rv] 74 (0,0))/\Enc rb w t rv
 wf:Rd.Wf t
 cnt:Rd.cnt t<=40
theorem ExAt.keep {w w':World}{xb:Nat}{t:Rd.Tr}(h:ExAt w xb t)(a:Chg w w' []):ExAt w' xb t:=by
 obtain ⟨b,c,d,e⟩:=h.ex;exact ⟨⟨b,c,a.at d (by simp),Enc.keep (aDK a) e⟩,h.wf,h.cnt⟩
theorem ExAt.ok {w:World}{xb:Nat}{t:Rd.Tr}(h:ExAt w xb t){u:Wt}(hu:planT t=some u):u.Ok:=(aFm t u h.wf (by have:=h.cnt;omega) hu).1
theorem aI3 (w:World)(xb:Nat)(t:Rd.Tr)(k f:Int)(h:ExAt w xb t)(n:¬k<0)(o:¬60<k)(p:¬f<0)(q:¬3000<f):Calls Tryz.prog 37 #[.pointer (some ⟨xb,0,none⟩),.int .i64 k,.int .i64 f] w (Told2 w (planT t)):=by
 obtain ⟨l,rv,b,c⟩:=h.ex;have d:=hid (aU8 t h.wf (by have:=h.cnt;omega) w rv c);have j:w.cell? ⟨xb,0,none⟩=some rv:=aAa b rfl;clear b c h
 go_enter Tryz.func37,Tryz.ntmps37
 go_wp2_with fail
 refine (d.out).mono ?_;rintro e m a;obtain ⟨v,i,rfl,_,_⟩:=a.one;have g:=hid a;clear a
 go_wp2_with fail
 refine bodyPost_ret (v:=.tuple #[v,.int .i64 i]) (by simp [results,Tryz.results37,go_sem]) rfl ?_;exact g.out
def lenOf:Value->Nat
 | .slice _ n _=>n
 | _=>0
section
variable {u:Wt} {c:Nat} {w wr:World} {B nb fb d k r:Nat} {ans:Option (List Int)} {l:Value} {zs:List Int} {g:Option Nat} {own:Nat->Option Own} {s:Rf.St}
end
open Go.RowKit
def smallRel (w:World)(a:List Int)(rv i:Value)(wr:World):Prop:=
 ∃ (k:Nat) (R:Int) (q:List Int),i=.int .i64 ((k:Int)-1)/\k<=a.length/\rv=.int .u64 R/\0<=R/\R<1000000000/\LBlk wr w.heap.size q/\q.length=a.length/\Nm.Dig 4294967296 q/\Below w.heap.size w wr/\
  Nm.val 4294967296 (a.drop k)=Nm.val 4294967296 (q.drop k)*1000000000+R
theorem aKV {x A Q R:Int}(h:A=Q*1000000000+R):x+4294967296*A=((R*4294967296+x)/1000000000+4294967296*Q)*1000000000+(R*4294967296+x)%1000000000:=by
 have:=Int.emod_add_mul_ediv (R*4294967296+x) 1000000000;generalize (R*4294967296+x)/1000000000=d at*;generalize (R*4294967296+x)%1000000000=r at*;subst h;omega
theorem aE3 (w:World)(a:List Int)(v:Value)(u:Lims w a v)(S:a.length<=10000000)(E:Nm.Dig 4294967296 a):
  Calls Tryz.prog 70 #[v,.int .u32 1000000000] w fun e w'=>∃ qv Q,e=.returned (.tuple #[qv,.int .u32 (Nm.val 4294967296 a%1000000000)])/\LimsB w.heap.size w' Q qv/\Nm.Good 4294967296 Q/\Nm.val 4294967296 Q=Nm.val 4294967296 a/1000000000/\Below w.heap.size w w':=by
 obtain ⟨Y,L,rfl,_⟩:=u.shape;have F:=run_make_row' (P:=Tryz.prog) 78 142 (.int .u32 0) 4 Tryz.underlying78 infoU rfl .i64 .i64 a.length (by omega) (by omega);have H:=hid u;have I:=hid E;clear u E
 go_enter Tryz.func70,Tryz.ntmps70
 go_wp2_with fail
 go_loopw [7,8] (fun r i wr=>smallRel w a r i wr) (fun _ i _=>(intOf i+1).toNat)
 case atStart=>exact ⟨a.length,0,List.replicate a.length 0,rfl,Nat.le_refl _,rfl,by omega,by omega,LBlk.made w _,by simp,Nm.Dig.zeros (by decide) _,belowW (Below.refl _ _) (Nat.le_refl _) _,by simp [Nm.val]⟩
 case round=>
  obtain ⟨k,R,q,rfl,hk,rfl,M,N,b,d,f,c,j⟩:=hrel
  cases k with
  | zero=>
   have y:Nm.val 4294967296 a=Nm.val 4294967296 q*1000000000+R:=by simpa using j
   have z:=hid (Nm.aCo (by decide) y M N);have A:=hid (aBU wr q _ 0 (b.lims (by omega)) (by omega));have p:=Nm.aA2 q;have C:=hid (b.used (B:=w.heap.size) (by omega) (Nat.le_refl _));rw [d] at A p C;have s:=hid (Nm.aA8 f);have t:=hid (Nm.aBv 4294967296 q);have l:=hid c;generalize O:(Nm.strip q).length=n at*;clear y O b d f c j
   go_wp2_with fail
   refine (A.out).mono ?_;rintro e w1 ⟨rfl,rfl⟩
   go_wp2_with fail
   refine bodyPost_ret (v:=.tuple #[.slice (some ⟨w.heap.size,0,none⟩) n a.length,.int .u32 R]) (by simp [results,Tryz.results70,go_sem]) rfl ⟨_,Nm.strip q,by rw [z.out.2],C.out,s.out,by rw [t.out];exact z.out.1.symm,l.out⟩
  | succ k=>
   obtain ⟨g,rfl,D⟩:=(H.out.below c).place (by omega);have T:=D k (by omega);have J:=I.out.at' (by decide) k;have U:=b.cell k (by omega);have W:=b.frozen k
   have m:Hid (∀ X,X=R*4294967296+Nm.at' a k->smallRel w a (.int .u64 (X%1000000000)) (.int .i64 ((k:Int)-1)) (wr.setCell ⟨w.heap.size,k,none⟩ (.int .u32 (X/1000000000)))):=by
    rintro X rfl;refine ⟨k,_,q.set k ((R*4294967296+Nm.at' a k)/1000000000),by simp,by omega,rfl,by omega,by omega,b.set _ _,by simpa using d,f.set _ (by omega) (by omega),c.setCell (by simp) _,?_⟩;rw [Nm.aDm 4294967296 a k (by omega),aFx (by omega)];exact aKV j
   clear D b d f c j;generalize Nm.at' a k=x at*;generalize Nm.at' q k=o at*;obtain ⟨a1,a2⟩:=J
   go_wp2_with fail
   go_roundw
   case rel=>
    first
     | exact m.out _ rfl
     | (have h:=m.out _ rfl
        have e:(R*4294967296+x)/1000000000%4294967296=(R*4294967296+x)/1000000000:=Int.emod_eq_of_lt (by omega) (by omega);rw [e]
        exact h)
   case measure=>simp [intOf]
namespace Rd
def dgt (x:Nat):UInt8:=UInt8.ofNat (48+x%10)
def fix:Nat->Nat->List UInt8
 | 0,_=>[]
 | c+1,x=>fix c (x/10)++[dgt x]
theorem aQy:∀ c h lo,0<h->lo<10^c->Lib.decDigits (h*10^c+lo)=Lib.decDigits h++fix c lo:=by
 intro c
 induction c with
 | zero=>intro h lo b a;simp at a;subst a;simp [fix]
 | succ c ih=>
  intro h lo b a;have d:1<=10^c:=Nat.one_le_pow _ _ (by decide);rw [Nat.pow_succ] at a
  have e:h*10^(c+1)+lo=(h*10^c+lo/10)*10+lo%10:=by
   rw [Nat.pow_succ,<-Nat.mul_assoc];omega
  rw [e];have f:1<=h*10^c:=Nat.mul_pos b d
  have g:((h*10^c+lo/10)*10+lo%10)/10=h*10^c+lo/10:=by omega
  have i:((h*10^c+lo/10)*10+lo%10)%10=lo%10:=by omega
  rw [Lib.decDigits,dif_neg (by omega),g,i,ih h (lo/10) b (by omega),fix,dgt,List.append_assoc]
end Rd
def Nm.text (z:Int):List UInt8:=(bif decide (z<0) then [45] else [])++Lib.decDigits z.natAbs
theorem aIv {t:ByteArray}(h:0<t.size):(t.toList==[])=false/\t.toList.isEmpty=false:=by
 rw [ByteArray.toList_eq];obtain ⟨d⟩:=t;obtain ⟨l⟩:=d
 cases l with
 | nil=>exact absurd h (by simp [ByteArray.size])
 | cons b r=>exact ⟨rfl,rfl⟩
open Go.Shelf Go.RowKit Go.Sort Go.Lib
def aGO:Go.Shelf.Ren:=⟨fun | 171=>71 | 243=>116 | 246=>148 | 283=>174 | 284=>175 | 285=>176 | 286=>177 | 129=>189 | 317=>188 | 318=>190 | 319=>191 | 320=>192 | 337=>202 | 338=>203 | n=>n,fun | 3=>3 | 9=>9 | 2=>2 | 4=>4 | 171=>236 | 0=>0 | 53=>180 | 37=>84 | 5=>5 | 173=>239 | 212=>250 | 51=>142 | 20=>20 | 213=>251 | 46=>181 | 232=>261 | 233=>262 | n=>n,fun | 17=>0 | 18=>1 | 19=>2 | n=>n⟩
theorem shelfItoa:Go.Proofs.LaysM.n171 Tryz.prog aGO:={
 mixed:=by kernel_rfl
 f129:=Tryz.func189.trans (congrArg some (by kernel_rfl))
 f171:=Tryz.func71.trans (congrArg some (by kernel_rfl))
 f243:=Tryz.func116.trans (congrArg some (by kernel_rfl))
 f246:=Tryz.func148.trans (congrArg some (by kernel_rfl))
 f283:=Tryz.func174.trans (congrArg some (by kernel_rfl))
 f284:=Tryz.func175.trans (congrArg some (by kernel_rfl))
 f285:=Tryz.func176.trans (congrArg some (by kernel_rfl))
 f286:=Tryz.func177.trans (congrArg some (by kernel_rfl))
 f317:=Tryz.func188.trans (congrArg some (by kernel_rfl))
 f318:=Tryz.func190.trans (congrArg some (by kernel_rfl))
 f319:=Tryz.func191.trans (congrArg some (by kernel_rfl))
 f320:=Tryz.func192.trans (congrArg some (by kernel_rfl))
 f337:=Tryz.func202.trans (congrArg some (by kernel_rfl))
 f338:=Tryz.func203.trans (congrArg some (by kernel_rfl))
 t0:=Tryz.underlying0
 a0:=Tryz.isAgg0
 z0:=Tryz.sizeOf0
 v0:=Tryz.zeroValue0
 t2:=Tryz.underlying2
 a2:=Tryz.isAgg2
 z2:=Tryz.sizeOf2
 v2:=Tryz.zeroValue2
 t3:=Tryz.underlying3
 a3:=Tryz.isAgg3
 z3:=Tryz.sizeOf3
 v3:=Tryz.zeroValue3
 t4:=Tryz.underlying4
 a4:=Tryz.isAgg4
 z4:=Tryz.sizeOf4
 v4:=Tryz.zeroValue4
 t5:=Tryz.underlying5
 a5:=Tryz.isAgg5
 z5:=Tryz.sizeOf5
 v5:=Tryz.zeroValue5
 t9:=Tryz.underlying9
 a9:=Tryz.isAgg9
 z9:=Tryz.sizeOf9
 v9:=Tryz.zeroValue9
 t20:=Tryz.underlying20
 a20:=Tryz.isAgg20
 z20:=Tryz.sizeOf20
 v20:=Tryz.zeroValue20
 t37:=Tryz.underlying84
 a37:=Tryz.isAgg84
 z37:=Tryz.sizeOf84
 v37:=Tryz.zeroValue84
 t46:=Tryz.underlying181
 a46:=Tryz.isAgg181
 z46:=Tryz.sizeOf181
 v46:=Tryz.zeroValue181
 t51:=Tryz.underlying142
 a51:=Tryz.isAgg142
 z51:=Tryz.sizeOf142
 v51:=Tryz.zeroValue142
 t53:=Tryz.underlying180
 a53:=Tryz.isAgg180
 z53:=Tryz.sizeOf180
 v53:=Tryz.zeroValue180
 t171:=Tryz.underlying236
 a171:=Tryz.isAgg236
 z171:=Tryz.sizeOf236
 v171:=Tryz.zeroValue236
 t173:=Tryz.underlying239
 a173:=Tryz.isAgg239
 z173:=Tryz.sizeOf239
 v173:=Tryz.zeroValue239
 t212:=Tryz.underlying250
 a212:=Tryz.isAgg250
 z212:=Tryz.sizeOf250
 v212:=Tryz.zeroValue250
 t213:=Tryz.underlying251
 a213:=Tryz.isAgg251
 z213:=Tryz.sizeOf251
 t232:=Tryz.underlying261
 a232:=Tryz.isAgg261
 z232:=Tryz.sizeOf261
 v232:=Tryz.zeroValue261
 t233:=Tryz.underlying262
 a233:=Tryz.isAgg262
 z233:=Tryz.sizeOf262
 v233:=Tryz.zeroValue262
 g17:=by kernel_rfl
 g18:=by kernel_rfl
 g19:=by kernel_rfl
 i0:=by kernel_rfl
 i2:=by kernel_rfl
 i3:=by kernel_rfl
 i4:=by kernel_rfl
 i5:=by kernel_rfl
 i9:=by kernel_rfl
 i20:=by kernel_rfl
 i37:=by kernel_rfl
 i46:=by kernel_rfl
 i51:=by kernel_rfl
 i53:=by kernel_rfl
 i171:=by kernel_rfl
 i173:=by kernel_rfl
 i212:=by kernel_rfl
 i232:=by kernel_rfl
 i233:=by kernel_rfl
 m17:=by kernel_rfl
 m18:=by kernel_rfl
 m19:=by kernel_rfl}
theorem aMc (n:Int)(h0:-9223372036854775808<=n)(h1:n<=9223372036854775807)(w:World)(htab:Lib.TabIs Tryz.prog w "internal/strconv.uint64pow10" .u64 Lib.pow10Tab):
  Calls Tryz.prog 71 #[.int .i64 n] w fun e w'=>e=.returned (.string ⟨(Lib.itoa n).toArray⟩)/\∃ k os,w'=grow (w.drewN k) os:=Any.strconv_Itoa shelfItoa n h0 h1 w htab
end Go.Proofs.YteghhlfmcjmnoaaGreatDoor
namespace Go.Proofs.YteghhlfmcjmnoaaGreatDoor
open Go.RowKit
def Tab (w:World):Prop:=Lib.TabIs Tryz.prog w "internal/strconv.uint64pow10" .u64 Lib.pow10Tab
theorem Tab.below {w w':World}(h:Tab w)(hb:Below w.heap.size w w'):Tab w':=Lib.tabBelow_of_tabIs h w' hb
theorem aOd (v:Int)(a:Rd.numOk v)(w:World)(b:Tab w):
  Calls Tryz.prog 71 #[.int .i64 v] w fun e w'=>∃ s:ByteArray,e=.returned (.string s)/\s.data.toList=Rd.dec v/\s.size<=9/\Below w.heap.size w w':=by
 obtain ⟨u,rfl⟩:∃ u:Nat,v=u:=⟨v.toNat,by have:=a.1;omega⟩
 refine (aMc u (by omega) (by have:=a.2;omega) w b).mono ?_;rintro e w' ⟨rfl,k,c,rfl⟩;refine ⟨_,rfl,?_,?_,Lib.below_grow _ _ (Nat.le_refl _) _ _⟩
 ·rw [Lib.itoa_nonneg];simp [Rd.dec]
 ·have:=Rd.aE0 a;rw [Lib.itoa_nonneg]
  simpa [Rd.dec,ByteArray.size] using this
open Go.RowKit
structure Str (s:ByteArray) (l:List UInt8):Prop where
 eq:s.data.toList=l
theorem Str.size {s:ByteArray}{l:List UInt8}(h:Str s l):s.size=l.length:=by
 rw [<-h.eq,Array.length_toList];rfl
theorem Str.app {s t:ByteArray}{l m:List UInt8}(h:Str s l)(k:Str t m):Str (s++t) (l++m):=⟨by rw [<-h.eq,<-k.eq];simp [ByteArray.data_append]⟩
theorem Str.mk' (l:List UInt8):Str ⟨l.toArray⟩ l:=⟨by simp⟩
theorem Str.to {s:ByteArray}{l m:List UInt8}(h:Str s l)(e:l=m):Str s m:=e ▸ h
open Go.RowKit
open Go.Deep (BT)
def TxtPost (w:World)(l:List UInt8)(e:Ending)(w':World):Prop:=∃ s:ByteArray,e=.returned (.string s)/\Str s l/\Below w.heap.size w w'
open Go.RowKit
open Go.Deep (BT)
open Go.RowKit
theorem aN5:∀ c,Rd.fix c 0=List.replicate c 48:=by
 intro c
 induction c with
 | zero=>rfl
 | succ c ih=>
  rw [Rd.fix,Nat.zero_div,ih,List.replicate_succ'];rfl
theorem aLT:∀ c x,x<10^c->0<c->(Lib.decDigits x).length<=c/\Rd.fix c x=List.replicate (c-(Lib.decDigits x).length) 48++Lib.decDigits x:=by
 intro c
 induction c with
 | zero=>intro x _ h;omega
 | succ c ih=>
  intro x a _
  by_cases h:x<10
  ·have e:Lib.decDigits x=[Rd.dgt x]:=by
    rw [Lib.decDigits,dif_pos h,Rd.dgt,Nat.mod_eq_of_lt h]
   rw [Rd.fix,Nat.div_eq_of_lt h,aN5,e];exact ⟨by simp,by simp⟩
  ·have e:Lib.decDigits x=Lib.decDigits (x/10)++[Rd.dgt x]:=by
    conv=>lhs;rw [Lib.decDigits,dif_neg h]
    rfl
   rw [Nat.pow_succ] at a
   have b:0<c:=by
    rcases Nat.eq_zero_or_pos c with h0 | h0
    ·subst h0;simp at a;omega
    ·exact h0
   obtain ⟨d,f⟩:=ih (x/10) (by omega) b;rw [Rd.fix,f,e];refine ⟨by simp;exact d,?_⟩;simp only [List.length_append,List.length_singleton,List.append_assoc];congr 2;omega
theorem aE0 {x n:Nat}(h:x<2^n):(Lib.decDigits x).length<=n+1:=by
 have a:2^n<=10^(n+1):=by
  rw [Nat.pow_succ];have:=Nat.pow_le_pow_left (show 2<=10 by decide) n;omega
 exact (aLT (n+1) x (by omega) (by omega)).1
def tailOf (N:Nat)(R:List Int)(l:List UInt8):Prop:=(N=0/\R=[]/\l=[])\/(0<N/\(R=[]->l=Lib.decDigits N)/\(R≠[]->Lib.decDigits (Nm.val 4294967296 R).toNat++l=Lib.decDigits N))
def wtRel (w:World)(N gk:Nat)(tv rv:Value)(wr:World):Prop:=
 ∃ (s:ByteArray) (l:List UInt8) (R:List Int),tv=.string s/\Str s l/\Lims wr R rv/\Nm.Good 4294967296 R/\R.length<=10000000/\gk=(Nm.val 4294967296 R).toNat/\tailOf N R l/\Below w.heap.size w wr
theorem aOP {N n:Nat}{R:List Int}{l:List UInt8}(h:tailOf N R l)(d:N<2^n):l.length<=n+1:=by
 rcases h with ⟨_,_,rfl⟩ | ⟨_,b,c⟩
 ·simp
 ·have:=aE0 d
  by_cases a:R=[]
  ·rw [b a];exact this
  ·rw [<-c a] at this;simp at this;omega
theorem aNk {N:Nat}{R Q:List Int}{l:List UInt8}(h:tailOf N R l)(hR:R≠[])(k:Nm.Good 4294967296 R)(c:Nm.Good 4294967296 Q)(m:Nm.val 4294967296 Q=Nm.val 4294967296 R/1000000000):
  tailOf N Q ((bif Q.isEmpty then Lib.decDigits (Nm.val 4294967296 R%1000000000).toNat else Rd.fix 9 (Nm.val 4294967296 R%1000000000).toNat)++l):=by
 rcases h with ⟨_,i,_⟩ | ⟨j,_,d⟩
 ·exact absurd i hR
 ·refine Or.inr ⟨j,?_,?_⟩
  ·intro a;have f:=(Nm.aCs (by decide) c).2 a;have b:=Nm.aBJ (by decide) k.dig;subst a;rw [show ([]:List Int).isEmpty=true from rfl,cond_true,<-d hR];congr 2;omega
  ·intro a
   have f:Nm.val 4294967296 Q≠0:=fun e=>a ((Nm.aCs (by decide) c).1 e)
   have b:=Nm.aBJ (by decide) c.dig
   have g:Q.isEmpty=false:=by cases Q with | nil=>exact absurd rfl a | cons _ _=>rfl
   rw [g,cond_false,<-d hR,<-List.append_assoc];congr 1;have:=Rd.aQy 9 (Nm.val 4294967296 Q).toNat (Nm.val 4294967296 R%1000000000).toNat (by omega) (by omega);rw [<-this];congr 1;omega
theorem aQA (x:Nat):0<(Lib.decDigits x).length:=by
 rw [Lib.decDigits]
 split<;>simp
def padRel (w:World)(Q:List Int)(d:List UInt8)(pv:Value)(wr:World):Prop:=
 ∃ (s:ByteArray) (j:Nat),pv=.string s/\Str s (List.replicate j 48++d)/\j+d.length<=9/\(Q=[]->j=0)/\wr=w
theorem aK4 (w:World)(nb:Bool)(a:List Int)(ao:Option Addr)(cap n N:Nat)(ha:Lims w a (.slice ao a.length cap))(ga:Nm.Good 4294967296 a)(bq:a.length<=1000000)(hN:Nm.val 4294967296 a=N)(hn:N<2^n)(br:n<=1000000)(ht:Tab w):
  Calls Tryz.prog 39 #[.agg #[.bool nb,.slice ao a.length cap]] w (TxtPost w (bif decide (N=0) then [48] else (bif nb then [45] else [])++Lib.decDigits N)):=by
 have HA:=hid ha;have GA:=hid ga;have HT:=hid ht;have O:=hid hN;have P:=hid hn;have m:Hid (Below w.heap.size w (w.alloc (.cells #[.bool nb,.slice ao a.length cap] 80))):=belowW (Below.refl _ _) (Nat.le_refl _) _;clear ha ga ht hN hn
 go_enter Tryz.func39,Tryz.ntmps39
 go_wp2_with fail
 go_loopg [3,4] N (fun gk t r wr=>wtRel (w.alloc (.cells #[.bool nb,.slice ao a.length cap] 80)) N gk t r wr)
 case atStart=>
  refine ⟨_,[],a,rfl,Str.mk' [],HA.out.alloc _,GA.out,by omega,by rw [O.out];simp,?_,Below.refl _ _⟩;have S:=Nm.aCs (by decide) GA.out;rw [O.out] at S
  by_cases h:N=0
  ·exact Or.inl ⟨h,S.1 (by omega),rfl⟩
  ·refine Or.inr ⟨by omega,fun e=>absurd (S.2 e) (by omega),fun _=>?_⟩;rw [O.out];simp
 case round=>
  obtain ⟨s,l,R,rfl,hS,hR,gR,bn,H,b,k⟩:=hrel;have A:=hid hS;have HR:=hid hR;have C:=hid gR;have T:=hid H;have o:=hid b;have B:=hid k;have U:=aOP b P.out
  have a6:s.size<=1000010:=by rw [hS.size];omega
  obtain ⟨ro,rc,rfl,_⟩:=hR.shape;clear hS hR gR H b k U
  by_cases g:R=[]
  ·subst g
   have r0:wr.cell? ⟨w.heap.size,0,none⟩=some (.bool nb):=by
    rw [B.out.cell (by simp)];exact aAa (aBE _ _) rfl
   by_cases J:N=0
   ·have D:l=[]:=by
     rcases o.out with ⟨_,_,h⟩ | ⟨h,_⟩
     ·exact h
     ·omega
    have W:s=⟨#[]⟩:=by
     have:=A.out.size;rw [D] at this;obtain ⟨d⟩:=s;have h2:d.size=0:=this;rw [Array.eq_empty_of_size_eq_zero h2]
    subst W
    go_wp2_with fail
    go_ret
    exact ⟨_,rfl,(Str.mk' [48]).to (by rw [decide_eq_true J];rfl),m.out.trans (B.out.mono m.out.size)⟩
   ·have D:l=Lib.decDigits N:=by
     rcases o.out with ⟨h,_⟩ | ⟨_,h,_⟩
     ·omega
     ·exact h rfl
    have X:0<s.size:=by rw [A.out.size,D];exact aQA N
    obtain ⟨z1,z2⟩:=aIv X;have HL:=hid D;have HD:=hid (decide_eq_false J);clear D;cases nb
    ·go_wp2_with fail
     go_ret
     exact ⟨_,rfl,A.out.to (by rw [HD.out,HL.out];rfl),m.out.trans (B.out.mono m.out.size)⟩
    ·go_wp2_with fail
     go_ret
     exact ⟨_,rfl,((Str.mk' [45]).app A.out).to (by rw [HD.out,HL.out];rfl),m.out.trans (B.out.mono m.out.size)⟩
  ·have a8:(0:Int)<R.length:=by have:=List.length_pos_iff.2 g;omega
   have a9:=Nm.aBJ (by decide) C.out.dig
   have ba:Nm.val 4294967296 R≠0:=fun e=>g ((Nm.aCs (by decide) C.out).1 e)
   have DS:=hid (aE3 wr R _ HR.out (by omega) C.out.dig)
   go_wp2_with fail
   refine (DS.out).mono ?_;rintro e w1 ⟨qv,Q,rfl,y,L,M,z⟩;have bb:=z.size;obtain ⟨qo,qc,rfl,_⟩:=y.shape;have bc:=aC8 L C.out (by rw [M];omega);have TS:=hid (aNk o.out g C.out L M)
   have c:Hid ((Nm.val 4294967296 Q).toNat<gk):=by show _<_;rw [T.out,M];omega
   have m0:0<=Nm.val 4294967296 R%1000000000:=by omega
   have m1:Nm.val 4294967296 R%1000000000<1000000000:=by omega
   have HQ:=hid (y.weak (Nat.zero_le _));have GQ:=hid L;have Y:=hid (B.out.trans (z.mono B.out.size));have IT:=hid (aOd (Nm.val 4294967296 R%1000000000) ⟨m0,m1⟩ w1 ((HT.out.below m.out).below (Y.out.mono (by simp))));clear y L M z DS;generalize Nm.val 4294967296 R%1000000000=low at*
   go_wp2_with fail
   refine (IT.out).mono ?_;rintro e w2 ⟨u,rfl,hu,ax,f⟩;have bg:=f.size
   obtain ⟨wo,af⟩:∃ wo:World,wo=wr:=⟨_,rfl⟩
   subst af
   have E:Rd.dec low=Lib.decDigits low.toNat:=by unfold Rd.dec;rfl
   rw [E] at hu
   have aa:Hid (Str u (Lib.decDigits low.toNat)):=⟨hu⟩
   have FP:=hid (aLT 9 low.toNat (by omega) (by decide));have B2:=hid (Y.out.trans (f.mono Y.out.size));have F:=hid (HQ.out.below f);clear hu E IT f
   go_wp2_with fail
   go_loopw [7] (fun p wr=>padRel w2 Q (Lib.decDigits low.toNat) p wr) (fun p _=>match p with | .string t=>9-t.size | _=>0)
   case atStart=>exact ⟨u,0,rfl,aa.out.to (by simp),by have:=FP.out.1;omega,fun _=>rfl,rfl⟩
   case round=>
    obtain ⟨t,j,rfl,hT,hj,I,rfl⟩:=hrel
    have bh:t.size=j+(Lib.decDigits low.toNat).length:=by rw [hT.size];simp
    have q:=hid hT
    have bi:t.size<=9:=by omega
    clear hT
    by_cases i:Q=[]
    ·subst i;have j0:=I rfl;subst j0;have v:Hid (tailOf N [] (Lib.decDigits low.toNat++l)):=TS.out;have ab:Hid (Str t (Lib.decDigits low.toNat)):=q.out;clear I
     go_wp2_with fail
     go_roundg 0
     case measure=>exact c.out
     case rel=>exact ⟨_,_,[],rfl,ab.out.app A.out,F.out,GQ.out,by simp,rfl,v.out,B2.out⟩
    ·have bk:(0:Int)<Q.length:=by have:=List.length_pos_iff.2 i;omega
     by_cases h9:(t.size:Int)<9
     ·go_wp2_with fail
      go_roundw
      case rel=>exact ⟨_,j+1,rfl,((Str.mk' [48]).app q.out).to (by rw [List.replicate_succ];rfl),by omega,fun e=>absurd e i,rfl⟩
      case measure=>
       simp only [ByteArray.size_append];have h1:(⟨#[48]⟩:ByteArray).size=1:=rfl;omega
     ·have x:Hid (List.replicate j 48++Lib.decDigits low.toNat=Rd.fix 9 low.toNat):=by
       show _=_;rw [FP.out.2];congr 2;omega
      have he:Q.isEmpty=false:=by cases Q with | nil=>exact absurd rfl i | cons _ _=>rfl
      have v:Hid (tailOf N Q (Rd.fix 9 low.toNat++l)):=by have:=TS.out;rw [he] at this;exact this
      go_wp2_with fail
      go_roundg ((Nm.val 4294967296 Q).toNat)
      case measure=>exact c.out
      case rel=>exact ⟨_,_,Q,rfl,(q.out.app A.out).to (by rw [x.out]),F.out,GQ.out,by omega,rfl,v.out,B2.out⟩
theorem aH6 (w:World)(z:Int)(v:Value)(n:Nat)(h:WhoAt w z v)(g:z.natAbs<2^n)(l:n<=1000000)(m:Tab w):Calls Tryz.prog 39 #[v] w (TxtPost w (Nm.text z)):=by
 obtain ⟨i,j,b,rfl,k,d,f⟩:=h.open;have o:=aBk d f g;have a:=aK4 w (decide (z<0)) i j b n z.natAbs k d (by omega) f g l m
 have e:(bif decide (z.natAbs=0) then [48] else (bif decide (z<0) then [45] else [])++Lib.decDigits z.natAbs)=Nm.text z:=by
  unfold Nm.text
  by_cases c:z.natAbs=0
  ·rw [decide_eq_true c,c,decide_eq_false (show ¬z<0 by omega)];show [48]=[]++Lib.decDigits 0;rw [Lib.decDigits_one (by decide)];rfl
  ·rw [decide_eq_false c];rfl
 rw [e] at a;exact a
open Go.RowKit
open Ab
open Rf (Wt fuelF)
theorem aDh {w:World}{m:Int}{x y:Value}(h:Hold true w [m] [x,y]):WhoAt w m (.agg #[x,y]):=by
 obtain ⟨a,⟨b,c,d,e⟩,_⟩:=h;subst a;exact ⟨b,y,rfl,c,d,e⟩
def DecS (w:World)(a:Option Int)(e:Ending)(w':World):Prop:=Chg w w' []/\match a with
 | none=>e=.returned (.tuple #[.string ⟨#[]⟩,.int .i64 6])
 | some m=>∃ s:ByteArray,e=.returned (.tuple #[.string s,.int .i64 0])/\Str s (Nm.text m)
theorem aHf (w:World)(xb:Nat)(T:Rd.Tr)(u:Wt)(n c:Nat)(r:ExAt w xb T)(t:planT T=some u)(O:n<=60)(P:c<=3000)(A:Tab w):Calls Tryz.prog 20 #[.pointer (some ⟨xb,0,none⟩),.int .i64 (n:Int),.int .i64 (c:Int)] w (DecS w (decT u n c)):=by
 have B:=hid (aI3 w xb T n c r (by omega) (by omega) (by omega) (by omega));have C:=hid (r.ok t);have D:=hid t;have E:=hid A;clear r t A
 go_enter Tryz.func20,Tryz.ntmps20
 go_wp2_with fail
 refine (B.out).mono ?_;rintro e R b;rw [D.out] at b;obtain ⟨a,v,rfl,p⟩:=b;obtain ⟨J,rfl⟩:=PartAt.ptr u v p;have i:=hid a;have F:=hid p;clear a p;unfold ptrB
 go_wp2_with fail
 refine (aKl _ u J n c C.out F.out O P).mono ?_;rintro e q ⟨d,h⟩;have j:=hid d;clear d
 cases g:decT u n c with
 | none=>
  rw [g] at h;simp only at h;subst h
  go_wp2_with fail
  refine bodyPost_ret (v:=.tuple #[.string ⟨#[]⟩,.int .i64 6]) (by simp [results,Tryz.results20,go_sem]) rfl ?_;rw [g];exact ⟨(i.out.trans j.out).trans (Chg.alloc _ _),rfl⟩
 | some m=>
  rw [g] at h;simp only at h;obtain ⟨L,M,N,rfl,x,y⟩:=h;have H:=hid (fun o=>aH6 (q.alloc o) m (.agg #[.bool (decide (m<0)),.slice L M N]) 20000 (aDh (aAm (Chg.alloc q o).on x)) y (by decide) (Lib.tabBelow_of_tabIs E.out _ (((i.out.trans j.out).trans (Chg.alloc q o)).below (Nat.le_refl _) (fun k hk=>by simp at hk))));clear x y
  go_wp2_with fail
  refine (H.out _).mono ?_;rintro e S ⟨s,rfl,z,f⟩;have I:=hid z;have l:=hid f;clear z f
  go_wp2_with fail
  refine bodyPost_ret (v:=.tuple #[.string s,.int .i64 0]) (by simp [results,Tryz.results20,go_sem]) rfl ?_;rw [g];exact ⟨((i.out.trans j.out).trans (Chg.alloc _ _)).trans (Chg.aAi l.out),s,rfl,I.out⟩
open Go.RowKit
open Ab
open Rf (Wt fuelF)
def TxsOf:List Int->List ByteArray->Prop
 | [],[]=>True
 | m::ms,s::ss=>Str s (Nm.text m)/\TxsOf ms ss
 | _,_=>False
theorem TxsOf.snoc:∀ {ms:List Int} {ss:List ByteArray} {m:Int} {s:ByteArray},TxsOf ms ss->Str s (Nm.text m)->TxsOf (ms++[m]) (ss++[s])
 | [],[],_,_,_,h=>⟨h,trivial⟩
 | _::ms,_::ss,_,_,⟨h1,h2⟩,h=>⟨h1,h2.snoc h⟩
 | [],_::_,_,_,h,_=>h.elim
 | _::_,[],_,_,h,_=>h.elim
theorem TxsOf.len:∀ {ms:List Int} {ss:List ByteArray},TxsOf ms ss->ss.length=ms.length
 | [],[],_=>rfl
 | _::ms,_::ss,⟨_,h⟩=>by simp [h.len]
 | [],_::_,h=>h.elim
 | _::_,[],h=>h.elim
theorem infoStr:(Tryz.prog.info? 9).map (fun i=>(i.zero,i.size,i.bytes))=some (some (.string ⟨#[]⟩),1,16):=by kernel_rfl
def NumRow (w:World)(ms:List Int)(lv:Value):Prop:=∃ ao cap,lv=.slice ao ms.length cap/\∀ i,(h:i<ms.length)->∃ g o l c,ao=some ⟨g,0,none⟩/\g<w.heap.size/\w.cell? ⟨g,i*2,none⟩=some (.bool (decide (ms[i]<0)))/\w.cell? ⟨g,i*2+1,none⟩=some (.slice o l c)/\WhoAt w ms[i] (.agg #[.bool (decide (ms[i]<0)),.slice o l c])/\RB 1000000 ms[i]
def txRel (w:World)(ms:List Int)(l i:Value)(wr:World):Prop:=
 ∃ (n:Nat) (ss:List ByteArray),n<=ms.length/\i=.int .i64 n/\TxsOf (ms.take n) ss/\wr.ownsRow w.heap.size 9 1 l n (ss.map Value.string)/\Below w.heap.size w wr
theorem aJ0 (w:World)(c:List Int)(lv:Value)(h:NumRow w c lv)(hm:c.length<=100)(W:Tab w):Calls Tryz.prog 41 #[lv] w fun e w'=>∃ v ss,e=.returned v/\w'.ownsRow w.heap.size 9 1 v c.length (ss.map Value.string)/\TxsOf c ss/\Below w.heap.size w w':=by
 obtain ⟨ao,ak,rfl,P⟩:=h;obtain ⟨i,hi,hz,z,N⟩:=info_parts infoStr;have X:=hid W;have Y:=hid P;clear W P
 go_enter Tryz.func41,Tryz.ntmps41
 go_wp2_with fail
 go_loopw [3,4] (fun l i wr=>txRel w c l i wr) (fun _ i _=>c.length-(intOf i).toNat)
 case atStart=>
  refine ⟨0,[],Nat.zero_le _,rfl,trivial,⟨rfl,Or.inr ⟨w.heap.size,0,#[],rfl,Nat.le_refl _,aAr _ _,Nat.le_refl _,by decide,rfl,rfl⟩⟩,(Below.refl _ _).alloc (Nat.le_refl _) _⟩
 case round=>
  obtain ⟨n,ss,hn,rfl,t,b,a⟩:=hrel;have aa:=a.size
  by_cases I:n<c.length
  ·have J:(n:Int)<c.length:=by omega
   obtain ⟨g,o,O,cq,rfl,F,R,S,y,H⟩:=Y.out n I;have d0:=(a.cell (p:=⟨g,n*2,none⟩) F).trans R;have d1:=(a.cell (p:=⟨g,n*2+1,none⟩) F).trans S
   have q:WhoAt wr c[n] (.agg #[.bool (decide (c[n]<0)),.slice o O cq]):=by
    obtain ⟨ds,dv,T,h2,h3⟩:=y
    have hh:Hold true w [c[n]] [.bool (decide (c[n]<0)),.slice o O cq]:=by
     simp only [Value.agg.injEq,Array.mk.injEq,List.cons.injEq,and_true] at T;refine ⟨rfl,⟨ds,?_,h3⟩,trivial⟩
     have:dv=.slice o O cq:=by have:=T.2;exact this.symm
     rw [<-this];exact h2
    exact aDh (aAm (On.below a) hh)
   have WT:=hid (aH6 wr c[n] _ 1000000 q H (Nat.le_refl _) (Lib.tabBelow_of_tabIs X.out _ a));have TK:=hid (aHR I);have L:=hid t;have M:=hid b;have E:=hid a;clear y q H t R S;generalize c[n]=m at*;obtain ⟨A,B,C,rfl⟩:=aCM b;clear b a
   go_wp2_with fail
   refine (WT.out).mono ?_;rintro e w4 ⟨s,rfl,U,f⟩;have HS:=hid U;have r:w4.ownsRow w.heap.size 9 1 (.slice A B C) n (ss.map Value.string):=M.out.kept (row:=none) ⟨f.os,f.tape,f.output,f.size,fun k hk _=>f.block k hk⟩ (by cases (Value.slice A B C).ownBlock<;>simp);have d:Below w.heap.size w w4:=E.out.trans (f.mono E.out.size);clear U f
   go_wp2_with (at_builtin;(refine wpList_append_own _ rfl _ _ 44 rfl w.heap.size 9 i (.string ⟨#[]⟩) 1 16 Tryz.underlying44 hi hz z N rfl (by decide) _ _ _ rfl (r.alloc _) ⟨w4.heap.size,0,none⟩ 1 1 [.string s] rfl rfl (cell_one_new _ _ _) (fun u hu=>by simp at hu;subst hu;rfl) (by unfold maxLen;omega) (by omega) (by have:=d.size;simp;omega) ?_;intro v' w6 x j D;have B6:=hid (aBV r d d.size _ j);have O6:=hid x;clear D j x))
   go_roundw
   case rel=>
    refine ⟨n+1,ss++[s],by omega,by go_num,?_,?_,B6.out⟩
    ·rw [TK.out];exact L.out.snoc HS.out
    ·rw [List.map_append];exact O6.out
   case measure=>simp [intOf];omega
  ·obtain rfl:n=c.length:=by omega
   have J:¬(c.length:Int)<c.length:=by omega
   obtain ⟨A,B,C,rfl⟩:=aCM b;rw [List.take_length] at t;have M:=hid b;have HX:=hid t;have HB:=hid a;clear b t a
   go_wp2_with fail
   go_ret
   exact ⟨_,rfl,ss,M.out,HX.out,HB.out⟩
open Go.RowKit
namespace Ab
def RowOf2 (w:World)(e:TypeId)(xs:List Value)(n:Nat)(v:Value)(b:Nat):Prop:=
 ∃ cap,∃ rest:List Value,v=.slice (some ⟨b,0,none⟩) n cap/\xs.length=n*2/\w.heap[b]?=some (.cells (xs++rest).toArray e (0,0))/\n<=cap/\cap*2<=xs.length+rest.length
theorem aIY {bt:List TypeId}{P:Program}{t t' e ty:TypeId}{i:TypeInfo}{u:Value}(O:P.underlying t=some (.slice e))(p:P.underlying t'=some (.slice e))(q:szOf P e=some 2)(hi:P.info? e=some i)(E:i.bytes<=1000000)(hz:∀ w,(zeroValue e).run P w=.ok u w)(F:u.cells.size=2)(H:bt.contains e=true)
  {w:World} {xs:List Value} {n:Nat} {v xv x y:Value} {b:Nat} (r:RowOf2 w e xs n v b) {k xc:Nat} {pre post:List Value} {I:TypeId} (hx:w.heap[k]?=some (.cells (pre++[x,y]++post).toArray I (0,0))) (J:xv=.slice (some ⟨k,pre.length,none⟩) 1 xc) (L:One x) (M:One y) (R:n<=99999):
  ∃ v' w' b',(Builtin.append_ #[t,t'] ty #[v,xv]).run P w=.ok v' w'/\RowOf2 w' e (xs++[x,y]) (n+1) v' b'/\(b'=b\/w.heap.size<=b')/\On bt w w'/\∀ j,j<w.heap.size->j≠b'->w'.heap[j]?=w.heap[j]?:=by
 subst J
 have g:∀ w',w'.heap=w.heap->(Builtin.firstCells 2 1 (.slice (some ⟨k,pre.length,none⟩) 1 xc)).run P w'=.ok #[x,y] w':=fun w' hw=>aBr (ys:=[x,y]) (by rw [hw];exact hx) rfl
 obtain ⟨h,c,W,A,s,h4,h5⟩:=r;subst W
 by_cases D:n+1<=h
 ·have z:=aEV (ty:=ty) (a:=⟨b,0,none⟩) (sLen:=n) O p q (g w rfl) D;obtain ⟨w',X,f⟩:=aBu (P:=P) (n*2) [x,y] 0 w (xs++c) s (by simp;omega) (by simp;exact ⟨L,M⟩)
  have S:(⟨b,0,none⟩:Addr).add (n*2)=⟨b,n*2,none⟩:=by rw [aB3];simp
  rw [S,show (#[x,y]:Array Value).toList=[x,y] from rfl,X] at z;simp only [Result.andThen_ok] at z;rw [Nat.add_zero,aCD _ _ _ (by simp;omega)] at f
  have T:(xs++c).take (n*2)=xs:=by rw [<-A];simp
  have U:(xs++c).drop (n*2+[x,y].length)=c.drop 2:=by rw [<-A];simp
  rw [T,U] at f;refine ⟨_,w',b,z,⟨h,c.drop 2,rfl,by simp;omega,f.blk,D,by simp;omega⟩,Or.inl rfl,⟨f.os,f.tape,f.output,by rw [f.size];exact Nat.le_refl _,fun j o hj=>?_⟩,fun j _ hj=>f.others j hj⟩
  by_cases m:j=b
  ·subst m;rw [s] at hj;cases hj;refine Or.inr ⟨H,?_⟩;unfold World.shape?;rw [f.blk,s];simp;omega
  ·exact Or.inl (by rw [f.others j m];exact hj)
 ·have l:∀ w',w'.heap=w.heap->(Builtin.firstCells 2 n (.slice (some ⟨b,0,none⟩) n h)).run P w'=.ok xs.toArray w':=fun w' hw=>aBr (pre:=[]) (ys:=xs) (by rw [hw];exact s) (by simpa using A)
  obtain ⟨d,c1,Y⟩:=aGX (ty:=ty) O p q hi E hz l g D (by omega);refine ⟨_,_,w.heap.size,Y,⟨d,(Builtin.zeroCells u.cells (d-(n+1))).toList,rfl,by simp;omega,?_,by omega,?_⟩,Or.inr (Nat.le_refl _),⟨rfl,rfl,rfl,by simp,fun j o hj=>Or.inl ?_⟩,fun j hj _=>?_⟩
  ·rw [Array.getElem?_push_size];congr 2;apply Array.toList_inj.1;simp
  ·have N:=aD0 u.cells (d-(n+1));rw [F] at N;simp [N];omega
  ·obtain ⟨B,C⟩:=Array.getElem?_eq_some_iff.1 hj;rw [Array.getElem?_push_lt B,C]
  ·rw [Array.getElem?_push_lt hj,Array.getElem?_eq_getElem hj]
end Ab
open Go.RowKit
open Ab
open Rf (Wt fuelF)
def termsF:Nat->Int->Int->List Int
 | 0,_,_=>[]
 | k+1,p,q=>if 0<q then p/q::termsF k q (p%q) else []
theorem aJl:∃ i zv,Z.P.info? 80=some i/\i.bytes<=1000000/\(∀ w,(zeroValue 80).run Z.P w=.ok zv w)/\zv.cells.size=2:=by
 have h:(Z.P.info? 80).map (fun i=>(i.bytes,i.zero))=some (32,some (.agg #[.bool false,.slice none 0 0])):=by kernel_rfl
 obtain ⟨i,a,b⟩:=Option.map_eq_some_iff.1 h;simp only [Prod.mk.injEq] at b;obtain ⟨c,d⟩:=b;exact ⟨i,.agg #[.bool false,.slice none 0 0],a,by rw [c];decide,fun w=>by simp [zeroValue,typeInfo,a,d],rfl⟩
def NumB (w:World)(b:Nat)(z:Int)(ao:Option Addr)(ln cp:Nat):Prop:=w.heap[b]?=some (.cells #[.bool (decide (z<0)),.slice ao ln cp] 80 (0,0))/\Hold true w [z] [.bool (decide (z<0)),.slice ao ln cp]
theorem NumB.chg {w w':World}{b:Nat}{z:Int}{ao:Option Addr}{ln cp:Nat}{D:List Nat}(h:NumB w b z ao ln cp)(hc:Chg w w' D)(hb:b∉D):NumB w' b z ao ln cp:=⟨hc.at h.1 hb,aAm hc.on h.2⟩
def ftRel (w:World)(k tb bb:Nat)(ans:List Int)(l:Value)(wr:World):Prop:=
 ∃ (zs:List Int) (xs:List Value) (g:Nat) (p q:Int) (a1:Option Addr) (l1 c1:Nat) (a2:Option Addr) (l2 c2:Nat),RowOf2 wr 80 xs zs.length l g/\Hold true wr zs xs/\g≠tb/\g≠bb/\tb≠bb/\w.heap.size<=g/\w.heap.size<=tb/\w.heap.size<=bb/\NumB wr tb p a1 l1 c1/\NumB wr bb q a2 l2 c2/\0<=q/\RB 7000 p/\RB 7000 q/\(∀ z∈zs,RB 1000000 z)/\zs.length<=k/\Chg w wr []/\ans=zs++termsF (k-zs.length) p q
theorem aGk {w:World}:∀ {zs:List Int} {xs:List Value} {z:Int} {x y:Value},Hold true w zs xs->Hold true w [z] [x,y]->Hold true w (zs++[z]) (xs++[x,y])
 | [],[],_,_,_,_,h=>h
 | _::zs,_::_::xs,_,_,_,⟨h1,h2,h3⟩,h=>⟨h1,h2,aGk h3 h⟩
 | [],_::_,_,_,_,h,_=>h.elim
 | _::_,[],_,_,_,h,_=>h.elim
 | _::_,[_],_,_,_,h,_=>h.elim
theorem aQF {p q:Int}(b:0<q)(h:RB 7000 q):0<=p%q/\RB 7000 (p%q):=by
 have a:=Int.emod_nonneg p (show q≠0 by omega);have c:=Int.emod_lt_of_pos p b;refine ⟨a,?_⟩;have d:q.natAbs<2^7000:=h;show (p%q).natAbs<2^7000;generalize 2^7000=N at*;omega
theorem aQL {w wr W:World}{k tb c g:Nat}{ans zs:List Int}{xs:List Value}{l:Value}{p q:Int}{a1 H a3 a4:Option Addr}{l1 c1 I c2 l3 c3 l4 c4q:Nat}(B:RowOf2 wr 80 xs zs.length l g)(hh:Hold true wr zs xs)(h1:g≠tb)(h2:g≠c)(h3:tb≠c)(h4:w.heap.size<=g)(h5:w.heap.size<=tb)(h6:w.heap.size<=c)(ht:NumB wr tb p a1 l1 c1)(hb:NumB wr c q H I c2)(hq:0<q)(hp:RB 7000 p)(C:RB 7000 q)(hz:∀ z∈zs,RB 1000000 z)(hk:zs.length<k)(bn:k<=100)(J:Chg w wr [])(D:ans=zs++termsF (k-zs.length) p q)
  (hW:Chg wr W []) (ad:Hold true W [p/q] [.bool (decide (p/q<0)),.slice a3 l3 c3]) (ae:Hold true W [p%q] [.bool (decide (p%q<0)),.slice a4 l4 c4q]):
  ∃ v' w4,(Builtin.append_ #[87,87] 87 #[l,.slice (some ⟨W.heap.size,0,none⟩) 1 1]).run Tryz.prog (W.alloc (.cells #[.bool (decide (p/q<0)),.slice a3 l3 c3] 80))=.ok v' w4/\lenOf v'=zs.length+1/\NumB w4 tb p a1 l1 c1/\NumB w4 c q H I c2/\Hold true w4 [p%q] [.bool (decide (p%q<0)),.slice a4 l4 c4q]/\(∀ j,j<W.heap.size->j≠g->w4.heap[j]?=W.heap[j]?)/\∀ U V,SetW w4 U tb (.bool (decide (q<0))) (.slice H I c2)->SetW U V c (.bool (decide (p%q<0))) (.slice a4 l4 c4q)->ftRel w k tb c ans v' V:=by
 obtain ⟨i,zv,i1,i2,i3,i4⟩:=aJl;have r:Chg W (W.alloc (.cells #[.bool (decide (p/q<0)),.slice a3 l3 c3] 80)) []:=Chg.alloc _ _;have a:=hW.trans r;generalize hX:W.alloc (.cells #[.bool (decide (p/q<0)),.slice a3 l3 c3] 80)=X at*
 have hx:X.heap[W.heap.size]?=some (.cells ([]++[Value.bool (decide (p/q<0)),Value.slice a3 l3 c3]++[]).toArray 80 (0,0)):=by rw [<-hX];exact aAr _ _
 obtain ⟨R,v,r1,r2,r3,r4,r5⟩:=B
 have d:RowOf2 X 80 xs zs.length l g:=⟨R,v,r1,r2,a.at r3 (by simp),r4,r5⟩
 obtain ⟨v',w4,b',e1,e2,E,x,S⟩:=aIY (bt:=Z.bt) (P:=Z.P) (t:=87) (t':=87) (ty:=87) (e:=80) rfl rfl (by kernel_rfl) i1 i2 i3 i4 (by decide) d (xv:=.slice (some ⟨W.heap.size,0,none⟩) 1 1) (xc:=1) hx rfl rfl rfl (by omega)
 have c4:Chg X w4 [b']:=⟨x,fun j hj hm=>S j hj (by simpa using hm)⟩
 have an:wr.heap.size<=X.heap.size:=a.on.size
 have f:tb≠b':=by
  rcases E with e | e
  ·rw [e];exact Ne.symm h1
  ·have:=aAf ht.1;omega
 have m:c≠b':=by
  rcases E with e | e
  ·rw [e];exact Ne.symm h2
  ·have:=aAf hb.1;omega
 have s:w.heap.size<=b':=by
  rcases E with e | e
  ·rw [e];exact h4
  ·have:=J.on.size;omega
 have nt:=(ht.chg a (by simp)).chg c4 (by simpa using f);have L:=(hb.chg a (by simp)).chg c4 (by simpa using m);have u:=aAm x (aAm r.on ae);refine ⟨v',w4,e1,(by obtain ⟨_,_,T,_⟩:=e2;rw [T];rfl),nt,L,u,fun j hj hg=>?_,?_⟩
 ·have M:j<X.heap.size:=Nat.lt_of_lt_of_le hj r.on.size;rw [S j M (by rcases E with e | e<;>omega),r.low j hj (by simp)]
 intro U V F A;have cu:=F.chg nt.1;have N:=L.chg cu (by simpa using Ne.symm h3);have cv:=A.chg N.1;obtain ⟨m1,m2⟩:=aQF (p:=p) hq C;obtain ⟨y,o,T,s2,s3,s4,s5⟩:=e2
 have b:=(cu.on.trans cv.on)
 refine ⟨zs++[p/q],xs++[.bool (decide (p/q<0)),.slice a3 l3 c3],b',q,p%q,H,I,c2,a4,l4,c4q,⟨y,o,by simpa using T,by simpa using s2,?_,by simpa using s4,s5⟩,?_,Ne.symm f,Ne.symm m,h3,s,h5,h6,⟨?_,aAm b L.2⟩,⟨A.blk,aAm b u⟩,m1,C,m2,?_,by simp;omega,?_,?_⟩
 ·rw [A.oth b' (Ne.symm m),F.oth b' (Ne.symm f)];exact s3
 ·exact aAm b (aGk (aAm x (aAm a.on hh)) (aAm x (aAm r.on ad)))
 ·rw [A.oth tb h3];exact F.blk
 ·intro z Y
  rcases List.mem_append.1 Y with h | h
  ·exact hz z h
  ·rw [List.mem_singleton.1 h];exact aCk (n:=7000) (Nat.lt_of_le_of_lt (aEB hq) hp) (by decide)
 ·refine ⟨((J.on.trans a.on).trans x).trans b,fun j hj _=>?_⟩;have O:=Nat.lt_of_lt_of_le hj J.on.size;rw [A.oth j (by omega),F.oth j (by omega),S j (by omega) (by omega),a.low j O (by simp),J.low j hj (by simp)]
 ·rw [D,show k-zs.length=(k-(zs.length+1))+1 by omega,termsF,if_pos hq];simp
open Go.RowKit
open Ab
open Rf (Wt fuelF)
theorem aIC {w:World}{zs:List Int}{xs:List Value}{l:Value}{g:Nat}(h:RowOf2 w 80 xs zs.length l g)(x:Hold true w zs xs)(y:∀ z∈zs,RB 1000000 z):NumRow w zs l:=by
 obtain ⟨k,q,s,A,r,B,C⟩:=h;refine ⟨some ⟨g,0,none⟩,k,s,fun i d=>?_⟩
 have f:∀ (zs:List Int) (xs:List Value),Hold true w zs xs->∀ i,(d:i<zs.length)->∃ o l c,xs[i*2]?=some (.bool (decide (zs[i]<0)))/\xs[i*2+1]?=some (.slice o l c)/\Hold true w [zs[i]] [.bool (decide (zs[i]<0)),.slice o l c]:=by
  intro zs
  induction zs with
  | nil=>intro xs _ i d;simp at d
  | cons z zs ih=>
   intro xs v i d
   match xs,v with
   | a::b::xs,⟨e1,e2,e3⟩=>
    cases i with
    | zero=>
     obtain ⟨o,l,c,rfl⟩:=aDL e2;subst e1;exact ⟨o,l,c,rfl,rfl,rfl,e2,trivial⟩
    | succ i=>
     obtain ⟨o,l,c,m,n,p⟩:=ih xs e3 i (by simpa using d);refine ⟨o,l,c,?_,?_,p⟩
     ·rw [show (i+1)*2=i*2+2 by omega];exact m
     ·rw [show (i+1)*2+1=i*2+1+2 by omega];exact n
 obtain ⟨o,t,c,m,n,p⟩:=f zs xs x i d
 have e:∀ j u,xs[j]?=some u->w.cell? ⟨g,j,none⟩=some u:=fun j u hj=>aAa r (by
  have:=(List.getElem?_eq_some_iff.1 hj).1
  simp [List.getElem?_append_left this,hj])
 exact ⟨g,o,t,c,rfl,aAf r,e _ _ m,e _ _ n,aDh p,y _ (List.getElem_mem d)⟩
theorem aJ8 {w:World}{m:Int}{v:Value}(h:WhoAt w m v):∃ ao ln cp,v=.agg #[.bool (decide (m<0)),.slice ao ln cp]/\Hold true w [m] [.bool (decide (m<0)),.slice ao ln cp]:=by
 obtain ⟨b,d,rfl,a,c⟩:=h;obtain ⟨ao,ln,cp,rfl⟩:=aCM a;exact ⟨ao,ln,cp,rfl,rfl,⟨b,a,c⟩,trivial⟩
theorem aN8 {w:World}{k:Nat}{p q:Int}{a1 b:Option Addr}{a c1 c c2:Nat}{T:TypeId}(t:Hold true w [p] [.bool (decide (p<0)),.slice a1 a c1])(u:Hold true w [q] [.bool (decide (q<0)),.slice b c c2])(v:RB 7000 p)(x:RB 7000 q)(q0:0<=q)(cs:Array Value):
  ftRel w k (w.heap.size+2) (w.heap.size+3) (termsF k p q) (.slice (some ⟨w.heap.size+1,0,none⟩) 0 0) ((((w.alloc (.cells cs T)).alloc (.cells #[] 80)).alloc (.cells #[.bool (decide (p<0)),.slice a1 a c1] 80)).alloc (.cells #[.bool (decide (q<0)),.slice b c c2] 80)):=by
 have l:Chg w (w.alloc (.cells cs T)) []:=Chg.alloc _ _;have m:Chg (w.alloc (.cells cs T)) ((w.alloc (.cells cs T)).alloc (.cells #[] 80)) []:=Chg.alloc _ _
 have n:(w.alloc (.cells cs T)).heap.size=w.heap.size+1:=by simp
 have f:=aAr (w.alloc (.cells cs T)) (.cells #[] 80);rw [n] at f;generalize r:(w.alloc (.cells cs T)).alloc (.cells #[] 80)=A at*
 have g:A.heap.size=w.heap.size+2:=by rw [<-r];simp
 have h:Chg A (A.alloc (.cells #[.bool (decide (p<0)),.slice a1 a c1] 80)) []:=Chg.alloc _ _;have i:=aAr A (.cells #[.bool (decide (p<0)),.slice a1 a c1] 80);rw [g] at i;generalize s:A.alloc (.cells #[.bool (decide (p<0)),.slice a1 a c1] 80)=B at*
 have o:B.heap.size=w.heap.size+3:=by rw [<-s];simp [g]
 have e:Chg B (B.alloc (.cells #[.bool (decide (q<0)),.slice b c c2] 80)) []:=Chg.alloc _ _;have j:=aAr B (.cells #[.bool (decide (q<0)),.slice b c c2] 80);rw [o] at j;have d:=((l.trans m).trans h).trans e;refine ⟨[],[],w.heap.size+1,p,q,a1,a,c1,b,c,c2,⟨0,[],rfl,rfl,(h.trans e).at f (by simp),Nat.le_refl _,Nat.le_refl _⟩,trivial,by omega,by omega,by omega,by omega,by omega,by omega,⟨e.at i (by simp),aAm d.on t⟩,⟨j,aAm d.on u⟩,q0,v,x,(fun z hz=>by cases hz),Nat.zero_le _,d,by simp⟩
theorem aMZ {w w':World}{zs:List Int}{l:Value}(h:NumRow w zs l)(e:Chg w w' []):NumRow w' zs l:=by
 obtain ⟨f,b,j,m⟩:=h;refine ⟨f,b,j,fun i hi=>?_⟩;obtain ⟨g,o,n,c,q,d,r,s,t,u⟩:=m i hi;have a:=e.below (Nat.le_refl _) (fun k hk=>by simp at hk);exact ⟨g,o,n,c,q,Nat.lt_of_lt_of_le d e.on.size,(a.cell (p:=⟨g,i*2,none⟩) d).trans r,(a.cell (p:=⟨g,i*2+1,none⟩) d).trans s,t.below a,u⟩
theorem aLY (w:World)(p q:Int)(k:Nat)(a1:Option Addr)(l1 c1:Nat)(a2:Option Addr)(l2 c2:Nat)(hp:Hold true w [p] [.bool (decide (p<0)),.slice a1 l1 c1])(hq:Hold true w [q] [.bool (decide (q<0)),.slice a2 l2 c2])(bp:RB 7000 p)(bq:RB 7000 q)(q0:0<=q)(hk:k<=100):
  Calls Tryz.prog 42 #[.agg #[.bool (decide (p<0)),.slice a1 l1 c1,.bool (decide (q<0)),.slice a2 l2 c2],.int .i64 (k:Int)] w fun e w'=>∃ v,e=.returned v/\NumRow w' (termsF k p q) v/\Chg w w' []:=by
 have HP:=hid hp;have HQ:=hid hq;clear hp hq
 go_enter Tryz.func42,Tryz.ntmps42
 go_wp2_with fail
 obtain ⟨bb,y⟩:∃ bb,bb=w.heap.size+1+1+1:=⟨_,rfl⟩
 obtain ⟨tb,z⟩:∃ tb,tb=w.heap.size+1+1:=⟨_,rfl⟩
 rw [<-y,<-z];have ag:=hid z;have ah:=hid y;clear z y
 go_loopw [5] (fun l wr=>ftRel w k tb bb (termsF k p q) l wr) (fun l _=>k-lenOf l)
 case atStart=>
  rw [ag.out,ah.out];exact aN8 HP.out HQ.out bp bq q0 _
 case round=>
  obtain ⟨j,xs,g,f,b,b1,m1,n1,b2,m2,n2,a,L,r1,r2,r3,r4,r5,r6,D,A,ch,M,N,hz,ci,O,c⟩:=hrel;have x:=a;obtain ⟨cj,bm,rfl,_⟩:=x;have t0:wr.cell? ⟨tb,0,none⟩=some (.bool (decide (f<0))):=aAa D.1 rfl;have t1:wr.cell? ⟨tb,1,none⟩=some (.slice b1 m1 n1):=aAa D.1 rfl;have u0:wr.cell? ⟨bb,0,none⟩=some (.bool (decide (b<0))):=aAa A.1 rfl;have u1:wr.cell? ⟨bb,1,none⟩=some (.slice b2 m2 n2):=aAa A.1 rfl;have SG:=hid (aDZ wr b _ (aDh A.2))
  by_cases ba:j.length<k
  ·have aj:(j.length:Int)<k:=by omega
   have Y:=hid (aIC a L hz);have ST:=hid (fun W a3 l3 c3 a4 l4 B hq h1 h2 h3=>aQL (W:=W) (a3:=a3) (l3:=l3) (c3:=c3) (a4:=a4) (l4:=l4) (c4q:=B) a L r1 r2 r3 r4 r5 r6 D A hq M N hz ba hk O c h1 h2 h3);have HT:=hid D;have HB:=hid A;have HG:=hid (show g<wr.heap.size by obtain ⟨_,_,_,_,h,_⟩:=a;exact aAf h);have HA:=hid c;have HW:=hid O;clear a L D A c O hz
   go_wp2_with fail
   refine (SG.out).mono ?_;rintro e T ⟨rfl,s⟩
   rcases Int.lt_or_le 0 b with hqp | hqp
   ·have H:Nm.cmp b 0=1:=Nm.aAt hqp;rw [H];have n:=Chg.aAi s;have r:=HT.out.chg n (by simp);have d:=HB.out.chg n (by simp);have v0:T.cell? ⟨tb,0,none⟩=some (.bool (decide (f<0))):=aAa r.1 rfl;have v1:T.cell? ⟨tb,1,none⟩=some (.slice b1 m1 n1):=aAa r.1 rfl;have y0:T.cell? ⟨bb,0,none⟩=some (.bool (decide (b<0))):=aAa d.1 rfl;have y1:T.cell? ⟨bb,1,none⟩=some (.slice b2 m2 n2):=aAa d.1 rfl;have DV:=hid (aDw T f b _ _ 7000 (aDh r.2) (aDh d.2) M N (by decide) hqp);have C1:=hid n;clear s n r d
    go_wp2_with fail
    refine (DV.out).mono ?_;rintro e i ⟨qv,rv,rfl,U,X,C⟩;obtain ⟨a3,l3,c3,rfl,P⟩:=aJ8 U;obtain ⟨a4,l4,B,rfl,R⟩:=aJ8 X;have cA:Chg i (i.alloc (.cells #[.bool (decide (f/b<0)),.slice a3 l3 c3] 80)) []:=Chg.alloc _ _;have cB:Chg (i.alloc (.cells #[.bool (decide (f/b<0)),.slice a3 l3 c3] 80)) ((i.alloc (.cells #[.bool (decide (f/b<0)),.slice a3 l3 c3] 80)).alloc (.cells #[.bool (decide (f%b<0)),.slice a4 l4 B] 80)) []:=Chg.alloc _ _;have cW:=(C1.out.trans (Chg.aAi C)).trans (cA.trans cB);obtain ⟨v',m,ha,S,E,F,a8,t,u⟩:=ST.out _ a3 l3 c3 a4 l4 B hqp cW (aAm (cA.trans cB).on P) (aAm (cA.trans cB).on R);have b7:wr.heap.size<=i.heap.size:=(C1.out.trans (Chg.aAi C)).on.size;have b8:=HG.out
    have h9:m.heap[i.heap.size+1]?=some (.cells #[.bool (decide (f%b<0)),.slice a4 l4 B] 80 (0,0)):=by
     rw [t _ (by simp) (by omega)];have:=aAr (i.alloc (.cells #[.bool (decide (f/b<0)),.slice a3 l3 c3] 80)) (.cells #[.bool (decide (f%b<0)),.slice a4 l4 B] 80);rw [show (i.alloc (.cells #[.bool (decide (f/b<0)),.slice a3 l3 c3] 80)).heap.size=i.heap.size+1 by simp] at this;exact this
    have z0:=aAa (o:=0) h9 rfl;have z1:=aAa (o:=1) h9 rfl;have e0:m.cell? ⟨tb,0,none⟩=some (.bool (decide (f<0))):=aAa E.1 rfl;have e1:m.cell? ⟨tb,1,none⟩=some (.slice b1 m1 n1):=aAa E.1 rfl;have f0:m.frozen? ⟨tb,0,none⟩=false:=aAb E.1;have f1:m.frozen? ⟨tb,1,none⟩=false:=aAb E.1;have g0:m.cell? ⟨bb,0,none⟩=some (.bool (decide (b<0))):=aAa F.1 rfl;have g1:m.cell? ⟨bb,1,none⟩=some (.slice b2 m2 n2):=aAa F.1 rfl;have j0:m.frozen? ⟨bb,0,none⟩=false:=aAb F.1;have j1:m.frozen? ⟨bb,1,none⟩=false:=aAb F.1
    have b9:i.heap.size+1≠tb:=by have:=aAf HT.out.1;omega
    have bj:i.heap.size+1≠bb:=by have:=aAf HB.out.1;omega
    rw [show ((i.alloc (.cells #[.bool (decide (f/b<0)),.slice a3 l3 c3] 80)).alloc (.cells #[.bool (decide (f%b<0)),.slice a4 l4 B] 80)).heap.size=i.heap.size+1+1 by simp] at ha;have aq:=hid ha;clear t0 t1 u0 u1 v0 v1 y0 y1 SG ST;have ar:=hid u;have au:=hid S;clear S;have NT:=hid E;have NB:=hid F;clear U X C cA cB cW ha E F a8 t u h9 P R
    go_wp2_with (at_builtin;refine aFX rfl _ _ 87 rfl _ _ rfl rfl v' m aq.out ?_)
    go_roundw
    case rel=>exact ar.out _ _ (setw rfl NT.out.1) (setw rfl ((NB.out.chg ((setw rfl NT.out.1).chg NT.out.1) (by simpa using Ne.symm r3)).1))
    case measure=>
     rw [au.out];show k-(j.length+1)<k-j.length;omega
   ·have H:¬0<Nm.cmp b 0:=by
     have:b=0:=by omega
     rw [Nm.aAz this];decide
    have HE:=hid (show termsF k p q=j by
     rw [HA.out,show k-j.length=(k-j.length-1)+1 by omega,termsF,if_neg (by omega)]
     simp)
    have I:=hid s;clear s t0 t1 u0 u1 SG ST HT HB HG HA;have J:Nm.cmp b 0=0:=Nm.aAz (by omega);rw [J]
    go_wp2_with fail
    go_ret
    rw [HE.out];obtain ⟨ao,bn,hl,a9⟩:=Y.out;exact ⟨_,rfl,aMZ Y.out (Chg.aAi I.out),HW.out.trans (Chg.aAi I.out)⟩
  ·have aj:¬(j.length:Int)<k:=by omega
   have Y:=hid (aIC a L hz);have HA:=hid (show termsF k p q=j by rw [c,show k-j.length=0 by omega];simp [termsF]);have HW:=hid O;clear a L D A c O
   go_wp2_with fail
   go_ret
   rw [HA.out];exact ⟨_,rfl,Y.out,HW.out⟩
open Go
section
variable {P:Program} {ops:Array Oper} {Q:Exit->Act->World->Prop} {md:Region.Mode} {S:World->Prop} {D:Nat->Bool}
def wpAnyE (P:Program)(md:Region.Mode)(ops:Array Oper)(Q:Exit->Act->World->Prop)(S:World->Prop)(D:Nat->Bool):Nat->Array Bool->Act->World->Prop
 | 0,listed,a,w=>Region.ready md ops listed=[]/\Q .normal a w
 | fuel+1,listed,a,w=>
  (Region.ready md ops listed=[]->Q .normal a w)/\
  ∀ i∈Region.ready md ops listed,wpOp P ops Q i (fun a' w'=>(D i=true->S w')/\wpAnyE P md ops Q S D fuel (listed.setIfInBounds i true) a' w') a w
theorem aFW:∀ (fuel:Nat) (listed:Array Bool) (a:Act) (w:World),wpAnyE P md ops Q S D fuel listed a w->wpAny P md ops Q fuel listed a w
 | 0,_,_,_,h=>h
 | fuel+1,_,_,_,h=>⟨h.1,fun i hi=>wpOp_mono (fun a' w' h'=>aFW fuel _ a' w' h'.2) (h.2 i hi)⟩
def waitB (md:Region.Mode)(ops:Array Oper)(D:Nat->Bool)(i:Nat):Bool:=(List.range ops.size).all fun j=>D j||(match ops[j]? with
 | some o=>o.after.any fun e=>Region.binds md e&&e.on==i
 | none=>true)
theorem aK0 {i:Nat}(h:waitB md ops D i=true)(j:Nat)(b:Oper)(c:ops[j]?=some b)(l:∀ e∈b.after,Region.binds md e=true->e.on≠i):D j=true:=by
 have a:j<ops.size:=(Array.getElem?_eq_some_iff.1 c).1;have:=List.all_eq_true.1 h j (List.mem_range.2 a);rw [c] at this
 rcases Bool.or_eq_true _ _ ▸ this with h1 | h1
 ·exact h1
 ·exfalso;simp only [Array.any_eq_true,Bool.and_eq_true,beq_iff_eq] at h1;obtain ⟨k,d,f,g⟩:=h1;exact l _ (Array.getElem_mem d) f g
theorem aRb {i j:Nat}{a:Array Bool}{k:Oper}(r:i∈Region.ready md ops a)(s:j∈Region.ready md ops a)(t:ops[j]?=some k):∀ e∈k.after,Region.binds md e=true->e.on≠i:=by
 intro e p q h;obtain ⟨_,o,g,f⟩:=mem_ready.1 s;obtain rfl:k=o:=Option.some.inj (t.symm.trans g);have d:=f e p q;have c:=(mem_ready.1 r).1;rw [h,Array.getD_eq_getD_getElem?] at d;rw [Array.getD_eq_getD_getElem?] at c
 cases m:a[i]? with
 | none=>rw [m] at d;cases d
 | some b=>
  rw [m] at d c;have n:b=true:=d;have l:b=false:=c;rw [n] at l;cases l
def Fr (md:Region.Mode)(ops:Array Oper)(i:Nat)(oi:Oper)(listed:Array Bool):Prop:=
 ∀ j oj,ops[j]?=some oj->j≠i->listed.getD j true=false->(∀ e∈oj.after,Region.binds md e=true->e.on≠i)->oi.apart ops oj=true
theorem Fr.set {i:Nat}{g:Oper}{a:Array Bool}(h:Fr md ops i g a)(j:Nat)(l:a.getD j true=false):Fr md ops i g (a.setIfInBounds j true):=by
 intro k e f b d c
 rcases Nat.decEq j k with ne | rfl
 ·exact h k e f b ((getD_set_ne true ne).symm.trans d) c
 ·exact h j e f b l c
theorem aH4 {i:Nat}{m:Oper}{v:Value}(C:waitB md ops D i=true)(z:ops[i]?=some m)(k:∀ (j:Nat) (o:Oper) cs b,ops[j]?=some o->o.op≠.select cs b)
  (E:∀ c a w,Q (.panic c) (a.put m.dst v) w->Q (.panic c) a w) (d:Nat):∀ (listed:Array Bool) (a:Act) (w:World),
   Fr md ops i m listed->i∈Region.ready md ops listed->YieldsIf P ops S m v a->S w->
   wpAnyE P md ops Q S D d (listed.setIfInBounds i true) (a.put m.dst v) w->wpAnyE P md ops Q S D (d+1) listed a w:=by
 induction d with
 | zero=>
  intro listed a w _ l t q H;constructor
  ·intro x;rw [x] at l;exact absurd l (by simp)
  ·intro j r
   rcases Nat.decEq j i with ne | rfl
   ·have:=ready_mono r ne;rw [H.1] at this;exact absurd this (by simp)
   ·exact t.wpOp z q ⟨fun _=>q,H⟩
 | succ d ih=>
  intro listed a w f l t q H;constructor
  ·intro x;rw [x] at l;exact absurd l (by simp)
  ·intro j r
   rcases Nat.decEq j i with ne | rfl
   ·obtain ⟨h,u,e,_⟩:=mem_ready.1 r;have g:=aRb l r e;have n:=wpOp_putIf e (f j u e ne h g) (fun cs b=>k i m cs b z) (fun cs b=>k j u cs b e) E t (H.2 j (ready_mono r ne));refine wpOp_mono ?_ n;rintro A B ⟨y,s,p⟩;refine ⟨s,ih _ A B (f.set j h) (ready_mono l (Ne.symm ne)) y (s (aK0 C j u e g)) ?_⟩;rw [Array.setIfInBounds_comm _ _ ne];exact p
   ·exact t.wpOp z q ⟨fun _=>q,H⟩
theorem aBO {i:Nat}{oi:Oper}{v:Value}{fuel:Nat}{listed:Array Bool}{a:Act}{w:World}(hi:ops[i]?=some oi)(hD:waitB md ops D i=true)
  (hs:Region.noSelect ops=true) (hf:Region.free md ops listed i=true) (hr:(Region.ready md ops listed).contains i=true)
  (hQ:∀ c a w,Q (.panic c) (a.put oi.dst v) w->Q (.panic c) a w) (hy:YieldsIf P ops S oi v a) (hS:S w)
  (h:wpAnyE P md ops Q S D fuel (listed.setIfInBounds i true) (a.put oi.dst v) w):wpAnyE P md ops Q S D (fuel+1) listed a w:=
 aH4 hD hi (Region.noSelect_spec hs) hQ fuel listed a w (Region.free_spec hi hf) (by simpa using hr) hy hS h
theorem aDo {i:Nat}{o:Oper}{c:Nat}{b:Array Bool}{a:Act}{w:World}(d:Region.ready md ops b=[i])(e:ops[i]?=some o)
  (h:∀ K':Act->World->Prop,Shut (∀ a w,(D i=true->S w)->wpAnyE P md ops Q S D c (b.setIfInBounds i true) a w->K' a w)->if Region.wanted o (yielded ops a.tmps)=true then Oper.wp P o a w K' Q else K' (a.put o.dst undef) w):
  wpAnyE P md ops Q S D (c+1) b a w:=by
 refine ⟨(fun h0=>by rw [d] at h0;cases h0),fun j hj=>?_⟩;rw [d] at hj;obtain rfl:=List.mem_singleton.1 hj;exact wpOp_step e (fun K' hK=>h K' (fun a w hS hW=>hK a w ⟨hS,hW⟩))
theorem aIU {listed:Array Bool}{a:Act}{w:World}(hr:Region.ready md ops listed=[])(h:Q .normal a w):
  ∀ fuel,wpAnyE P md ops Q S D fuel listed a w
 | 0=>⟨hr,h⟩
 | _+1=>⟨fun _=>h,by rw [hr];simp⟩
theorem aIV {id:Nat}{a:Act}{w:World}(S:World->Prop)(D:Nat->Bool)(hm:P.follows .mixedOrders=true)
  (h:wpAnyE P .any ops Q S D ops.size (Array.replicate ops.size false) a w.drew):(Code.region id ops true).wp P Q a w:=
 wp_region_any hm (aFW _ _ _ _ h)
end
end Go.Proofs.YteghhlfmcjmnoaaGreatDoor
