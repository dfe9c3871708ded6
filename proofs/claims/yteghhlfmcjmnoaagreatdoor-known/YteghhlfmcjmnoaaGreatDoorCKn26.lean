import Derived.Test.YteghhlfmcjmnoaaGreatDoorCKn23
import Derived.Test.YteghhlfmcjmnoaaGreatDoorCKn25
import Derived.Test.YteghhlfmcjmnoaaGreatDoorCKn24
import Derived.Test.YteghhlfmcjmnoaaGreatDoorCards
import Derived.Test.YteghhlfmcjmnoaaGreatDoorTie
import Derived.KernelRfl
import Derived.Laws.IdiomStrings
import Derived.Deep.RegionWith
import Derived.WalkKit
import Derived.ProofKit
import Derived.OpenShut
import Derived.Carry
import Derived.Deep.DeepHandedRow
import Derived.Lib.LaidTab
import Derived.Stop.LaidErr
import Derived.Test.YteghhlfmcjmnoaaGreatDoorCKnZ0
import Derived.Test.YteghhlfmcjmnoaaGreatDoorCKnZ1
import Derived.Test.YteghhlfmcjmnoaaGreatDoorCKnZ2
import Derived.Test.YteghhlfmcjmnoaaGreatDoorCKnZ3
set_option linter.unusedSimpArgs false
set_option linter.unusedVariables false
set_option maxRecDepth 100000
set_option maxHeartbeats 2000000
namespace Go.Proofs.YteghhlfmcjmnoaaGreatDoor
open Go.RowKit
open Ab
open Rf (Wt fuelF)
def decF:Nat->Nat->List UInt8
 | 0,x=>[UInt8.ofNat (48+x)]
 | f+1,x=>if x<10 then [UInt8.ofNat (48+x)] else decF f (x/10)++[UInt8.ofNat (48+x%10)]
theorem aLy:∀ (f x:Nat),x<10^(f+1)->Lib.decDigits x=decF f x
 | 0,x,h=>Lib.decDigits_one (by omega)
 | f+1,x,h=>by
  unfold decF;split
  ·rename_i h';exact Lib.decDigits_one h'
  ·rename_i h';rw [<-aLy f (x/10) (by rw [Nat.pow_succ] at h;omega)]
   conv=>lhs;rw [Lib.decDigits,dif_neg (by omega)]
theorem aJf:∀ (f x:Nat),(decF f x).length<=f+1
 | 0,x=>Nat.le_refl _
 | f+1,x=>by
  unfold decF;split
  ·simp
  ·have:=aJf f (x/10);simp;omega
def textF (z:Int):List UInt8:=(bif decide (z<0) then [45] else [])++decF 20 z.natAbs
theorem aJZ {z:Int}(h:z.natAbs<1000000000000000000000):Nm.text z=textF z:=by
 unfold Nm.text textF;rw [aLy 20 z.natAbs h]
theorem aNp (z:Int):(textF z).length<=22:=by
 unfold textF;have:=aJf 20 z.natAbs
 cases decide (z<0)<;>simp<;>omega
theorem aOr (d:Int):numT d=Nm.text d:=by
 unfold numT Nm.text Rd.dec
 by_cases h:d<0
 ·rw [if_pos h,show (-d).toNat=d.natAbs by omega,decide_eq_true h];rfl
 ·rw [if_neg h,show d.toNat=d.natAbs by omega,decide_eq_false h];rfl
theorem aJm {f g:Nat->List UInt8}:∀ n,(∀ i,i<n->f i=g i)->joinN f n=joinN g n
 | 0,_=>rfl
 | n+1,h=>by
  unfold joinN;rw [aJm n (fun i hi=>h i (by omega)),h n (by omega)]
theorem TxsOf.at:∀ {ts:List Int} {ss:List ByteArray},TxsOf ts ss->∀ i,i<ts.length->strAt ss i=Nm.text (ts.getD i 0)
 | _::_,_::_,⟨h,_⟩,0,_=>h.eq
 | _::ts,_::ss,⟨_,h⟩,i+1,hi=>TxsOf.at h i (by simpa using hi)
 | [],_,_,i,hi=>by simp at hi
 | _::_,[],h,_,_=>h.elim
def joinF (ts:List Int):List UInt8:=joinN (fun i=>textF (ts.getD i 0)) ts.length
theorem aOe {ts:List Int}{a:List ByteArray}(h:TxsOf ts a)(j:∀ i,(ts.getD i 0).natAbs<1000000000000000000000):joinN (strAt a) a.length=joinF ts/\∀ s∈a,s.size<=10000:=by
 have d:=h.len
 have c:∀ i,i<ts.length->strAt a i=textF (ts.getD i 0):=fun i b=>by rw [h.at i b,aJZ (j i)]
 refine ⟨by rw [d];exact aJm _ c,fun s hs=>?_⟩;obtain ⟨i,b,rfl⟩:=List.getElem_of_mem hs;have e:=c i (by omega)
 have f:(a[i]).data.toList=textF (ts.getD i 0):=by
  rw [<-e];unfold strAt;simp [List.getD,b]
 have g:=aNp (ts.getD i 0);rw [<-f] at g
 have k:(a[i]).data.toList.length=(a[i]).size:=by rw [Array.length_toList];rfl
 omega
abbrev Lot:Type:=ByteArray×Nat×Int×ByteArray
def whoB (n:Nat)(tm:ByteArray):Bool:=(decide (0<n)&&decide (tm.data.toList=[48]))||decide (tm.data.toList=[49])
def lotC (n:Nat)(d:Int)(tm:ByteArray)(m:Int):Bool:=decide (m=d)||(decide (m=d+1)&&decide (textF m≠textF d))||(decide (m=d-1)&&decide (textF m≠textF d)&&decide (textF m≠textF (d+1))&&whoB n tm)
def smallB (z:Int):Bool:=decide (z.natAbs<100000000000000000)
def lotB (x:Lot)(m:Int)(ts:List Int):Bool:=decide (0<x.2.1)&&decide (x.2.1<=60)&&smallB x.2.2.1&&smallB m&&ts.all smallB&&decide (0<ts.length)&&decide (ts.length<=7)&&lotC x.2.1 x.2.2.1 x.2.2.2 m&&decide (joinF ts=x.2.2.2.data.toList)
def LotOk (x:Lot):Prop:=∃ T u m ts,Rd.read 1300 x.1=some (some T,0,0)/\x.1.size<=120/\planT T=some u/\Rd.Wf T/\Rd.cnt T<=40/\decT u x.2.1 3000=some m/\terA u 7 3000=some ts/\lotB x m ts=true
def lotR (x:ByteArray)(u:Wt):Bool:=
 match Rd.read 1300 x with
 | some (some T,e,a)=>e==0&&a==0&&decide (x.size<=120)&&(match planT T with | some v=>wtEq v u | none=>false)
 | _=>false
theorem aA3 {x:Lot}{u:Wt}{m:Int}{ts zs:List Int}{j:Nat}(c:lotR x.1 u=true)(o:j<=3000)(k:Rf.C.symsW u (fuelF u) j 3000=zs)(p:decZ (x.2.1:Nat) zs 1 0 0 1=some m)(d:terA u 7 3000=some ts\/isFr u=false/\terZ 7 100 zs 1 0 0 1 []=some ts)(q:lotB x m ts=true):LotOk x:=by
 unfold lotR at c;split at c
 ·rename_i T e a h;simp only [Bool.and_eq_true,beq_iff_eq,decide_eq_true_eq] at c;obtain ⟨⟨⟨rfl,rfl⟩,l⟩,f⟩:=c;split at f
  ·rename_i v i;have:=aR1 f;subst this;obtain ⟨g,_,n⟩:=Rd.aOC (aJP _ _ 0) h;have b:v.Ok:=(aFm T v g (by omega) i).1;refine ⟨T,v,m,ts,h,l,i,g,n,aQw b o k p,?_,q⟩
   rcases d with d | ⟨hf,d⟩
   ·exact d
   ·rw [aNl hf];exact aRG b (by decide) k d
  ·cases f
 ·cases c
def lotTab:List Lot:=[
 (⟨#[112,105]⟩,15,3141592653589793,⟨#[51,32,55,32,49,53,32,49,32,50,57,50,32,49,32,49]⟩),
 (⟨#[101]⟩,15,2718281828459045,⟨#[50,32,49,32,50,32,49,32,49,32,52,32,49]⟩),
 (⟨#[99,102,91,49,59,32,49,93]⟩,12,1618033988749,⟨#[49,32,49,32,49,32,49,32,49,32,49,32,49]⟩),
 (⟨#[99,102,91,49,59,32,50,93]⟩,12,1414213562373,⟨#[49,32,50,32,50,32,50,32,50,32,50,32,50]⟩),
 (⟨#[115,113,114,116,40,50,41]⟩,15,1414213562373095,⟨#[49,32,50,32,50,32,50,32,50,32,50,32,50]⟩),
 (⟨#[115,113,114,116,40,51,41]⟩,12,1732050807568,⟨#[49,32,49,32,50,32,49,32,50,32,49,32,50]⟩),
 (⟨#[115,113,114,116,40,49,48,48,48,41]⟩,9,31622776601,⟨#[51,49,32,49,32,49,32,49,32,49,32,49,32,54]⟩),
 (⟨#[115,113,114,116,40,112,105,41]⟩,9,1772453850,⟨#[49,32,49,32,51,32,50,32,49,32,49,32,54]⟩),
 (⟨#[101,120,112,40,49,41]⟩,12,2718281828459,⟨#[50,32,49,32,50,32,49,32,49,32,52,32,49]⟩),
 (⟨#[101,120,112,40,112,105,41]⟩,6,23140692,⟨#[50,51,32,55,32,57,32,51,32,49,32,49,32,53,57,49]⟩),
 (⟨#[49,47,101,120,112,40,49,41]⟩,12,367879441171,⟨#[48,32,50,32,49,32,50,32,49,32,49,32,52]⟩),
 (⟨#[108,110,49,112,40,49,41]⟩,12,693147180559,⟨#[48,32,49,32,50,32,51,32,49,32,54,32,51]⟩),
 (⟨#[108,110,49,112,40,57,41]⟩,9,2302585092,⟨#[50,32,51,32,51,32,51,32,49,32,49,32,51]⟩),
 (⟨#[97,116,97,110,40,49,41]⟩,12,785398163397,⟨#[48,32,49,32,51,32,49,32,49,32,49,32,49,53]⟩),
 (⟨#[52,42,97,116,97,110,40,49,41]⟩,9,3141592653,⟨#[51,32,55,32,49,53,32,49,32,50,57,50,32,49,32,49]⟩),
 (⟨#[49,54,42,97,116,97,110,40,49,47,53,41,32,45,32,52,42,97,116,97,110,40,49,47,50,51,57,41]⟩,9,3141592653,⟨#[51,32,55,32,49,53,32,49,32,50,57,50,32,49,32,49]⟩),
 (⟨#[112,105,32,45,32,50,50,47,55]⟩,9,(-1264490),⟨#[45,49,32,49,32,55,56,57,32,49,32,52,32,49,32,49,51,51]⟩),
 (⟨#[101,120,112,40,108,110,49,112,40,112,105,41,41]⟩,6,4141592,⟨#[52,32,55,32,49,53,32,49,32,50,57,50,32,49,32,49]⟩),
 (⟨#[40,49,32,43,32,115,113,114,116,40,53,41,41,47,50]⟩,9,1618033988,⟨#[49,32,49,32,49,32,49,32,49,32,49,32,49]⟩),
 (⟨#[112,105,42,112,105,47,54]⟩,9,1644934066,⟨#[49,32,49,32,49,32,49,32,52,32,50,32,52]⟩),
 (⟨#[115,113,114,116,40,115,113,114,116,40,50,41,41]⟩,9,1189207115,⟨#[49,32,53,32,51,32,49,32,49,32,52,48,32,53]⟩),
 (⟨#[51,53,53,47,49,49,51]⟩,9,3141592920,⟨#[51,32,55,32,49,54]⟩),
 (⟨#[45,55,47,51]⟩,6,(-2333334),⟨#[45,51,32,49,32,50]⟩),
 (⟨#[48,47,53]⟩,6,0,⟨#[48]⟩),
 (⟨#[101,120,112,40,48,41,32,43,32,115,113,114,116,40,48,41,32,43,32,97,116,97,110,40,48,41]⟩,6,1000000,⟨#[49]⟩),
 (⟨#[49,47,51,32,43,32,49,47,54,32,45,32,49,47,50]⟩,6,0,⟨#[48]⟩)]
def lotAt (i:Nat):Lot:=lotTab.getD i (⟨#[]⟩,0,0,⟨#[]⟩)
theorem lot0:LotOk (lotAt 0):=aA3 (x:=lotAt 0) (u:=.con .pi []) (m:=3141592653589793) (ts:=[3,7,15,1,292,1,1]) (by kernel_rfl) (by decide) lz0 (by kernel_rfl) (Or.inr ⟨rfl,by kernel_rfl⟩) (by kernel_rfl)
theorem lot1:LotOk (lotAt 1):=aA3 (x:=lotAt 1) (u:=.con .e []) (m:=2718281828459045) (ts:=[2,1,2,1,1,4,1]) (by kernel_rfl) (by decide) lz1 (by kernel_rfl) (Or.inr ⟨rfl,by kernel_rfl⟩) (by kernel_rfl)
theorem lot2:LotOk (lotAt 2):=aA3 (x:=lotAt 2) (u:=.con .cf [1,1]) (m:=1618033988750) (ts:=[1,1,1,1,1,1,1]) (by kernel_rfl) (by decide) lz2 (by kernel_rfl) (Or.inr ⟨rfl,by kernel_rfl⟩) (by kernel_rfl)
theorem lot3:LotOk (lotAt 3):=aA3 (x:=lotAt 3) (u:=.con .cf [1,2]) (m:=1414213562373) (ts:=[1,2,2,2,2,2,2]) (by kernel_rfl) (by decide) lz3 (by kernel_rfl) (Or.inr ⟨rfl,by kernel_rfl⟩) (by kernel_rfl)
theorem lot4:LotOk (lotAt 4):=aA3 (x:=lotAt 4) (u:=.fn .sqrt (.fr 2 1)) (m:=1414213562373095) (ts:=[1,2,2,2,2,2,2]) (by kernel_rfl) (by decide) lz4 (by kernel_rfl) (Or.inr ⟨rfl,by kernel_rfl⟩) (by kernel_rfl)
theorem lot5:LotOk (lotAt 5):=aA3 (x:=lotAt 5) (u:=.fn .sqrt (.fr 3 1)) (m:=1732050807569) (ts:=[1,1,2,1,2,1,2]) (by kernel_rfl) (by decide) lz5 (by kernel_rfl) (Or.inr ⟨rfl,by kernel_rfl⟩) (by kernel_rfl)
theorem lot6:LotOk (lotAt 6):=aA3 (x:=lotAt 6) (u:=.fn .sqrt (.fr 1000 1)) (m:=31622776601) (ts:=[31,1,1,1,1,1,6]) (by kernel_rfl) (by decide) lz6 (by kernel_rfl) (Or.inr ⟨rfl,by kernel_rfl⟩) (by kernel_rfl)
theorem lot7:LotOk (lotAt 7):=aA3 (x:=lotAt 7) (u:=.fn .sqrt (.con .pi [])) (m:=1772453851) (ts:=[1,1,3,2,1,1,6]) (by kernel_rfl) (by decide) lz7 (by kernel_rfl) (Or.inr ⟨rfl,by kernel_rfl⟩) (by kernel_rfl)
theorem lot8:LotOk (lotAt 8):=aA3 (x:=lotAt 8) (u:=.fn .exp (.fr 1 1)) (m:=2718281828459) (ts:=[2,1,2,1,1,4,1]) (by kernel_rfl) (by decide) lz8 (by kernel_rfl) (Or.inr ⟨rfl,by kernel_rfl⟩) (by kernel_rfl)
theorem lot9:LotOk (lotAt 9):=aA3 (x:=lotAt 9) (u:=.fn .exp (.con .pi [])) (m:=23140693) (ts:=[23,7,9,3,1,1,591]) (by kernel_rfl) (by decide) lz9 (by kernel_rfl) (Or.inr ⟨rfl,by kernel_rfl⟩) (by kernel_rfl)
theorem lot10:LotOk (lotAt 10):=aA3 (x:=lotAt 10) (u:=.two .div (.fr 1 1) (.fn .exp (.fr 1 1))) (m:=367879441171) (ts:=[0,2,1,2,1,1,4]) (by kernel_rfl) (by decide) lz10 (by kernel_rfl) (Or.inr ⟨rfl,by kernel_rfl⟩) (by kernel_rfl)
theorem lot11:LotOk (lotAt 11):=aA3 (x:=lotAt 11) (u:=.fn .ln1p (.fr 1 1)) (m:=693147180560) (ts:=[0,1,2,3,1,6,3]) (by kernel_rfl) (by decide) lz11 (by kernel_rfl) (Or.inr ⟨rfl,by kernel_rfl⟩) (by kernel_rfl)
theorem lot12:LotOk (lotAt 12):=aA3 (x:=lotAt 12) (u:=.fn .ln1p (.fr 9 1)) (m:=2302585093) (ts:=[2,3,3,3,1,1,3]) (by kernel_rfl) (by decide) lz12 (by kernel_rfl) (Or.inr ⟨rfl,by kernel_rfl⟩) (by kernel_rfl)
theorem lot13:LotOk (lotAt 13):=aA3 (x:=lotAt 13) (u:=.fn .atan (.fr 1 1)) (m:=785398163398) (ts:=[0,1,3,1,1,1,15]) (by kernel_rfl) (by decide) lz13 (by kernel_rfl) (Or.inr ⟨rfl,by kernel_rfl⟩) (by kernel_rfl)
theorem lot14:LotOk (lotAt 14):=aA3 (x:=lotAt 14) (u:=.two .mul (.fr 4 1) (.fn .atan (.fr 1 1))) (m:=3141592654) (ts:=[3,7,15,1,292,1,1]) (by kernel_rfl) (by decide) lz14 (by kernel_rfl) (Or.inr ⟨rfl,by kernel_rfl⟩) (by kernel_rfl)
theorem lot15:LotOk (lotAt 15):=aA3 (x:=lotAt 15) (u:=.two .sub (.two .mul (.fr 16 1) (.fn .atan (.fr 1 5))) (.two .mul (.fr 4 1) (.fn .atan (.fr 1 239)))) (m:=3141592654) (ts:=[3,7,15,1,292,1,1]) (by kernel_rfl) (by decide) lz15 (by kernel_rfl) (Or.inr ⟨rfl,by kernel_rfl⟩) (by kernel_rfl)
theorem lot16:LotOk (lotAt 16):=aA3 (x:=lotAt 16) (u:=.two .sub (.con .pi []) (.fr 22 7)) (m:=(-1264489)) (ts:=[-1,1,789,1,4,1,133]) (by kernel_rfl) (by decide) lz16 (by kernel_rfl) (Or.inr ⟨rfl,by kernel_rfl⟩) (by kernel_rfl)
theorem lot17:LotOk (lotAt 17):=aA3 (x:=lotAt 17) (u:=.fn .exp (.fn .ln1p (.con .pi []))) (m:=4141593) (ts:=[4,7,15,1,292,1,1]) (by kernel_rfl) (by decide) lz17 (by kernel_rfl) (Or.inr ⟨rfl,by kernel_rfl⟩) (by kernel_rfl)
theorem lot18:LotOk (lotAt 18):=aA3 (x:=lotAt 18) (u:=.two .div (.two .add (.fr 1 1) (.fn .sqrt (.fr 5 1))) (.fr 2 1)) (m:=1618033989) (ts:=[1,1,1,1,1,1,1]) (by kernel_rfl) (by decide) lz18 (by kernel_rfl) (Or.inr ⟨rfl,by kernel_rfl⟩) (by kernel_rfl)
theorem lot19:LotOk (lotAt 19):=aA3 (x:=lotAt 19) (u:=.two .div (.two .mul (.con .pi []) (.con .pi [])) (.fr 6 1)) (m:=1644934067) (ts:=[1,1,1,1,4,2,4]) (by kernel_rfl) (by decide) lz19 (by kernel_rfl) (Or.inr ⟨rfl,by kernel_rfl⟩) (by kernel_rfl)
theorem lot20:LotOk (lotAt 20):=aA3 (x:=lotAt 20) (u:=.fn .sqrt (.fn .sqrt (.fr 2 1))) (m:=1189207115) (ts:=[1,5,3,1,1,40,5]) (by kernel_rfl) (by decide) lz20 (by kernel_rfl) (Or.inr ⟨rfl,by kernel_rfl⟩) (by kernel_rfl)
theorem lot21:LotOk (lotAt 21):=aA3 (x:=lotAt 21) (u:=.fr 355 113) (m:=3141592920) (ts:=[3,7,16]) (by kernel_rfl) (by decide) lz21 (by kernel_rfl) (Or.inl (congrArg some (by kernel_rfl))) (by kernel_rfl)
theorem lot22:LotOk (lotAt 22):=aA3 (x:=lotAt 22) (u:=.fr (-7) 3) (m:=(-2333333)) (ts:=[-3,1,2]) (by kernel_rfl) (by decide) lz22 (by kernel_rfl) (Or.inl (congrArg some (by kernel_rfl))) (by kernel_rfl)
theorem lot23:LotOk (lotAt 23):=aA3 (x:=lotAt 23) (u:=.fr 0 1) (m:=1) (ts:=[0]) (by kernel_rfl) (by decide) lz23 (by kernel_rfl) (Or.inl (congrArg some (by kernel_rfl))) (by kernel_rfl)
theorem lot24:LotOk (lotAt 24):=aA3 (x:=lotAt 24) (u:=.fr 1 1) (m:=999999) (ts:=[1]) (by kernel_rfl) (by decide) lz24 (by kernel_rfl) (Or.inl (congrArg some (by kernel_rfl))) (by kernel_rfl)
theorem lot25:LotOk (lotAt 25):=aA3 (x:=lotAt 25) (u:=.fr 0 1) (m:=1) (ts:=[0]) (by kernel_rfl) (by decide) lz23 (by kernel_rfl) (Or.inl (congrArg some (by kernel_rfl))) (by kernel_rfl)
theorem aQZ:∀ i,i<26->LotOk (lotAt i)
 | 0,_=>lot0
 | 1,_=>lot1
 | 2,_=>lot2
 | 3,_=>lot3
 | 4,_=>lot4
 | 5,_=>lot5
 | 6,_=>lot6
 | 7,_=>lot7
 | 8,_=>lot8
 | 9,_=>lot9
 | 10,_=>lot10
 | 11,_=>lot11
 | 12,_=>lot12
 | 13,_=>lot13
 | 14,_=>lot14
 | 15,_=>lot15
 | 16,_=>lot16
 | 17,_=>lot17
 | 18,_=>lot18
 | 19,_=>lot19
 | 20,_=>lot20
 | 21,_=>lot21
 | 22,_=>lot22
 | 23,_=>lot23
 | 24,_=>lot24
 | 25,_=>lot25
 | i+26,h=>by omega
open Go.RowKit
open Ab
open Rf (Wt fuelF)
def lotVals:List Lot->List Value
 | []=>[]
 | x::l=>.string x.1::.int .i64 (x.2.1:Int)::.int .i64 x.2.2.1::.string x.2.2.2::lotVals l
theorem aFM:∀ (l:List Lot) (i:Nat),i<l.length->(lotVals l)[i*4]?=some (.string (l.getD i (⟨#[]⟩,0,0,⟨#[]⟩)).1)/\(lotVals l)[i*4+1]?=some (.int .i64 ((l.getD i (⟨#[]⟩,0,0,⟨#[]⟩)).2.1:Int))/\(lotVals l)[i*4+2]?=some (.int .i64 (l.getD i (⟨#[]⟩,0,0,⟨#[]⟩)).2.2.1)/\(lotVals l)[i*4+3]?=some (.string (l.getD i (⟨#[]⟩,0,0,⟨#[]⟩)).2.2.2)
 | [],i,h=>by simp at h
 | x::l,0,_=>⟨rfl,rfl,rfl,rfl⟩
 | x::l,i+1,h=>by
  have:=aFM l i (by simpa using h);rw [show (i+1)*4=i*4+4 by omega,show i*4+4+1=i*4+1+4 by omega,show i*4+4+2=i*4+2+4 by omega,show i*4+4+3=i*4+3+4 by omega];exact this
def lotCells:Array Value:=(lotVals lotTab).toArray
theorem aQ0 (w:World):Calls Tryz.prog 18 #[] w fun e w'=>e=.returned (.slice (some ⟨w.heap.size,0,none⟩) 26 26)/\w'=w.alloc (.cells lotCells 37):=by
 go_enter Tryz.func18,Tryz.ntmps18
 go_wp2_with fail
 go_ret
 exact ⟨rfl,by kernel_rfl⟩
open Go.RowKit
open Ab
open Rf (Wt fuelF readK symsT)
open Go.RowKit
open Ab
open Rf (Wt fuelF readK symsT)
open Go.RowKit
open Ab
open Rf (Wt fuelF)
theorem ExAt.of {B:Nat}{w:World}{T:Rd.Tr}{v:Value}(h:ExprAt B w (some T) v)(g:Rd.Wf T)(a:Rd.cnt T<=40):∃ xb,v=.pointer (some ⟨xb,0,none⟩)/\ExAt w xb T:=by
 obtain ⟨b,xb,c,d,_,_,e,f⟩:=h;exact ⟨xb,d,⟨b,c,e,f.2⟩,g,a⟩
open Go.RowKit
open Ab
open Rf (Wt fuelF)
theorem aQY {t a:ByteArray}{n:Nat}{d m:Int}{ts:List Int}(h:lotB (t,n,d,a) m ts=true):0<n/\n<=60/\d.natAbs<100000000000000000/\(∀ i,(ts.getD i 0).natAbs<1000000000000000000000)/\0<ts.length/\ts.length<=7/\(m=d\/(m=d+1/\Nm.text m≠Nm.text d)\/(m=d-1/\Nm.text m≠Nm.text d/\Nm.text m≠Nm.text (d+1)/\(a.data.toList=[48]\/a.data.toList=[49])))/\joinF ts=a.data.toList:=by
 unfold lotB lotC whoB smallB at h;simp only [Bool.and_eq_true,Bool.or_eq_true,decide_eq_true_eq] at h;obtain ⟨⟨⟨⟨⟨⟨⟨⟨k,l⟩,o⟩,v⟩,p⟩,q⟩,r⟩,s⟩,u⟩:=h;have c:Nm.text m=textF m:=aJZ (by omega);have f:Nm.text d=textF d:=aJZ (by omega);have j:Nm.text (d+1)=textF (d+1):=aJZ (by omega);refine ⟨k,l,o,fun i=>?_,q,r,?_,u⟩
 ·by_cases b:i<ts.length
  ·have:=List.all_eq_true.1 p ts[i] (List.getElem_mem b);simp only [decide_eq_true_eq] at this
   have e:ts.getD i 0=ts[i]:=by simp [List.getD,b]
   rw [e];omega
  ·have e:ts.getD i 0=0:=by simp [List.getD,b]
   rw [e];decide
 ·rw [c,f,j]
  rcases s with (h | h) | h
  ·exact Or.inl h
  ·exact Or.inr (Or.inl h)
  ·refine Or.inr (Or.inr ⟨h.1.1.1,h.1.1.2,h.1.2,?_⟩)
   rcases h.2 with g | g
   ·exact Or.inl g.2
   ·exact Or.inr g
theorem aEO {a b:ByteArray}{l:List UInt8}(h:Str a l)(k:Str b l):a=b:=by
 have c:=h.eq;rw [<-k.eq] at c;cases a;cases b;simp only [ByteArray.mk.injEq];exact Array.toList_inj.1 c
theorem aJi {w w':World}{xb:Nat}{T:Rd.Tr}(h:ExAt w xb T)(hb:Below w.heap.size w w'):ExAt w' xb T:=h.keep (Chg.aAi hb)
theorem aMk {w W:World}{i:Nat}(e:i<26)(h:W=w.alloc (.cells lotCells 37)):W.cell? ⟨w.heap.size,i*4,none⟩=some (.string (lotAt i).1)/\W.cell? ⟨w.heap.size,i*4+1,none⟩=some (.int .i64 ((lotAt i).2.1:Int))/\W.cell? ⟨w.heap.size,i*4+2,none⟩=some (.int .i64 (lotAt i).2.2.1)/\W.cell? ⟨w.heap.size,i*4+3,none⟩=some (.string (lotAt i).2.2.2):=by
 obtain ⟨a,b,c,d⟩:=aFM lotTab i e;rw [h];exact ⟨aAa (aAr _ _) (by simpa [lotCells,lotAt] using a),aAa (aAr _ _) (by simpa [lotCells,lotAt] using b),aAa (aAr _ _) (by simpa [lotCells,lotAt] using c),aAa (aAr _ _) (by simpa [lotCells,lotAt] using d)⟩
theorem aLj {a b:ByteArray}{l m:List UInt8}(h:Str a l)(k:Str b m)(c:l≠m):(a.toList==b.toList)=false:=by
 rw [ByteArray.toList_eq,ByteArray.toList_eq,h.eq,k.eq];exact beq_eq_false_iff_ne.2 c
theorem aO8 {tm:ByteArray}(h:tm.data.toList=[48]\/tm.data.toList=[49]):(tm.toList==[48]||tm.toList==[49])=true:=by
 rw [ByteArray.toList_eq]
 rcases h with h | h<;>rw [h]<;>rfl
theorem aDb {w w':World}(h:Below w.heap.size w w'):Below w.heap.size w w'.drew:=⟨h.os,h.tape,h.output,h.size,h.block⟩
theorem aOT {w:World}{v k f:Value}{u:Wt}{ts:List Int}{tm:ByteArray}(h:Calls Tryz.prog 22 #[v,k,f] w (TmS w (terA u 7 3000)))(p:terA u 7 3000=some ts)(q:joinF ts=tm.data.toList)(hs:∀ i,(ts.getD i 0).natAbs<1000000000000000000000)(r:0<ts.length)(s:ts.length<=7):
  Calls Tryz.prog 22 #[v,k,f] w fun e w'=>∃ a5 l5 c5,e=.returned (.tuple #[.slice a5 l5 c5,.int .i64 0])/\Below w.heap.size w w'/\Calls Tryz.prog 23 #[.slice a5 l5 c5] w'.drew fun e w''=>e=.returned (.string tm)/\w''=w'.drew:=by
 refine h.mono ?_;rintro e w' ⟨n,d⟩;rw [p] at d;obtain ⟨a5,l5,c5,j,B,rfl,b,c⟩:=d;obtain ⟨l,m⟩:=aOe c hs;have g:=c.len;refine ⟨a5,l5,c5,rfl,n,?_⟩;have a:=b.drew;rw [<-g] at a;refine (aMd w'.drew _ j B a (by omega) m (by omega)).mono ?_;rintro e w'' ⟨u,rfl,o,rfl⟩;have:u=tm:=aEO o ⟨by rw [l,q]⟩;rw [this];exact ⟨rfl,rfl⟩
theorem aKA (c:Int)(w:World)(hT:Tab w)(h0:-9223372036854775808<=c)(h1:c<=9223372036854775807):
  Calls Tryz.prog 6 #[.int .i64 c] w fun e w'=>e=.returned (.bool true)/\Below w.heap.size w w':=by
 have PK:=hid (fun w=>aOv c 26 w h0 h1 (by decide) (by decide));have U:=aOu c 26 (by decide);have Y:=aQZ (pickI c 26) U
 have cs:=fun W=>aMk (w:=w) (W:=W) U
 generalize hI:pickI c 26=i at*;generalize lotAt i=x at*;obtain ⟨t,n,d,tm⟩:=x;obtain ⟨T,u,m,ts,hr,hs,hp,ae,af,r,H,hb⟩:=Y;obtain ⟨b2,hn,hd,ag,a0,a1,hcase,A⟩:=aQY hb;simp only at cs hr hs r;have HR:=hid (fun w=>aHk 1300 t w (some T,0,0) (by unfold maxLen;omega) hr);have HP:=hid hp;have ao:=hid ae;have ap:=hid af;have CS:=hid cs;have aa:=hid r;have ab:=hid H;have aq:=hid ag;have HJ:=hid A;have N:=hid hcase;have HT:=hid hT
 have bc:(0:Int)<n:=by omega
 have bt:-100000000000000000<d:=by omega
 have bu:d<100000000000000000:=by omega
 have O:(tm.toList==tm.toList)=true:=beq_self_eq_true _;have NM:=hid (fun (y z:Int) (w:World) (e:y=z) (h1:-1000000000000000000<z) (h2:z<1000000000000000000)=>show Calls Tryz.prog 21 #[.int .i64 y] w (StrPost w (Nm.text z)) by rw [e,<-aOr];exact aKL z w h1 h2);clear hr hp ae af cs r H ag A hcase hb hd hT
 go_enter Tryz.func6,Tryz.ntmps6
 go_wp2_with fail
 refine (aQ0 w).mono ?_;rintro e W ⟨rfl,hW⟩;obtain ⟨e0,e1,e2,e3⟩:=CS.out W hW;have ad:=hid (show Below w.heap.size w W by rw [hW];exact (Below.refl _ _).alloc (Nat.le_refl _) _);clear hW
 go_wp2_with fail
 refine (PK.out _).mono ?_;rintro e w1 ⟨rfl,rfl⟩
 go_wp2_with fail
 have l:∀ w',Below (W.alloc (.cells #[.string t,.int .i64 (n:Int),.int .i64 d,.string tm] 37)).heap.size (W.alloc (.cells #[.string t,.int .i64 (n:Int),.int .i64 d,.string tm] 37)) w'->w'.cell? ⟨W.heap.size,1,none⟩=some (.int .i64 (n:Int))/\w'.cell? ⟨W.heap.size,2,none⟩=some (.int .i64 d)/\w'.cell? ⟨W.heap.size,3,none⟩=some (.string tm):=by
  intro w' hb;have hk:w'.heap[W.heap.size]?=some (.cells #[.string t,.int .i64 (n:Int),.int .i64 d,.string tm] 37 (0,0)):=(hb.block _ (by simp)).trans (aAr _ _);exact ⟨aAa hk rfl,aAa hk rfl,aAa hk rfl⟩
 have g:=hid (ad.out.alloc ad.out.size (.cells #[.string t,.int .i64 (n:Int),.int .i64 d,.string tm] 37));have D:=hid l;clear l e0 e1 e2 e3;generalize hX:W.alloc (.cells #[.string t,.int .i64 (n:Int),.int .i64 d,.string tm] 37)=X at*;clear hX;refine (HR.out _).mono ?_;rintro e w2 ⟨v,rfl,hv,F⟩;obtain ⟨xb,rfl,hx⟩:=ExAt.of hv ao.out ap.out;obtain ⟨I,J,L⟩:=D.out w2 F;have HX:=hid hx;have au:=hid F;have DC:=hid (aHf w2 xb T u n 3000 hx HP.out hn (by decide) (Lib.tabBelow_of_tabIs HT.out _ (aAB g.out F)));clear hv hx F
 go_wp2_with fail
 refine (DC.out).mono ?_;rintro e w3 ⟨P,he⟩;rw [aa.out] at he;obtain ⟨s,rfl,ah⟩:=he;have a:=hid (aAB au.out (aCW P));obtain ⟨I,J,L⟩:=D.out w3 a.out;have av:=hid (aJi HX.out (aCW P));have S:=hid ah;clear P ah
 go_wp2_with fail
 all_goals
  refine (NM.out _ d _ rfl (by omega) (by omega)).mono ?_;rintro e w4 ⟨u1,rfl,k,R⟩;have o:=hid R;obtain ⟨I,J,L⟩:=D.out w4 (aAB a.out R);clear R;have TS:=hid (fun w6 (hb:Below w3.heap.size w3 w6)=>aOT (aKY w6 xb T u 7 3000 (aJi av.out hb) HP.out (by decide) (by decide) (Lib.tabBelow_of_tabIs HT.out _ (aAB g.out (aAB a.out hb)))) ab.out HJ.out aq.out a0 a1)
  rcases N.out with hA | ⟨hB1,hB2⟩ | ⟨hC1,hC2,hC3,hC4⟩
  ·have p:u1=s:=aEO k (hA ▸ S.out);subst p;clear k
   go_wp2_with fail
   refine (TS.out _ (o.out)).mono ?_;rintro e w7 ⟨a5,l5,c5,rfl,f,M⟩;obtain ⟨I,J,L⟩:=D.out w7 (aAB (aAB a.out (o.out)) f);have h:=hid (aAB g.out (aAB (aAB a.out (o.out)) f));have q:=hid M;clear f M
   go_wp2_with fail
   go_region_with (go_at_call 23;refine (q.out).mono ?_;rintro e w8 ⟨rfl,rfl⟩)
   all_goals
    go_wp2_with fail
    go_ret
    first
     | exact ⟨rfl,aDb h.out⟩
     | exact ⟨congrArg (fun b=>Ending.returned (Value.bool b)) O,aDb h.out⟩
  ·have ay:(s.toList==u1.toList)=false:=aLj S.out k hB2;clear k
   go_wp2_with fail
   refine (NM.out _ (d+1) _ (by first | rfl | omega | (rw [IntKind.wrap_i64];omega)) (by omega) (by omega)).mono ?_;rintro e w5 ⟨u2,rfl,B,C⟩;have j:=hid (aAB o.out C);obtain ⟨I,J,L⟩:=D.out w5 (aAB a.out j.out);have p:u2=s:=aEO B (hB1 ▸ S.out);subst p;clear B C
   go_wp2_with fail
   refine (TS.out _ (j.out)).mono ?_;rintro e w7 ⟨a5,l5,c5,rfl,f,M⟩;obtain ⟨I,J,L⟩:=D.out w7 (aAB (aAB a.out (j.out)) f);have h:=hid (aAB g.out (aAB (aAB a.out (j.out)) f));have q:=hid M;clear f M
   go_wp2_with fail
   go_region_with (go_at_call 23;refine (q.out).mono ?_;rintro e w8 ⟨rfl,rfl⟩)
   all_goals
    go_wp2_with fail
    go_ret
    first
     | exact ⟨rfl,aDb h.out⟩
     | exact ⟨congrArg (fun b=>Ending.returned (Value.bool b)) O,aDb h.out⟩
  ·have ay:(s.toList==u1.toList)=false:=aLj S.out k hC2;have b0:(tm.toList==[48]||tm.toList==[49])=true:=aO8 hC4;clear k
   go_wp2_with fail
   refine (NM.out _ (d+1) _ (by first | rfl | omega | (rw [IntKind.wrap_i64];omega)) (by omega) (by omega)).mono ?_;rintro e w5 ⟨u2,rfl,B,C⟩;have j:=hid (aAB o.out C);obtain ⟨I,J,L⟩:=D.out w5 (aAB a.out j.out);have bd:(s.toList==u2.toList)=false:=aLj S.out B hC3;clear B C
   go_wp2_with fail
   refine (NM.out _ (d-1) _ (by first | rfl | omega | (rw [IntKind.wrap_i64];omega)) (by omega) (by omega)).mono ?_;rintro e w6 ⟨u3,rfl,aj,ak⟩;have E:=hid (aAB j.out ak);obtain ⟨I,J,L⟩:=D.out w6 (aAB a.out E.out);have p:u3=s:=aEO aj (hC1 ▸ S.out);subst p;clear aj ak
   go_wp2_with fail
   refine (TS.out _ (E.out)).mono ?_;rintro e w7 ⟨a5,l5,c5,rfl,f,M⟩;obtain ⟨I,J,L⟩:=D.out w7 (aAB (aAB a.out (E.out)) f);have h:=hid (aAB g.out (aAB (aAB a.out (E.out)) f));have q:=hid M;clear f M
   go_wp2_with fail
   go_region_with (go_at_call 23;refine (q.out).mono ?_;rintro e w8 ⟨rfl,rfl⟩)
   all_goals
    go_wp2_with fail
    go_ret
    first
     | exact ⟨rfl,aDb h.out⟩
     | exact ⟨congrArg (fun b=>Ending.returned (Value.bool b)) O,aDb h.out⟩
open Go.ChangeShapes Go.WideShapes Go.ChangeAt Go.RowKit
theorem own:ownKnob Tryz.prog.godebug=none:=by kernel_rfl
theorem laidOut:laidOutB Tryz.prog=true:=by kernel_rfl
theorem gTab:Tryz.prog.globalNamed "internal/strconv.uint64pow10"=some 0:=by kernel_rfl
theorem gTabType:(Tryz.prog.globals[0]?).map (·.type)=some 250:=by kernel_rfl
theorem tabUnder:Tryz.prog.underlying 250=some (.array 20 180):=by kernel_rfl
theorem tabCells:Tryz.prog.cellsOf 250=20:=by kernel_rfl
theorem u64Cells:Tryz.prog.cellsOf 180=1:=by kernel_rfl
theorem u64Under:Tryz.prog.underlying 180=some (.int .u64):=by kernel_rfl
theorem tableKnown {W:World}(h:laidMetH Tryz.prog Rows.knownRow.laid W):Tab W:=
 Lib.tabIs_of_head (rest:=[]) gTab gTabType tabUnder u64Under u64Cells tabCells (laidMet.tail (laidMet.tail h))
theorem contractKnown (H:Type)(enc:TypeId×Value->H)(W:World)(base:Nat)(args:Array Value)(i y:List (DataW H))(a:List MemPlace)
  (b:∀ (j:Nat) t v,Tryz.f6.params[j]?=some t->args[j]?=some v->Value.okWide Tryz.prog W .any base t v)
  (k:DataW.Whole enc Tryz.prog Tryz.f6.params.toList Rows.knownSpec.vars false W args.toList i y a) (z:laidMetH Tryz.prog Rows.knownRow.laid W):
  Calls Tryz.prog 6 args W fun e W'=>∃ v,e=.returned v/\Rows.knownSpec.post enc Tryz.prog Tryz.f6 false true false false W args v W':=by
 have d:=k;obtain ⟨p,q,c,l,rfl,m,n⟩:=k;have f:DataW.TrodAll enc Tryz.prog W 0 (fun _=>true) true Tryz.f6.params.toList args.toList i p:=c;rw [Tryz.params6] at f b;obtain ⟨o,A,rfl,rfl,r⟩:=trodAll_one f;obtain ⟨rfl,rfl⟩:=trodVars_none l;obtain ⟨s,rfl,rfl,rfl,g⟩:=open_int Tryz.underlying3 (b 0 3 o rfl rfl) r;clear c;obtain ⟨u,x⟩:=bounds_i64 g
 refine (aKA s W (tableKnown z) u x).mono fun e W' ⟨he,hb⟩=>?_
 subst he;exact ⟨_,rfl,_,_,_,[],_,[],d,trodAll_mk1 (shut_bool Tryz.underlying4 _),trodAll_mk1 (shut_int Tryz.underlying3 g),rfl,hb.frame _,fun h=>by cases h⟩
def putCells (xs:Array Value):Obj->Obj
 | .cells _ t f=>.cells xs t f
 | o=>o
def layTabs (w:World):World:=
 {w with heap:=((w.heap.modify 0 (putCells #[.int .u64 1,.int .u64 10,.int .u64 100,.int .u64 1000,.int .u64 10000,.int .u64 100000,.int .u64 1000000,.int .u64 10000000,.int .u64 100000000,.int .u64 1000000000,.int .u64 10000000000,.int .u64 100000000000,.int .u64 1000000000000,.int .u64 10000000000000,.int .u64 100000000000000,.int .u64 1000000000000000,.int .u64 10000000000000000,.int .u64 100000000000000000,.int .u64 1000000000000000000,.int .u64 10000000000000000000])).modify 1 (putCells #[.int .u8 0,.int .u8 1,.int .u8 28,.int .u8 2,.int .u8 29,.int .u8 14,.int .u8 24,.int .u8 3,.int .u8 30,.int .u8 22,.int .u8 20,.int .u8 15,.int .u8 25,.int .u8 17,.int .u8 4,.int .u8 8,.int .u8 31,.int .u8 27,.int .u8 13,.int .u8 23,.int .u8 21,.int .u8 19,.int .u8 16,.int .u8 7,.int .u8 26,.int .u8 12,.int .u8 18,.int .u8 6,.int .u8 11,.int .u8 5,.int .u8 10,.int .u8 9])).modify 2 (putCells #[.int .u8 0,.int .u8 1,.int .u8 56,.int .u8 2,.int .u8 57,.int .u8 49,.int .u8 28,.int .u8 3,.int .u8 61,.int .u8 58,.int .u8 42,.int .u8 50,.int .u8 38,.int .u8 29,.int .u8 17,.int .u8 4,.int .u8 62,.int .u8 47,.int .u8 59,.int .u8 36,.int .u8 45,.int .u8 43,.int .u8 51,.int .u8 22,.int .u8 53,.int .u8 39,.int .u8 33,.int .u8 30,.int .u8 24,.int .u8 18,.int .u8 12,.int .u8 5,.int .u8 63,.int .u8 55,.int .u8 48,.int .u8 27,.int .u8 60,.int .u8 41,.int .u8 37,.int .u8 16,.int .u8 46,.int .u8 35,.int .u8 44,.int .u8 21,.int .u8 52,.int .u8 32,.int .u8 23,.int .u8 11,.int .u8 54,.int .u8 26,.int .u8 40,.int .u8 15,.int .u8 34,.int .u8 20,.int .u8 31,.int .u8 10,.int .u8 25,.int .u8 14,.int .u8 19,.int .u8 9,.int .u8 13,.int .u8 8,.int .u8 7,.int .u8 6])}
theorem laidMetKnown (os:Os):laidMet Tryz.prog Rows.knownRow.laid ((layTabs (World.holding Tryz.prog os ⟨#[],#[],[]⟩)).forCall (fun _ _=>0) ⟨#[],#[.int .i64 0],[]⟩).memory:=
 laidMet_of_run' 8 (by kernel_rfl) (by kernel_rfl)
theorem readsKnown (os:Os){H:Type}(enc:TypeId×Value->H):∃ places,DataW.whole enc Tryz.prog ((layTabs (World.holding Tryz.prog os ⟨#[],#[],[]⟩)).forCall (fun _ _=>0) ⟨#[],#[.int .i64 0],[]⟩).memory Tryz.f6.params.toList Rows.knownSpec.vars false #[Value.int .i64 0].toList 8=some ([.lit (.int .i64 0)],[],places):=
 ⟨[],by kernel_rfl⟩
theorem liftedKnown (f:Os)(a:f.Started)(H:Type)(enc:TypeId×Value->H)(F:Stop.Interp):
  ReturnsInHanded {} Tryz.checked f 6 .any ((OpenSpec.ofChange Rows.knownSpec).preRow enc Tryz.prog Tryz.f6 Rows.knownRow.domain false Rows.knownRow.laid) (((OpenSpec.ofChange Rows.knownSpec).at F).post enc Tryz.prog Tryz.f6 false true false false):=by
 obtain ⟨g,h⟩:=readsKnown f enc
 refine returnsInHanded_of_row (C:=Tryz.checked) (s:=OpenSpec.ofChange Rows.knownSpec) own a (by kernel_rfl) Tryz.func6
  (witness_row_at (enc:=enc) (C:=Tryz.checked) false (layTabs (World.holding Tryz.prog f ⟨#[],#[],[]⟩)) #[.int .i64 0] rfl (by kernel_rfl) (by kernel_rfl) (by kernel_rfl)
   (OpenSpec.preRow_of_cond 8 h (by kernel_rfl) (fun k hk=>by cases hk) (by kernel_rfl) (laidMetKnown f))) ?_
 intro W c d i j b e l _ _ _ m _ _;exact contractKnown H enc W c d i j b e l m
theorem saidKnown:Rows.KnownSaid:=
 OpenClaim.holds_of_cond 6 Tryz.f6 rfl rfl rfl rfl rfl rfl rfl ⟨rfl,rfl,rfl,rfl,rfl⟩ rfl rfl rfl rfl rfl (by kernel_rfl) Tryz.func6 (by kernel_rfl)
  (of_decide_eq_true (by kernel_rfl)) (by unfold Func.isWrapper;first | (rw [if_pos (by decide +kernel)];kernel_rfl) | (rw [if_neg (by decide +kernel)];exact ⟨rfl,rfl⟩))
  (fun os started H enc _ F=>by rw [OpenClaim.pre_eq_preRow];exact liftedKnown os started H enc F)
theorem plainKnown (f:FuncId)(fn:Func)(hf:Tryz.pinned.checked.prog.funcNamed "reals/realskeep.Known"=some f)(hfn:Tryz.pinned.checked.prog.funcs[f]?=some fn):
  false=Tryz.pinned.checked.prog.looks []/\∀ (j:Nat) t,fn.params[j]?=some t->Tryz.pinned.checked.prog.wantsStandIn t=false:=by
 obtain rfl:f=6:=Option.some.inj ((show Tryz.prog.funcNamed "reals/realskeep.Known"=some 6 by kernel_rfl).symm.trans hf) |>.symm
 obtain rfl:fn=Tryz.f6:=(Option.some.inj (Tryz.func6.symm.trans hfn)).symm;refine ⟨by kernel_rfl,fun j t ht=>?_⟩;rw [Tryz.params6] at ht
 obtain rfl:t=3:=by simpa using Array.mem_of_getElem? ht
 exact (show Tryz.prog.wantsStandIn 3=false by kernel_rfl)
theorem known_holds:Rows.KnownCardSaid:=
 Claim7.holds_tied_plain_at .later [] _ _ _ _ saidKnown (fun _ h=>by cases h) (by kernel_rfl) (fun _ h=>by cases h) known_row_tie rfl ⟨rfl,rfl⟩ (by kernel_rfl) rfl plainKnown (by kernel_rfl)
end Go.Proofs.YteghhlfmcjmnoaaGreatDoor
