import Derived.Test.YteghhlfmcjmnoaaGreatDoorCKn18
set_option linter.unusedSimpArgs false
set_option linter.unusedVariables false
set_option maxRecDepth 100000
set_option maxHeartbeats 2000000
namespace Go.Proofs.YteghhlfmcjmnoaaGreatDoor
open Go.RowKit
namespace Ab
open Rf (Nd Inv NInv Wt)
theorem NewNd.on {w w2 w3:World}{zs:List Int}{hs:Bool}{uns:Int}{lp rp cv:Value}{e:Ending}(h:NewNd w zs hs uns lp rp cv e w2)(a:Chg w2 w3 []):NewNd w zs hs uns lp rp cv e w3:=by
 obtain ⟨m,c,d,f,b⟩:=h;exact ⟨m,c,d.trans a,f,b.keep a.on (a.low m b.lt (by simp))⟩
theorem NewNd.up {w w1 w2:World}{zs:List Int}{hs:Bool}{uns:Int}{lp rp cv:Value}{e:Ending}(h:NewNd w1 zs hs uns lp rp cv e w2)(a:Chg w w1 []):NewNd w zs hs uns lp rp cv e w2:=by
 obtain ⟨m,b,c,d,f⟩:=h;exact ⟨m,b,a.trans c,Nat.le_trans a.on.size d,f⟩
theorem PartB.on {w w':World}{k:Nat}{kd:Int}{xs:List Value}{tv lv rv:Value}(h:PartB w k kd xs tv lv rv)(hc:Chg w w' []):PartB w' k kd xs tv lv rv:=hc.at h (by simp)
theorem aFR {w:World}{k:Nat}{kd:Int}{xs:List Value}{tv lv rv:Value}(h:PartB w k kd xs tv lv rv)(e:xs.length=4)(f:∀ x∈xs,One x)(g:One tv)(i:One lv)(j:One rv)(l:List AT):RepW Z w (ph1 0 k) (ph1 0 k) (sA kd tv lv rv l) w:=by
 refine aBh rfl ?_ ?_ ?_
 ·intro b B c;have:=aAy c;simp only [sA,List.mem_singleton,Prod.mk.injEq] at this;obtain ⟨rfl,rfl⟩:=this;refine ⟨rfl,rfl,rfl,k,0,rfl,[],.int .i64 kd::xs++[tv,lv,rv],[],(show w.heap[k]?=some (.cells ([]++(Value.int .i64 kd::xs++[tv,lv,rv])++[]).toArray 93 (0,0)) by simpa [PartB] using h),rfl,rfl,?_⟩;exact (aF0 4 xs e f).append ⟨⟨rfl,g⟩,⟨rfl,i⟩,⟨rfl,j⟩,trivial⟩
 ·intro b d;have:1<=b:=d;unfold ph1;rw [if_neg (by omega)]
 ·intro b m o a;unfold ph1 at a;split at a
  ·cases a;exact aAf h
  ·cases a
theorem aQ2 {w:World}{k:Nat}{p q:Int}{xs:List Value}{tv lv rv:Value}(h:PartB w k 1 xs tv lv rv)(e:Hold true w [p,q] xs)(c:∀ z∈[p,q],Bits 1 z)(f:One tv)(g:One lv)(i:One rv)(l:List AT):RepW Z w (ph1 0 k) (ph1 0 k) (maS p q tv lv rv l) w:=by
 refine aBh rfl ?_ ?_ ?_
 ·intro b B d;have:=aAy d;simp only [maS,List.mem_singleton,Prod.mk.injEq] at this;obtain ⟨rfl,rfl⟩:=this;refine ⟨rfl,rfl,rfl,k,0,rfl,[],.int .i64 1::xs++[tv,lv,rv],[],(show w.heap[k]?=some (.cells ([]++(Value.int .i64 1::xs++[tv,lv,rv])++[]).toArray 93 (0,0)) by simpa [PartB] using h),rfl,rfl,?_⟩;refine (aBe [p,q] xs 0 _ e c fun j z hz=>?_).append ⟨⟨rfl,f⟩,⟨rfl,g⟩,⟨rfl,i⟩,trivial⟩
  match j,hz with
  | 0,hz=>cases hz;rfl
  | 1,hz=>cases hz;rfl
  | j+2,hz=>simp at hz
 ·intro b c;have:1<=b:=c;unfold ph1;rw [if_neg (by omega)]
 ·intro b m o a;unfold ph1 at a;split at a
  ·cases a;exact aAf h
  ·cases a
theorem aAU {k:Nat}:∀ b x,ph1 0 k b=some x->[0].contains b=true:=by
 intro b x e;unfold ph1 at e;split at e
 ·subst_vars;rfl
 ·cases e
theorem aRF {d:Nat}{v:Value}{ks:List (K (List AT))}(k:(mTail ks (sE d v)).bind retL=some (litT v,true)){R:Ending->World->Prop}{w':World}(hR:∀ w2,Chg w' w2 []->R (.returned v) w2){kcs:List (K Act)}{a:Act}(e:∀ φ' ν' w'',SR Z φ' ν' w'' ks kcs)(l:Rep Z w' (fun _=>none) (fun _=>none) (sE d v) a w'):sem Z.P R kcs .normal a w':=by
 obtain ⟨g,i,b⟩:=bnd k
 match g,b with
 | .ret r s,b=>
  simp only [retL,Option.some.injEq,Prod.mk.injEq] at b;obtain ⟨rfl,c⟩:=b;refine aBY (aAd aB6) aCd (aAI mixed (aAd aB6)) (fun r s=>r=litT v/\clean s=true) (fun _ _=>False) (fun _ _ h=>h.elim) ?_ _ _ _ _ i ⟨rfl,c⟩ kcs _ a w' (e _ _ _) l;rintro r s φ x w2 ⟨rfl,c⟩ hrel j;have f:x=v:=hrel.1;rw [f];exact hR w2 (Chg.aAi (RepF.below j c))
 | .br _ _ _,b=>cases b
 | .need _ _,b=>cases b
 | .stop _ _,b=>cases b
theorem aE8 {d:Nat}{w0 w:World}{ψ φ:Nat->Option (Nat×Nat)}{s:AS}{a:Act}{ks ks2:List (K (List AT))}{kcs:List (K Act)}{f:FuncId}{vs:List AV}{R:Ending->World->Prop}(h:callAt Z s ks=some (f,vs,some d,ks2))(c:Enters Z.P f)(g:noFr ks=true)(i:∀ φ' ν' w'',SR Z φ' ν' w'' ks kcs)(j:Rep Z w0 ψ φ s a w)(m:s.tmps.length=83)(hs:∀ v,putT (List.replicate 83 .top) (some d) (litT v)=slot [(d,litT v)] 0 83)(n:∀ v,(mTail ks2 (sE d v)).bind retL=some (litT v,true))
  (H:∀ xs:List Value,All2 (relV Z φ s.nums w) vs xs->Calls Z.P f xs.toArray w fun e w'=>∃ v,e=.returned v/\One v/\∀ w2,Chg w' w2 []->R (.returned v) w2):sem Z.P R kcs .normal a w:=by
 refine aAx h c g (i φ s.nums w) j fun xs hxs=>(H xs hxs).mono ?_
 rintro e w' ⟨v,rfl,k,l⟩;refine ⟨v,rfl,fun kcs2 hf2 hsr2=>?_⟩;exact aRF (n v) l hsr2 (aAM (kb:=[]) (kt:=[]) j aCi (aTX m (hs v)) (fun b hb=>by simp at hb) ⟨rfl,k⟩)
section
variable {w:World} {k:Nat} {kd:Int} {xs:List Value} {tv lv rv:Value} {R:Ending->World->Prop}
theorem aCN (m:Nat):One (ptrB m):=rfl
theorem aTI {p q:Int}(E:PartB w k 1 xs tv lv rv)(H:Hold true w [p,q] xs)(i:∀ z∈[p,q],Bits 1 z)(I:One tv)(J:One lv)(L:One rv):Calls Tryz.prog 124 #[ptrB k] w (NewNd w [p,q,0,0,0,0,0,0] (decide (p<0)) 0 nilP nilP nilP):=by
 have F:=aAj Tryz.func124 rfl rfl;refine aAP F (φ:=ph1 0 k) (vs:=[.one (.ptr 0 0)]) (args:=[ptrB k]) (s:=maS p q tv lv rv maT) (by kernel_rfl) ⟨⟨k,0,rfl,rfl⟩,trivial⟩ (aQ2 E H i I J L _) ?_;refine xrun' (aAd aB6) aCd aAU (aA7 aAU) (w_N p q tv lv rv) (fun _ _=>False) (fun o s=>o=.code (.region rN.1 rN.2.1 true)::rN.2.2/\s=maS p q tv lv rv (slot [(0,P0)] 0 83)) ⟨rfl,rfl⟩ (fun _ _ _ _ _ h=>h.elim) ?_;rintro o s ⟨rfl,rfl⟩;have b:noFr rN.2.2=true:=aHm.1;refine ⟨by simpa [noFr] using b,fun kcs φ1 a1 w1 hsr1 hr1=>?_⟩;obtain ⟨x,y,A⟩:=aUr
 match kcs,hsr1 φ1 [] w1 with
 | .code cc::kcs',⟨hcc,hsr2⟩=>
 subst hcc;show (Code.region rN.1 rN.2.1 true).wp Z.P _ a1 w1;refine aDg mixed (aAd aB6) y x (d_N p q tv lv rv) aAc hr1 ?_;intro N C d c;rw [A];have r:Chg w d []:=Chg.aAi (RepF.below c.wd (aUz p q tv lv rv));show sem Z.P _ (.ops rN.2.1 [10,11]::kcs') .normal C d;refine aE8 (c_N p q tv lv rv) (aAj Tryz.func156 rfl rfl).en (by simpa [noFr] using b) (fun φ' ν' w''=>⟨rfl,rfl,SR.any b hsr2⟩) c (aTl p q tv lv rv) (fun v=>by kernel_rfl) t_N ?_;intro D g
 match D,g with
 | [u1,u2],⟨⟨x1,hu1,hx1⟩,⟨x2,hu2,hx2⟩,_⟩=>
 rw [hu1,hu2];have l:=aQu p q tv lv rv
 have t:Hold true d [p] x1:=aD5 [p] 0 x1 hx1 (by
  intro j z a;rw [l]
  match j,a with
  | 0,a=>cases a;exact ⟨1,rfl⟩
  | j+1,a=>simp at a)
 have u:Hold true d [q] x2:=aD5 [q] 1 x2 hx2 (by
  intro j z a;rw [l]
  match j,a with
  | 0,a=>cases a;exact ⟨1,rfl⟩
  | j+1,a=>simp at a)
 refine (aKs t u (i p (by simp)) (i q (by simp))).mono ?_;rintro e M f;obtain ⟨m,n,B⟩:=id f;rw [n] at f;exact ⟨ptrB m,n,aCN m,fun w4 hc4=>(f.on hc4).up r⟩
theorem aTG (l:kd=2\/kd=3\/kd=4)(I:PartB w k kd xs tv lv rv)(J:xs.length=4)(L:∀ x∈xs,One x)(M:One tv)(N:One lv)(O:One rv):Calls Tryz.prog 124 #[ptrB k] w fun e w'=>∃ cb,∃ cs:List Value,NewNd w [1,0,0,1,0,0,0,0] false 0 nilP nilP (ptrB cb) e w'/\w'.heap[cb]?=some (.cells (.int .i64 kd::tv::cs).toArray 224 (0,0))/\Hold true w' [0,0,0,0,0,0,0,0] cs/\w.heap.size<=cb:=by
 have F:=aAj Tryz.func124 rfl rfl;refine aAP F (φ:=ph1 0 k) (vs:=[.one (.ptr 0 0)]) (args:=[ptrB k]) (s:=sA kd tv lv rv maT) (by kernel_rfl) ⟨⟨k,0,rfl,rfl⟩,trivial⟩ (aFR I J L M N O _) ?_;refine xrun' (aAd aB6) aCd aAU (aA7 aAU) (w_C tv lv rv l) (fun _ _=>False) (fun q s=>q=.code (.region rC.1 rC.2.1 true)::rC.2.2/\s=sA kd tv lv rv (slot [(0,P0)] 0 83)) ⟨rfl,rfl⟩ (fun _ _ _ _ _ h=>h.elim) ?_;rintro q s ⟨rfl,rfl⟩;have a:noFr rC.2.2=true:=aHm.2.1;refine ⟨by simpa [noFr] using a,fun kcs φ1 a1 w1 hsr1 hr1=>?_⟩;obtain ⟨u,y,z⟩:=aUp
 match kcs,hsr1 φ1 [] w1 with
 | .code cc::kcs',⟨hcc,hsr2⟩=>
 subst hcc;show (Code.region rC.1 rC.2.1 true).wp Z.P _ a1 w1;refine aDg mixed (aAd aB6) y u (d_C tv lv rv kd) aAc hr1 ?_;intro S E i b;rw [z];have r:Chg w i []:=Chg.aAi (RepF.below b.wd (aUx tv lv rv kd));show sem Z.P _ (.ops rC.2.1 [10,11]::kcs') .normal E i;refine aE8 (c_C tv lv rv kd) (aAj Tryz.func157 rfl rfl).en (by simpa [noFr] using a) (fun φ' ν' w''=>⟨rfl,rfl,SR.any a hsr2⟩) b (aTi tv lv rv kd) (fun v=>by kernel_rfl) t_C ?_;intro H j
 match H,j with
 | [u1],⟨hu1,_⟩=>
 obtain ⟨cb,d,A,o,B,C⟩:=aB1 b.wd (aQt tv lv rv kd) rfl rfl;have t:u1=ptrB cb:=aAo (ν:=(dC tv lv rv kd).nums) (w:=i) A u1 hu1;rw [t];refine (aIe (aCN cb)).mono ?_;rintro e R g;obtain ⟨m,p,f,D⟩:=id g;rw [p] at g;refine ⟨ptrB m,p,aCN m,fun w4 hc4=>?_⟩
 match d,B with
 | y1::y2::d,⟨c,g2,g4⟩=>
 have c:y1=.int .i64 kd:=c;rw [c,show y2=tv from g2.1] at o;have n:=f.trans hc4;exact ⟨cb,d,(g.on hc4).up r,n.at o (by simp),aAm n.on (aCJ _ _ _ (aTj tv lv rv kd) g4),C⟩
theorem aPz (i:kd=10\/kd=11\/kd=12\/kd=13)(r:PartB w k kd xs tv lv rv)(t:xs.length=4)(u:∀ x∈xs,One x)(y:One tv)(z:One lv)(A:One rv)(d:∀ w1,Chg w w1 []->Calls Tryz.prog 158 #[.int .i64 kd,lv] w1 fun e w2=>∃ v,e=.returned v/\One v/\∀ w3,Chg w2 w3 []->R (.returned v) w3):Calls Tryz.prog 124 #[ptrB k] w R:=by
 have F:=aAj Tryz.func124 rfl rfl;refine aAP F (φ:=ph1 0 k) (vs:=[.one (.ptr 0 0)]) (args:=[ptrB k]) (s:=sA kd tv lv rv maT) (by kernel_rfl) ⟨⟨k,0,rfl,rfl⟩,trivial⟩ (aFR r t u y z A _) ?_;refine xrun' (aAd aB6) aCd aAU (aA7 aAU) (w_F tv lv rv i) (fun _ _=>False) (fun j s=>j=.code (.region rF.1 rF.2.1 true)::rF.2.2/\s=sA kd tv lv rv (slot [(0,P0)] 0 83)) ⟨rfl,rfl⟩ (fun _ _ _ _ _ h=>h.elim) ?_;rintro j s ⟨rfl,rfl⟩;have a:noFr rF.2.2=true:=aHm.2.2.1;refine ⟨by simpa [noFr] using a,fun kcs φ1 a1 w1 hsr1 hr1=>?_⟩;obtain ⟨m,n,o⟩:=aUq
 match kcs,hsr1 φ1 [] w1 with
 | .code cc::kcs',⟨hcc,hsr2⟩=>
 subst hcc;show (Code.region rF.1 rF.2.1 true).wp Z.P _ a1 w1;refine aDg mixed (aAd aB6) n m (d_F tv lv rv kd) aAc hr1 ?_;intro B p w2 f;rw [o];have l:Chg w w2 []:=Chg.aAi (RepF.below f.wd (aUy tv lv rv kd));show sem Z.P _ (.ops rF.2.1 [8,9]::kcs') .normal p w2;refine aE8 (c_F tv lv rv kd) (aAj Tryz.func158 rfl rfl).en (by simpa [noFr] using a) (fun φ' ν' w''=>⟨rfl,rfl,SR.any a hsr2⟩) f (aTk tv lv rv kd) (fun v=>by kernel_rfl) t_F ?_;intro q g
 match q,g with
 | [u1,u2],⟨b,c,_⟩=>
 have b:u1=.int .i64 kd:=b;have c:u2=lv:=c.1;rw [b,c];exact d w2 l
theorem aTH (y:PartB w k 5 xs tv lv rv)(z:xs.length=4)(A:∀ x∈xs,One x)(B:One tv)(C:One lv)(D:One rv)(d:∀ w1,Chg w w1 []->Calls Tryz.prog 124 #[lv] w1 fun e w2=>∃ m,e=.returned (ptrB m)/\(∃ b,∃ ys:List Value,w2.heap[m]?=some (.cells (.bool b::ys).toArray 205 (0,0)))/\∀ e3 w3,NewNd w2 [-1,0,0,1,0,0,0,0] true 0 nilP (ptrB m) nilP e3 w3->R e3 w3):Calls Tryz.prog 124 #[ptrB k] w R:=by
 have F:=aAj Tryz.func124 rfl rfl;refine aAP F (φ:=ph1 0 k) (vs:=[.one (.ptr 0 0)]) (args:=[ptrB k]) (s:=sA 5 tv lv rv maT) (by kernel_rfl) ⟨⟨k,0,rfl,rfl⟩,trivial⟩ (aFR y z A B C D _) ?_;refine xrun' (aAd aB6) aCd aAU (aA7 aAU) (w_M tv lv rv) (fun _ _=>False) (fun p s=>p=bef (pD 59) Tryz.f124/\s=sA 5 tv lv rv (slot [(0,P0),(58,litT lv)] 0 83)) ⟨rfl,rfl⟩ (fun _ _ _ _ _ h=>h.elim) ?_;rintro p s ⟨rfl,rfl⟩;obtain ⟨_,_,_,f,i,_⟩:=aHm;refine ⟨f,fun kcs φ1 a1 w1 hsr1 hr1=>?_⟩;have q:Chg w w1 []:=Chg.aAi (RepF.below hr1.wd rfl)
 refine aAx (c_M tv lv rv) F.en f (hsr1 φ1 [] w1) hr1 fun l c=>?_
 match l,c with
 | [u1],⟨a,_⟩=>
 have a:u1=lv:=a.1;rw [a];refine (d w1 q).mono ?_;rintro e w2 ⟨m,rfl,⟨b,t⟩,u⟩;refine ⟨ptrB m,rfl,fun kcs2 hf2 hsr2=>?_⟩;have g:Rep Z w2 (fun _=>none) (fun _=>none) (sE 59 (ptrB m)) (a1.put (some 59) (ptrB m)) w2:=aAM (kb:=[]) (kt:=[]) hr1 aCi (aTX (by rfl) (by kernel_rfl)) (fun b hb=>by simp at hb) ⟨rfl,aCN m⟩;refine aE8 (c_M2 (ptrB m)) (aAj Tryz.func159 rfl rfl).en i hsr2 g (by rfl) (fun v=>by kernel_rfl) t_M ?_;intro l c
 match l,c with
 | [u1],⟨a,_⟩=>
 have a:u1=ptrB m:=a.1;rw [a];refine (aIr t).mono ?_;rintro e w3 j;obtain ⟨n,o,r⟩:=id j;rw [o] at j;exact ⟨ptrB n,o,aCN n,fun w4 hc4=>u _ _ (j.on hc4)⟩
theorem aTF (kk:Rf.Kind)(B:PartB w k (kdK kk) xs tv lv rv)(C:xs.length=4)(D:∀ x∈xs,One x)(E:One tv)(H:One lv)(I:One rv)(m:∀ w1,Chg w w1 []->Calls Tryz.prog 124 #[lv] w1 fun e w2=>∃ m1,e=.returned (ptrB m1)/\Chg w1 w2 []/\∀ w3,Chg w2 w3 []->Calls Tryz.prog 124 #[rv] w3 fun e w4=>∃ m2,e=.returned (ptrB m2)/\Chg w3 w4 []/\∀ w5,Chg w4 w5 []->∃ a b,(∃ ys:List Value,w5.heap[m1]?=some (.cells (.bool a::ys).toArray 205 (0,0)))/\(∃ ys:List Value,w5.heap[m2]?=some (.cells (.bool b::ys).toArray 205 (0,0)))/\∀ e6 w6,NewNd w5 (opZ kk) (opS kk a b) 0 (ptrB m1) (ptrB m2) nilP e6 w6->R e6 w6):Calls Tryz.prog 124 #[ptrB k] w R:=by
 have F:=aAj Tryz.func124 rfl rfl;refine aAP F (φ:=ph1 0 k) (vs:=[.one (.ptr 0 0)]) (args:=[ptrB k]) (s:=sA (kdK kk) tv lv rv maT) (by kernel_rfl) ⟨⟨k,0,rfl,rfl⟩,trivial⟩ (aFR B C D E H I _) ?_;refine xrun' (aAd aB6) aCd aAU (aA7 aAU) (w_B tv lv rv kk) (fun _ _=>False) (fun i s=>i=bef (pD 70) Tryz.f124/\s=sA (kdK kk) tv lv rv (slot [(0,P0),(69,litT lv)] 0 83)) ⟨rfl,rfl⟩ (fun _ _ _ _ _ h=>h.elim) ?_;rintro i s ⟨rfl,rfl⟩;obtain ⟨_,_,_,_,_,n,o,p,_⟩:=aHm;refine ⟨n,fun kcs φ1 a1 w1 hsr1 hr1=>?_⟩;have u:Chg w w1 []:=Chg.aAi (RepF.below hr1.wd rfl)
 refine aAx (c_B tv lv rv (kdK kk)) F.en n (hsr1 φ1 [] w1) hr1 fun t d=>?_
 match t,d with
 | [u1],⟨c,_⟩=>
 have c:u1=lv:=c.1;rw [c];refine (m w1 u).mono ?_;rintro e w2 ⟨m1,rfl,N,f⟩;refine ⟨ptrB m1,rfl,fun kcs2 hf2 hsr2=>?_⟩
 have y:Rep Z w2 (ph1 0 k) (ph1 0 k) (sA (kdK kk) tv lv rv (slot [(0,P0),(70,litT (ptrB m1))] 0 83)) (a1.put (some 70) (ptrB m1)) w2:=aAM (kb:=[0]) (kt:=[0]) (r:=litT (ptrB m1)) hr1 (aFR ((B.on u).on N) C D E H I _) (by kernel_rfl) (fun b q=>by
  have:b=0:=by simpa using q
  subst this
  exact (hr1.wd.base 0 (k,0) rfl).symm) ⟨rfl,aCN m1⟩
 refine xrun' (aAd aB6) aCd aAU (aA7 aAU) (w_B2 tv lv rv (ptrB m1) kk) (fun _ _=>False) (fun i s=>i=bef (pD 75) Tryz.f124/\s=sA (kdK kk) tv lv rv (slot [(0,P0),(3,litT (ptrB m1)),(74,litT rv)] 0 83)) ⟨rfl,rfl⟩ (fun _ _ _ _ _ h=>h.elim) ?_ kcs2 _ _ _ (hsr2 _ _ _) y;rintro i s ⟨rfl,rfl⟩;refine ⟨o,fun kcs φ3 a3 w3 hsr3 hr3=>?_⟩;have J:Chg w2 w3 []:=Chg.aAi (RepF.below hr3.wd rfl)
 refine aAx (c_B2 tv lv rv (ptrB m1) (kdK kk)) F.en o (hsr3 φ3 [] w3) hr3 fun t d=>?_
 match t,d with
 | [u1],⟨c,_⟩=>
 have c:u1=rv:=c.1;rw [c];refine (f w3 J).mono ?_;rintro e w4 ⟨m2,rfl,U,g⟩;refine ⟨ptrB m2,rfl,fun kcs4 hf4 hsr4=>?_⟩
 have z:Rep Z w4 (ph1 0 k) (ph1 0 k) (sA (kdK kk) tv lv rv (slot [(0,P0),(3,litT (ptrB m1)),(75,litT (ptrB m2))] 0 83)) (a3.put (some 75) (ptrB m2)) w4:=aAM (kb:=[0]) (kt:=[0,3]) (r:=litT (ptrB m2)) hr3 (aFR ((((B.on u).on N).on J).on U) C D E H I _) (by kernel_rfl) (fun b q=>by
  have:b=0:=by simpa using q
  subst this
  exact (hr3.wd.base 0 (k,0) rfl).symm) ⟨rfl,aCN m2⟩
 refine xrun' (aAd aB6) aCd aAU (aA7 aAU) (w_B3 tv lv rv (ptrB m1) (ptrB m2) kk) (fun _ _=>False) (fun i s=>i=bef (pD 82) Tryz.f124/\s=sA (kdK kk) tv lv rv (slot [(0,P0),(79,.val (.one (.int .i64 (kdK kk)))),(80,litT (ptrB m1)),(81,litT (ptrB m2))] 0 83)) ⟨rfl,rfl⟩ (fun _ _ _ _ _ h=>h.elim) ?_ kcs4 _ _ _ (hsr4 _ _ _) z;rintro i s ⟨rfl,rfl⟩;refine ⟨p,fun kcs φ5 a5 w5 hsr5 hr5=>?_⟩;have O:Chg w4 w5 []:=Chg.aAi (RepF.below hr5.wd rfl);refine aE8 (c_B3 tv lv rv (ptrB m1) (ptrB m2) (kdK kk)) (aAj Tryz.func160 rfl rfl).en p hsr5 hr5 (by rfl) (fun v=>by kernel_rfl) t_B ?_;intro t d
 match t,d with
 | [u1,u2,u3],⟨c,j,l,_⟩=>
 have c:u1=.int .i64 (kdK kk):=c;have j:u2=ptrB m1:=j.1;have l:u3=ptrB m2:=l.1;rw [c,j,l];obtain ⟨a,b,P,q,S⟩:=g w5 O;refine (aKN kk P q).mono ?_;rintro e w6 A;obtain ⟨L,M,T⟩:=id A;rw [M] at A;exact ⟨ptrB L,M,aCN L,fun w7 hc7=>S _ _ (A.on hc7)⟩
end
end Ab
open Go.RowKit
namespace Ab
open Rf (Nd Inv NInv Wt)
noncomputable def bG:FuncId->Option Func:=fun f=>bif f==40 then some Tryz.f40 else bT f
theorem aNM:BodiesOk Z bG:=by
 intro f a h;unfold bG at h
 exact aBH h (aAj Tryz.func40 rfl rfl) fun h=>aCd f a h
def stG (ks:List (K (List AT))):Bool:=atOp (opCalls 124) ks
def sG1 (p q:Int)(tv lv rv:Value)(tm:List AT):AS:=⟨tm,[(1,ext (.int .i64 1::numCs true 0 2++[.lit tv,.lit lv,.lit rv]) 93)],2,[(p,1),(q,1)],[]⟩
def sG2 (kd':Int)(tm:List AT):AS:=⟨tm,[(1,ext [.int .i64 kd'] 93)],2,[],[]⟩
def sG3 (hs:Bool)(tm:List AT):AS:=⟨tm,[(1,ext [.bool hs] 205)],2,[],[]⟩
abbrev gT0 (kd:Int):List AT:=.val (.one (.int .i64 kd))::.val (.one (.ptr 1 0))::List.replicate 31 .und
noncomputable def gRun (kt:List Nat)(ks:List (K (List AT)))(s:AS):Option XT:=(run Z (tabSp tS) bG (drawA Z (tabSp tS)) stG 400 ks s).bind (outX (nrm [1] [] 2 []) (nrm [1] kt 2 []))
noncomputable def gK:List (K (List AT)):=[.code (bodyOf Tryz.f158),.top Tryz.f158]
noncomputable def gF (kd p q:Int)(tv lv rv:Value):Option Tr:=run Z (tabSp tS) bG (drawA Z (tabSp tS)) (fun _=>false) 600 gK (sG1 p q tv lv rv (gT0 kd))
noncomputable def gFs (kd p q:Int)(tv lv rv:Value):AS:=(((gF kd p q tv lv rv).bind (leafT [])).map (·.2)).getD ⟨[],[],0,[],[]⟩
noncomputable def gA (kd:Int)(hs:Bool):Option Tr:=run Z (tabSp tS) bG (drawA Z (tabSp tS)) (fun _=>false) 400 (aft (pD 15) Tryz.f158) (sG3 hs (slot [(0,.val (.one (.int .i64 kd))),(15,.val (.one (.ptr 1 0)))] 0 33))
noncomputable def gAs (kd:Int)(hs:Bool):AS:=(((gA kd hs).bind (leafT [])).map (·.2)).getD ⟨[],[],0,[],[]⟩
def T2 (p q:Int):Int:=lowT (p*p) (q*q)
def B2 (p q:Int):Int:=lowB (p*p) (q*q)
section
variable (p q:Int) (tv lv rv:Value)
theorem g_10:gF 10 p q tv lv rv=some (.need [0<p/\0<q/\(Rf.near p q 20000 1).isSome=true] (.ret (.val (.one (.ptr 5 0))) (gFs 10 p q tv lv rv))):=by kernel_rfl
theorem aUK:IsNe (gFs 10 p q tv lv rv) 5 (.bool false) [1,0,0,1,0,0,0,0] (.ptr 3 0) (.lit nilP) (.lit nilP) 0:=⟨by kernel_rfl,by kernel_rfl,by kernel_rfl⟩
theorem aUI:IsCn (gFs 10 p q tv lv rv) 3 10 [0,0,0,0,nearA p q*q,nearB p q*p,nearB p q*q,nearA p q*q]:=⟨by kernel_rfl,by kernel_rfl⟩
theorem aUJ:clean (gFs 10 p q tv lv rv)=true:=by kernel_rfl
theorem g_12:gF 12 p q tv lv rv=some (.need [0<gcdZ (p*p) (q*q)] (.ret (.val (.one (.ptr 13 0))) (gFs 12 p q tv lv rv))):=by kernel_rfl
theorem aUR:IsNe (gFs 12 p q tv lv rv) 13 (.bool false) [1,0,0,1,0,0,0,0] (.ptr 10 0) (.lit nilP) (.lit nilP) 0:=⟨by kernel_rfl,by kernel_rfl,by kernel_rfl⟩
theorem aUP:IsCn (gFs 12 p q tv lv rv) 10 12 [p,q,T2 p q,B2 p q,0,0,0,0]:=⟨by kernel_rfl,by kernel_rfl⟩
theorem aUQ:clean (gFs 12 p q tv lv rv)=true:=by kernel_rfl
theorem g_13:gF 13 p q tv lv rv=some (.need [0<gcdZ (p*p) (q*q)] (.ret (.val (.one (.ptr 13 0))) (gFs 13 p q tv lv rv))):=by kernel_rfl
theorem aUU:IsNe (gFs 13 p q tv lv rv) 13 (.bool false) [1,0,0,1,0,0,0,0] (.ptr 10 0) (.lit nilP) (.lit nilP) 0:=⟨by kernel_rfl,by kernel_rfl,by kernel_rfl⟩
theorem aUS:IsCn (gFs 13 p q tv lv rv) 10 13 [p,q,T2 p q,B2 p q,0,0,0,0]:=⟨by kernel_rfl,by kernel_rfl⟩
theorem aUT:clean (gFs 13 p q tv lv rv)=true:=by kernel_rfl
theorem g_11:gF 11 p q tv lv rv=some (.need [0<gcdZ (p*p) (q*q)] (.ret (.val (.one (.ptr 14 0))) (gFs 11 p q tv lv rv))):=by kernel_rfl
theorem aUO:IsNe (gFs 11 p q tv lv rv) 14 (.bool false) [1,-1,1,1,0,0,0,0] (.lit nilP) (.lit nilP) (.ptr 13 0) 0:=⟨by kernel_rfl,by kernel_rfl,by kernel_rfl⟩
theorem aUN:IsNe (gFs 11 p q tv lv rv) 13 (.bool false) [1,0,0,1,0,0,0,0] (.ptr 10 0) (.lit nilP) (.lit nilP) 0:=⟨by kernel_rfl,by kernel_rfl,by kernel_rfl⟩
theorem aUL:IsCn (gFs 11 p q tv lv rv) 10 11 [p,q,T2 p q,B2 p q,0,0,0,0]:=⟨by kernel_rfl,by kernel_rfl⟩
theorem aUM:clean (gFs 11 p q tv lv rv)=true:=by kernel_rfl
theorem g_f (kd:Int):gA kd false=some (.ret (.val (.one (.ptr 3 0))) (gAs kd false)):=by kernel_rfl
theorem g_fn (kd:Int):IsNe (gAs kd false) 3 (.bool false) [1,0,0,1,0,0,0,0] (.lit nilP) (.lit nilP) (.ptr 1 0) kd:=⟨by kernel_rfl,by kernel_rfl,by kernel_rfl⟩
theorem g_fl (kd:Int):clean (gAs kd false)=true:=by kernel_rfl
theorem g_t (kd:Int):gA kd true=some (.ret (.val (.one (.ptr 5 0))) (gAs kd true)):=by kernel_rfl
theorem g_tn (kd:Int):IsNe (gAs kd true) 5 (.bool false) [1,0,0,1,0,0,0,0] (.lit nilP) (.lit nilP) (.ptr 3 0) kd:=⟨by kernel_rfl,by kernel_rfl,by kernel_rfl⟩
theorem g_tm (kd:Int):IsNe (gAs kd true) 3 (.bool false) [1,0,0,1,0,0,0,0] (.lit nilP) (.lit nilP) (.ptr 1 0) 0:=⟨by kernel_rfl,by kernel_rfl,by kernel_rfl⟩
theorem g_tl (kd:Int):clean (gAs kd true)=true:=by kernel_rfl
def kds:List Int:=[2,3,4,5,6,7,8,9,10,11,12,13]
theorem g_s (kd:Int){a:Int}(h:a∈kds):gRun [0,14] gK (sG2 a (gT0 kd))=some (.stp (bef (pD 15) Tryz.f158) (sG2 a (slot [(0,.val (.one (.int .i64 kd))),(14,.val (.one (.ptr 1 0)))] 0 33))):=by
 simp only [kds,List.mem_cons,List.not_mem_nil,or_false] at h
 rcases h with rfl | rfl | rfl | rfl | rfl | rfl | rfl | rfl | rfl | rfl | rfl | rfl<;>kernel_rfl
theorem g_sc (kd kd':Int):callAt Z (sG2 kd' (slot [(0,.val (.one (.int .i64 kd))),(14,.val (.one (.ptr 1 0)))] 0 33)) (bef (pD 15) Tryz.f158)=some (124,[.one (.ptr 1 0)],some 15,aft (pD 15) Tryz.f158):=by kernel_rfl
theorem g_sf:noFr (bef (pD 15) Tryz.f158)=true:=by kernel_rfl
end
section
variable {w:World} {k:Nat} {kd:Int} {xs:List Value} {tv lv rv:Value} {R:Ending->World->Prop}
theorem aRt {w:World}{k:Nat}{p q:Int}{xs:List Value}{tv lv rv:Value}(h:PartB w k 1 xs tv lv rv)(e:Hold true w [p,q] xs)(c:∀ z∈[p,q],Bits 1 z)(f:One tv)(g:One lv)(i:One rv)(l:List AT):RepW Z w (ph1 1 k) (ph1 1 k) (sG1 p q tv lv rv l) w:=by
 refine aBh rfl ?_ ?_ ?_
 ·intro b B d;have:=aAy d;simp only [sG1,List.mem_singleton,Prod.mk.injEq] at this;obtain ⟨rfl,rfl⟩:=this;refine ⟨rfl,rfl,rfl,k,0,rfl,[],.int .i64 1::xs++[tv,lv,rv],[],(show w.heap[k]?=some (.cells ([]++(Value.int .i64 1::xs++[tv,lv,rv])++[]).toArray 93 (0,0)) by simpa [PartB] using h),rfl,rfl,?_⟩;refine (aBe [p,q] xs 0 _ e c fun j z hz=>?_).append ⟨⟨rfl,f⟩,⟨rfl,g⟩,⟨rfl,i⟩,trivial⟩
  match j,hz with
  | 0,hz=>cases hz;rfl
  | 1,hz=>cases hz;rfl
  | j+2,hz=>simp at hz
 ·intro b c;have:2<=b:=c;unfold ph1;rw [if_neg (by omega)]
 ·intro b m o a;unfold ph1 at a;split at a
  ·cases a;exact aAf h
  ·cases a
theorem aGj {w:World}{k:Nat}{c:AC}{x:Value}{ys:List Value}{ty:TypeId}{f:List AT}(h:w.heap[k]?=some (.cells (x::ys).toArray ty (0,0)))(g:relC Z (ph1 1 k) [] w c x):RepW Z w (ph1 1 k) (ph1 1 k) ⟨f,[(1,ext [c] ty)],2,[],[]⟩ w:=by
 refine aBh rfl ?_ ?_ ?_
 ·intro b B d;have:=aAy d;simp only [List.mem_singleton,Prod.mk.injEq] at this;obtain ⟨rfl,rfl⟩:=this;exact ⟨rfl,rfl,rfl,k,0,rfl,[],[x],ys,h,rfl,g,trivial⟩
 ·intro b e;have:2<=b:=e;unfold ph1;rw [if_neg (by omega)]
 ·intro b i o a;unfold ph1 at a;split at a
  ·cases a;exact aAf h
  ·cases a
theorem aMM {k:Nat}:∀ b x,ph1 1 k b=some x->[1].contains b=true:=by
 intro b x e;unfold ph1 at e;split at e
 ·subst_vars;rfl
 ·cases e
def NewC (w:World)(kd:Int)(zs:List Int)(e:Ending)(w':World):Prop:=∃ cb,∃ cs:List Value,NewNd w [1,0,0,1,0,0,0,0] false 0 nilP nilP (ptrB cb) e w'/\w'.heap[cb]?=some (.cells (.int .i64 kd::nilS'::cs).toArray 224 (0,0))/\Hold true w' zs cs
def NewX (w:World)(zs:List Int)(e:Ending)(w':World):Prop:=∃ far,∃ cb,∃ cs:List Value,NewNd w [1,-1,1,1,0,0,0,0] false 0 nilP (ptrB far) nilP e w'/\w.heap.size<=far/\NodeAt w' far [1,0,0,1,0,0,0,0] false 0 0 0 0 0 nilP nilP nilS' (ptrB cb) nilP/\w'.heap[cb]?=some (.cells (.int .i64 11::nilS'::cs).toArray 224 (0,0))/\Hold true w' zs cs/\e≠.returned (ptrB far)
theorem aJk {p q:Int}(hB:PartB w k 1 xs tv lv rv)(hh:Hold true w [p,q] xs)(hb:∀ z∈[p,q],Bits 1 z)(o1:One tv)(o2:One lv)(o3:One rv){tr:Tr}(ht:gF kd p q tv lv rv=some tr)(G:AT->AS->Prop)(hok:tr.ok G fun _ _=>False)(hG:∀ r s φ v w',G r s->relT Z φ s.nums w' r v->RepW Z w (ph1 1 k) φ s w'->R (.returned v) w'):Calls Tryz.prog 158 #[.int .i64 kd,ptrB k] w R:=
 aBo (s:=sG1 p q tv lv rv (gT0 kd)) (vs:=[.one (.int .i64 kd),.one (.ptr 1 0)]) (args:=[.int .i64 kd,ptrB k]) (aAj Tryz.func158 rfl rfl) (aAd aB6) aNM (by kernel_rfl) ⟨rfl,⟨k,0,rfl,rfl⟩,trivial⟩ (aRt hB hh hb o1 o2 o3 _) ht G hok hG
theorem aIu {s:AS}{φ ψ:Nat->Option (Nat×Nat)}{v:Value}{w':World}{N C:Nat}{zs:List Int}(e:IsNe s N (.bool false) [1,0,0,1,0,0,0,0] (.ptr C 0) (.lit nilP) (.lit nilP) 0)(b:IsCn s C kd zs)(n:clean s=true)(hrel:relT Z φ s.nums w' (.val (.one (.ptr N 0))) v)(c:RepW Z w ψ φ s w'):NewC w kd zs (.returned v) w':=by
 obtain ⟨m,d⟩:=aAp c e.look rfl rfl;obtain ⟨g,a⟩:=aAp c b.look rfl rfl;have f:v=ptrB m:=aAo (ν:=s.nums) (w:=w') d v hrel;obtain ⟨h,i⟩:=e.at (hs:=false) c d (fun x hx=>hx) (aAo a) aAh aAh;obtain ⟨j,o,k,l⟩:=b.at c a;exact ⟨g,j,⟨m,by rw [f],Chg.aAi (RepF.below c n),h,i⟩,k,l⟩
theorem aUC {p q:Int}(e:PartB w k 1 xs tv lv rv)(f:Hold true w [p,q] xs)(g:∀ z∈[p,q],Bits 1 z)(h:One tv)(i:One lv)(j:One rv)(l:0<p)(m:0<q)(n:(Rf.near p q 20000 1).isSome=true):Calls Tryz.prog 158 #[.int .i64 10,ptrB k] w (NewC w 10 [0,0,0,0,nearA p q*q,nearB p q*p,nearB p q*q,nearA p q*q]):=by
 refine aJk e f g h i j (g_10 p q tv lv rv) (fun r s=>r=.val (.one (.ptr 5 0))/\IsNe s 5 (.bool false) [1,0,0,1,0,0,0,0] (.ptr 3 0) (.lit nilP) (.lit nilP) 0/\IsCn s 3 10 [0,0,0,0,nearA p q*q,nearB p q*p,nearB p q*q,nearA p q*q]/\clean s=true) ⟨holds1 ⟨l,m,n⟩,rfl,aUK p q tv lv rv,aUI p q tv lv rv,aUJ p q tv lv rv⟩ ?_;rintro r s φ v o ⟨rfl,a,b,c⟩ hrel d;exact aIu a b c hrel d
theorem aUE {p q:Int}(e:PartB w k 1 xs tv lv rv)(f:Hold true w [p,q] xs)(g:∀ z∈[p,q],Bits 1 z)(h:One tv)(i:One lv)(j:One rv)(l:0<gcdZ (p*p) (q*q)):Calls Tryz.prog 158 #[.int .i64 12,ptrB k] w (NewC w 12 [p,q,T2 p q,B2 p q,0,0,0,0]):=by
 refine aJk e f g h i j (g_12 p q tv lv rv) (fun r s=>r=.val (.one (.ptr 13 0))/\IsNe s 13 (.bool false) [1,0,0,1,0,0,0,0] (.ptr 10 0) (.lit nilP) (.lit nilP) 0/\IsCn s 10 12 [p,q,T2 p q,B2 p q,0,0,0,0]/\clean s=true) ⟨holds1 l,rfl,aUR p q tv lv rv,aUP p q tv lv rv,aUQ p q tv lv rv⟩ ?_;rintro r s φ v m ⟨rfl,a,b,c⟩ hrel d;exact aIu a b c hrel d
theorem aUF {p q:Int}(e:PartB w k 1 xs tv lv rv)(f:Hold true w [p,q] xs)(g:∀ z∈[p,q],Bits 1 z)(h:One tv)(i:One lv)(j:One rv)(l:0<gcdZ (p*p) (q*q)):Calls Tryz.prog 158 #[.int .i64 13,ptrB k] w (NewC w 13 [p,q,T2 p q,B2 p q,0,0,0,0]):=by
 refine aJk e f g h i j (g_13 p q tv lv rv) (fun r s=>r=.val (.one (.ptr 13 0))/\IsNe s 13 (.bool false) [1,0,0,1,0,0,0,0] (.ptr 10 0) (.lit nilP) (.lit nilP) 0/\IsCn s 10 13 [p,q,T2 p q,B2 p q,0,0,0,0]/\clean s=true) ⟨holds1 l,rfl,aUU p q tv lv rv,aUS p q tv lv rv,aUT p q tv lv rv⟩ ?_;rintro r s φ v m ⟨rfl,a,b,c⟩ hrel d;exact aIu a b c hrel d
theorem aPH {m a:Nat}(h:m≠a):Ending.returned (ptrB m)≠.returned (ptrB a):=by
 intro e;exact h (by injection e with e;injection e with e;injection e with e;injection e)
theorem aUD {p q:Int}(D:PartB w k 1 xs tv lv rv)(E:Hold true w [p,q] xs)(F:∀ z∈[p,q],Bits 1 z)(H:One tv)(I:One lv)(J:One rv)(L:0<gcdZ (p*p) (q*q)):Calls Tryz.prog 158 #[.int .i64 11,ptrB k] w (NewX w [p,q,T2 p q,B2 p q,0,0,0,0]):=by
 refine aJk D E F H I J (g_11 p q tv lv rv) (fun r s=>r=.val (.one (.ptr 14 0))/\IsNe s 14 (.bool false) [1,-1,1,1,0,0,0,0] (.lit nilP) (.lit nilP) (.ptr 13 0) 0/\IsNe s 13 (.bool false) [1,0,0,1,0,0,0,0] (.ptr 10 0) (.lit nilP) (.lit nilP) 0/\IsCn s 10 11 [p,q,T2 p q,B2 p q,0,0,0,0]/\clean s=true) ⟨holds1 L,rfl,aUO p q tv lv rv,aUN p q tv lv rv,aUL p q tv lv rv,aUM p q tv lv rv⟩ ?_;rintro r s φ v B ⟨rfl,h,c,e,C⟩ hrel b;obtain ⟨m,f⟩:=aAp b h.look rfl rfl;obtain ⟨g,a⟩:=aAp b c.look rfl rfl;obtain ⟨j,d⟩:=aAp b e.look rfl rfl;have i:v=ptrB m:=aAo (ν:=s.nums) (w:=B) f v hrel;obtain ⟨l,n⟩:=h.at (hs:=false) b f (fun x hx=>hx) aAh aAh (aAo a);obtain ⟨o,t⟩:=c.at (hs:=false) b a (fun x hx=>hx) (aAo d) aAh aAh;obtain ⟨u,M,y,A⟩:=e.at b d;refine ⟨g,j,u,⟨m,by rw [i],Chg.aAi (RepF.below b C),l,n⟩,o,t,y,A,?_⟩;rw [i];exact aPH (aAT b h.look rfl c.look f a (by decide))
theorem aTt {d:Int}{zs:List Value}(p:d∈kds)(I:w.heap[k]?=some (.cells (.int .i64 d::zs).toArray 93 (0,0)))
  (l:∀ w1,Chg w w1 []->Calls Tryz.prog 124 #[ptrB k] w1 fun e w2=>∃ m b,e=.returned (ptrB m)/\(∃ ys:List Value,w2.heap[m]?=some (.cells (.bool b::ys).toArray 205 (0,0)))/\∀ e3 w3,(b=false->NewNd w2 [1,0,0,1,0,0,0,0] false kd nilP (ptrB m) nilP e3 w3->R e3 w3)/\(b=true->∀ x,w2.heap.size<=x->NodeAt w3 x [1,0,0,1,0,0,0,0] false 0 0 0 0 0 nilP (ptrB m) nilS' nilP nilP->NewNd w2 [1,0,0,1,0,0,0,0] false kd nilP (ptrB x) nilP e3 w3->e3≠.returned (ptrB x)->R e3 w3)):Calls Tryz.prog 158 #[.int .i64 kd,ptrB k] w R:=by
 have F:=aAj Tryz.func158 rfl rfl;refine aAP F (φ:=ph1 1 k) (vs:=[.one (.int .i64 kd),.one (.ptr 1 0)]) (args:=[.int .i64 kd,ptrB k]) (s:=sG2 d (gT0 kd)) (by kernel_rfl) ⟨rfl,⟨k,0,rfl,rfl⟩,trivial⟩ (aGj I rfl) ?_;refine xrun' (aAd aB6) aNM aMM (aA7 aMM) (g_s kd p) (fun _ _=>False) (fun A s=>A=bef (pD 15) Tryz.f158/\s=sG2 d (slot [(0,.val (.one (.int .i64 kd))),(14,.val (.one (.ptr 1 0)))] 0 33)) ⟨rfl,rfl⟩ (fun _ _ _ _ _ h=>h.elim) ?_;rintro A s ⟨rfl,rfl⟩;refine ⟨g_sf,fun kcs φ1 a1 w1 hsr1 hr1=>?_⟩;have C:Chg w w1 []:=Chg.aAi (RepF.below hr1.wd rfl)
 refine aAx (g_sc kd d) (aAj Tryz.func124 rfl rfl).en g_sf (hsr1 φ1 [] w1) hr1 fun us hus=>?_
 match us,hus with
 | [u1],⟨g,_⟩=>
 have g:u1=ptrB k:=aAo (ν:=[]) (w:=w1) (hr1.wd.base 1 (k,0) rfl) u1 g;rw [g];refine (l w1 C).mono ?_;rintro e w2 ⟨m,b,rfl,⟨ys,H⟩,B⟩;refine ⟨ptrB m,rfl,fun kcs2 hf2 hsr2=>?_⟩;have o:Rep Z w2 (ph1 1 m) (ph1 1 m) (sG3 b (slot [(0,.val (.one (.int .i64 kd))),(15,.val (.one (.ptr 1 0)))] 0 33)) (a1.put (some 15) (ptrB m)) w2:=aAM (kb:=[]) (kt:=[0]) (r:=.val (.one (.ptr 1 0))) hr1 (aGj H rfl) (by kernel_rfl) (fun b hb=>by simp at hb) ⟨m,0,rfl,rfl⟩
 cases b with
 | false=>
  refine aBY (aAd aB6) aNM (aAI mixed (aAd aB6)) (fun r s=>r=.val (.one (.ptr 3 0))/\IsNe s 3 (.bool false) [1,0,0,1,0,0,0,0] (.lit nilP) (.lit nilP) (.ptr 1 0) kd/\clean s=true) (fun _ _=>False) (fun _ _ h=>h.elim) ?_ _ _ _ _ (g_f kd) ⟨rfl,g_fn kd,g_fl kd⟩ kcs2 _ _ w2 (hsr2 _ _ _) o;rintro r s φ v y ⟨rfl,n,z⟩ hrel c;obtain ⟨m',a⟩:=aAp c n.look rfl rfl;have q:v=ptrB m':=aAo (ν:=s.nums) (w:=y) a v hrel;have i:φ 1=some (m,0):=c.base 1 (m,0) rfl;obtain ⟨t,u⟩:=n.at (hs:=false) c a (fun x f=>f) aAh aAh (aAo i);exact (B _ _).1 rfl ⟨m',by rw [q],Chg.aAi (RepF.below c z),t,u⟩
 | true=>
  refine aBY (aAd aB6) aNM (aAI mixed (aAd aB6)) (fun r s=>r=.val (.one (.ptr 5 0))/\IsNe s 5 (.bool false) [1,0,0,1,0,0,0,0] (.lit nilP) (.lit nilP) (.ptr 3 0) kd/\IsNe s 3 (.bool false) [1,0,0,1,0,0,0,0] (.lit nilP) (.lit nilP) (.ptr 1 0) 0/\clean s=true) (fun _ _=>False) (fun _ _ h=>h.elim) ?_ _ _ _ _ (g_t kd) ⟨rfl,g_tn kd,g_tm kd,g_tl kd⟩ kcs2 _ _ w2 (hsr2 _ _ _) o;rintro r s φ v y ⟨rfl,n,f,z⟩ hrel c;obtain ⟨m',a⟩:=aAp c n.look rfl rfl;obtain ⟨x,j⟩:=aAp c f.look rfl rfl;have q:v=ptrB m':=aAo (ν:=s.nums) (w:=y) a v hrel;have i:φ 1=some (m,0):=c.base 1 (m,0) rfl;obtain ⟨t,u⟩:=n.at (hs:=false) c a (fun x f=>f) aAh aAh (aAo j);obtain ⟨D,E⟩:=f.at (hs:=false) c j (fun x f=>f) aAh aAh (aAo i);refine (B _ _).2 rfl x D E ⟨m',by rw [q],Chg.aAi (RepF.below c z),t,u⟩ ?_;rw [q];exact aPH (aAT c n.look rfl f.look a j (by decide))
end
end Ab
open Go.RowKit
namespace Ab
open Rf (Nd Inv NInv Wt)
section
variable {w w':World} {b0:Nat} {own own':Nat->Option Own} {at1 at2:Nat->Nat} {ns ns1:List Nd} {rho:Nat->Nat} {c N:Nat}
theorem aMx (h:Nod w b0 own at1 ns)(i:Inv ns rho c)(d:Chg w w' []){blks:List Nat}{new:List Nd}(e:∀ m∈blks,w.heap.size<=m)(b:∀ j mm,new[j]?=some mm->NodeOk w' b0 (ownL ns.length blks own) (atL ns.length blks at1) (ns++new) (ns.length+j) mm):
  (∀ k,k<w.heap.size->ownL ns.length blks own k=own k)/\Nod w' b0 (ownL ns.length blks own) (atL ns.length blks at1) (ns++new)/\∀ a,a<ns.length->atL ns.length blks at1 a=at1 a:=by
 have f:∀ k,k<w.heap.size->ownL ns.length blks own k=own k:=fun k hk=>aMG fun hm=>absurd (e k hm) (by omega)
 have g:∀ a,a<ns.length->atL ns.length blks at1 a=at1 a:=fun a h=>aCl h
 exact ⟨f,h.more i d f g b,g⟩
theorem aE9 {pos:Bool}{p q:Int}(a:NodeAt w (at2 N) [p,q,0,0,0,0,0,0] (!pos) 0 0 0 0 0 nilP nilP nilS' nilP nilP)(b:own' (at2 N)=some (.nd N))(c:b0<=at2 N):NodeOk w b0 own' at2 ns1 N (Rf.fresh pos [(p,q)] []):=by
 refine ⟨⟨p,q,0,0,0,0,0,0,0,0,nilS',nilP,nilP,⟨a,Or.inl ⟨rfl,rfl⟩,fun e=>(by cases e),fun _=>rfl,fun _=>rfl,fun e=>(by cases e)⟩,[(p,q)],?_,?_⟩,Pg.HC.fresh _ _ _,b,c,fun e=>by cases e⟩
 ·show some ([(p,q)].map (Rf.vag Rf.one))=_;simp [Rf.aC7]
 ·exact ⟨⟨1,by decide,by simp [Pg.pad,Pg.sc]⟩,rfl⟩
theorem aHZ {a:Nat}{xa:Nd}{zs:List Int}{u v:Rf.V}{mN:Nd}(b:NodeAt w (at2 N) zs (!mN.pos) (unsZ mN) 0 0 0 0 nilP (ptrB (at2 a)) nilS' nilP nilP)(I:zs.length=8)(c:mN.t=[u,v])(m:mN.args=[a])(n:mN.read=[0])(f:mN.out=[])(o:mN.told=Rf.one)(g:mN.had=[Rf.one])(p:mN.nest=false)(J:mN.probe=true->mN.t=[(1,0),(0,1)])(i:ns1[a]?=some xa)(j:xa.had[0]?=some Rf.one)(d:Pg.Cof [u,v] (colsZ zs))(k:own' (at2 N)=some (.nd N))(l:b0<=at2 N):NodeOk w b0 own' at2 ns1 N mN:=by
 obtain ⟨z,A,B,C,D,E,F,H,rfl⟩:=eight I;refine ⟨⟨z,A,B,C,D,E,F,H,0,0,nilS',nilP,nilP,⟨?_,Or.inl ⟨rfl,f⟩,fun e=>?_,fun _=>rfl,fun _=>rfl,fun e=>?_⟩,[u,v],Pg.aCY c (by rw [m];rfl) (by rw [n];rfl) i j o,d⟩,⟨by rw [g,f];rfl,by rw [g];rfl,by rw [g,f,o];rfl,fun r cc mm h=>by rw [f] at h;simp at h⟩,k,l,fun e=>⟨J e,p⟩⟩
 ·have q:lArg mN=none:=by unfold lArg;rw [c];rfl
  have s:rArg mN=some a:=by unfold rArg;rw [c,m];rfl
  have x:lRd mN=0:=by unfold lRd;rw [c];rfl
  have y:rRd mN=0:=by unfold rRd;rw [c,n];rfl
  rw [q,s,x,y];exact b
 ·rw [c] at e;cases e
 ·rw [p] at e;cases e
theorem aS3 {a b:Nat}{xa xb:Nd}{zs:List Int}{kk:Rf.Kind}{d pb:Bool}(f:NodeAt w (at2 N) zs (!(Rf.two kk d pb a b).pos) 0 0 0 0 0 (ptrB (at2 a)) (ptrB (at2 b)) nilS' nilP nilP)(J:zs.length=8)(k:ns1[a]?=some xa)(l:xa.had[0]?=some Rf.one)(m:ns1[b]?=some xb)(i:xb.had[0]?=some Rf.one)(c:Pg.Cof kk.cols (colsZ zs))(n:own' (at2 N)=some (.nd N))(o:b0<=at2 N):NodeOk w b0 own' at2 ns1 N (Rf.two kk d pb a b):=by
 obtain ⟨A,B,C,D,E,F,H,I,rfl⟩:=eight J
 have j:∃ u v y z,kk.cols=[u,v,y,z]:=by cases kk<;>exact ⟨_,_,_,_,rfl⟩
 obtain ⟨u,v,y,z,j⟩:=j;have g:(Rf.two kk d pb a b).t=[u,v,y,z]:=j;rw [j] at c;refine ⟨⟨A,B,C,D,E,F,H,I,0,0,nilS',nilP,nilP,⟨?_,Or.inl ⟨rfl,rfl⟩,fun e=>?_,fun _=>rfl,fun _=>rfl,fun e=>(by cases e)⟩,[u,v,y,z],Pg.aCZ g rfl rfl k l m i rfl,c⟩,⟨rfl,rfl,rfl,fun r cc mm h=>by simp [Rf.two,Rf.fresh] at h⟩,n,o,fun e=>by cases e⟩
 ·have p:lArg (Rf.two kk d pb a b)=some a:=by unfold lArg;rw [g];rfl
  have q:rArg (Rf.two kk d pb a b)=some b:=by unfold rArg;rw [g];rfl
  have s:lRd (Rf.two kk d pb a b)=0:=by unfold lRd;rw [g];rfl
  have x:rRd (Rf.two kk d pb a b)=0:=by unfold rRd;rw [g];rfl
  rw [p,q,s,x];exact f
 ·rw [g] at e;cases e
theorem aQp {cb:Nat}{op:Rf.Op}{ts:List Int}(a:NodeAt w (at2 N) [1,0,0,1,0,0,0,0] false 0 0 0 0 0 nilP nilP nilS' (ptrB cb) nilP)(b:ConAt w { Rf.fresh true [] [] with op:=op,terms:=ts} cb)(c:own' (at2 N)=some (.nd N))(d:b0<=at2 N):NodeOk w b0 own' at2 ns1 N { Rf.fresh true [] [] with op:=op,terms:=ts}:=by
 refine ⟨⟨1,0,0,1,0,0,0,0,0,0,nilS',ptrB cb,nilP,⟨a,Or.inl ⟨rfl,rfl⟩,fun _=>⟨rfl,cb,rfl,b⟩,fun e=>absurd rfl e,fun _=>rfl,fun e=>(by cases e)⟩,[(1,0),(0,1)],Pg.aEZ rfl rfl rfl,?_⟩,(Pg.HC.fresh true [] []).of rfl rfl rfl,c,d,fun e=>by cases e⟩;exact .mk2 (e:=1) (by decide) (Pg.aAu _).symm (Pg.aAu _).symm (Pg.aAu _).symm (Pg.aAu _).symm
end
theorem aTa (kk:Rf.Kind):Pg.Cof kk.cols (colsZ (opZ kk)):=by
 cases kk<;>exact .mk4 (e:=1) (by decide) (Pg.aAu _).symm (Pg.aAu _).symm (Pg.aAu _).symm (Pg.aAu _).symm
theorem aQo:Pg.Cof [((-1,0):Rf.V),(0,1)] (colsZ [-1,0,0,1,0,0,0,0]):=.mk2 (e:=1) (by decide) (Pg.aAu _).symm (Pg.aAu _).symm (Pg.aAu _).symm (Pg.aAu _).symm
theorem aDe {w W:World}(c:On Z.bt w W){cb:Nat}{cs:Array Value}(a:w.heap[cb]?=some (.cells cs 224 (0,0))):W.heap[cb]?=some (.cells cs 224 (0,0)):=by
 rcases c.blk cb _ a with e | ⟨e,_⟩
 ·exact e
 ·have b:bt0.contains 224=true:=e;exact absurd b (by decide)
abbrev RB:=Go.Proofs.YteghhlfmcjmnoaaGreatDoor.Bits
theorem rb0 {n:Nat}:RB n 0:=by
 show (0:Int).natAbs<2^n;simp [Nat.pow_pos]
theorem aGb {w:World}{cb:Nat}{g:Nd}(cs:List Value)(j:w.heap[cb]?=some (.cells cs.toArray 224 (0,0)))(r:Rf.ConOk g)(pb:RB 6100 g.p)(v:RB 6100 g.q)(x:∀ k:Nat,k<=3000->∃ a b c d,Rf.constant g k=some ⟨a,b,c,d⟩/\∀ W,On Z.bt w W->Calls Tryz.prog 216 #[ptrB cb,.int .i64 k] W fun e w'=>∃ xs:List Value,e=.returned (.agg xs.toArray)/\Hold true w' [a,b,c,d] xs/\Below W.heap.size W w'):ConAt w g cb:=by
 refine ⟨⟨_,j⟩,fun k hk=>?_⟩;obtain ⟨a,b,c,d,s,u⟩:=x k hk;obtain ⟨m,i,f⟩:=Rf.aCn (n:=g) r (k:=k) hk pb v;rw [s] at i;have o:m=⟨a,b,c,d⟩:=(Option.some.inj i).symm;rw [o] at f;refine ⟨1,a,b,c,d,by decide,by rw [s];simp [Pg.msc],?_,u⟩
 have l:∀ {z:Int},z.natAbs<2^18400->Bits 2 z:=fun h=>aBL (N:=18400) (by decide) h
 intro z t;simp at t
 rcases t with rfl | rfl | rfl | rfl
 ·exact l f.a
 ·exact l f.b
 ·exact l f.c
 ·exact l f.d
theorem zeros1:∀ z∈([0,0,0,0,0,0,0,0]:List Int),Bits 1 z:=bits0
theorem aTe {w:World}{cb:Nat}{ts:List Int}{tv:Value}{cs:List Value}(c:One tv)(a:w.heap[cb]?=some (.cells (.int .i64 2::tv::cs).toArray 224 (0,0)))(b:Hold true w [0,0,0,0,0,0,0,0] cs):ConAt w { Rf.fresh true [] [] with op:=.pi,terms:=ts} cb:=by
 refine aGb _ a (Or.inl rfl) rb0 rb0 fun k hk=>⟨_,_,_,_,aVa (by omega) rfl,fun W hW=>?_⟩
 exact aGc (aDe hW a) c (aAm hW b) rfl zeros1 (con2 0 0 0 0 0 0 0 0 k) (holds1 ⟨by omega,by omega⟩)
theorem aIh {k:Nat}(f:k<=3000):(eterm (k:Int)).natAbs<1000000000000000000:=by
 have b:=e_eq (n:={ Rf.fresh true [] [] with op:=.e}) (k:=k) (by omega) rfl;have c:Rf.constant { Rf.fresh true [] [] with op:=.e} k=some ⟨Rf.eterm k,1,1,0⟩:=rfl;rw [c] at b;have d:Rf.eterm k=eterm (k:Int):=congrArg Mt.a (Option.some.inj b);rw [<-d];unfold Rf.eterm;split
 ·decide
 ·split<;>omega
theorem aUv {w:World}{cb:Nat}{ts:List Int}{tv:Value}{cs:List Value}(c:One tv)(a:w.heap[cb]?=some (.cells (.int .i64 3::tv::cs).toArray 224 (0,0)))(b:Hold true w [0,0,0,0,0,0,0,0] cs):ConAt w { Rf.fresh true [] [] with op:=.e,terms:=ts} cb:=by
 refine aGb _ a (Or.inr (Or.inl rfl)) rb0 rb0 fun k hk=>⟨_,_,_,_,e_eq (by omega) rfl,fun W hW=>?_⟩
 exact aGc (aDe hW a) c (aAm hW b) rfl zeros1 (con3 0 0 0 0 0 0 0 0 k) (holds1 (aIh hk))
theorem aNS {w:World}{cb:Nat}{p q:Int}{cs:List Value}(n:0<p)(o:0<q)(j:RB 6100 p)(e:RB 6100 q)(c:w.heap[cb]?=some (.cells (.int .i64 10::nilS'::cs).toArray 224 (0,0)))(d:Hold true w [0,0,0,0,nearA p q*q,nearB p q*p,nearB p q*q,nearA p q*q] cs):ConAt w (Rf.row .sqrt p q) cb:=by
 obtain ⟨a,b,i,_,_,t,l⟩:=Rf.aFd n o j e
 have r:nearA p q=a:=by unfold nearA;rw [i];rfl
 have s:nearB p q=b:=by unfold nearB;rw [i];rfl
 rw [r,s] at d
 refine aGb _ c (Or.inr (Or.inr (Or.inr ⟨Or.inl rfl,n,o⟩))) j e fun k hk=>⟨a*q,b*p,b*q,a*q,?_,fun W hW=>?_⟩
 ·show (Rf.near p q 20000 1).map _=_;rw [i];rfl
 ·have f:∀ {x y:Int} {u v:Nat},u+v<=10000000->RB u x->RB v y->Bits 1 (x*y):=by
   intro x y u v A B C;refine aBL (N:=u+v) (by omega) ?_;rw [Int.natAbs_mul,Nat.pow_add];exact Nat.mul_lt_mul'' B C
  refine aGc (aDe hW c) rfl (aAm hW d) rfl ?_ (con10 0 0 0 0 (a*q) (b*p) (b*q) (a*q) k) aAc;intro z m
  have g:z=0\/z=a*q\/z=b*p\/z=b*q:=by
   simp only [List.mem_cons,List.not_mem_nil,or_false] at m
   rcases m with h | h | h | h | h | h | h | h<;>simp [h]
  rcases g with rfl | rfl | rfl | rfl
  ·exact zeros1 0 (by simp)
  ·exact f (by decide) t e
  ·exact f (by decide) l j
  ·exact f (by decide) l e
end Ab
open Go.RowKit
namespace Ab
open Rf (Nd Inv NInv Wt)
noncomputable def sCf (tv:Value)(k:Int):AS:=⟨.val (.one (.ptr 0 0))::.val (.one (.sint .i64 k))::List.replicate 34 .und,[(0,ext [.int .i64 4,.lit tv] 224)],1,[],[]⟩
def stC (ks:List (K (List AT))):Bool:=atOp (opCalls 229) ks
noncomputable def cfT (tv:Value)(k:Int):Option Tr:=run Z (tabSp tN) bC (drawA Z (tabSp tN)) stC 400 [.code (bodyOf Tryz.f216),.top Tryz.f216] (sCf tv k)
def atS:Option Tr->AS
 | some (.stop ks s)=>s
 | _=>⟨[],[],0,[],[]⟩
noncomputable def cfS (tv:Value)(k:Int):AS:=atS (cfT tv k)
def put25 (s:AS)(t:Int):AS:=⟨putT s.tmps (some 25) (sintT t),s.boxes,s.next,s.nums,s.dirty⟩
section
variable (tv:Value) (k t:Int)
theorem cf_w:cfT tv k=some (.stop (bef (pD 25) Tryz.f216) (cfS tv k)):=by kernel_rfl
theorem cf_c:callAt Z (cfS tv k) (bef (pD 25) Tryz.f216)=some (229,[.one (.lit tv),.one (.sint .i64 k)],some 25,aft (pD 25) Tryz.f216):=by kernel_rfl
theorem cf_f:noFr (bef (pD 25) Tryz.f216)=true:=by kernel_rfl
theorem cf_t:((run Z (tabSp tN) bC (drawA Z (tabSp tN)) (fun _=>false) 400 (aft (pD 25) Tryz.f216) (put25 (cfS tv k) t)).bind outcome).bind (outN true)=some ([t.natAbs<1000000000000000000],.one (.ns [t,1,1,0]),1):=by kernel_rfl
end
theorem aUu (tv:Value)(k:Int):clean (cfS tv k)=true:=by kernel_rfl
theorem aS8 {w:World}{cb g cap d k:Nat}{t:Int}{xs:List Value}{tv:Value}(r:tv=.slice (some ⟨g,0,none⟩) d cap)(i:w.heap[cb]?=some (.cells (.int .i64 4::tv::xs).toArray 224 (0,0)))(h2:2<=d)(u:d<=1000000)(hk:k<=1000000)(ht:t.natAbs<1000000000000000000)(hc:∀ w',Chg w w' []->w'.cell? ⟨g,cfAt d k,none⟩=some (.int .i64 t)):
  Calls Tryz.prog 216 #[ptrB cb,.int .i64 k] w fun e w'=>∃ ys:List Value,e=.returned (.agg ys.toArray)/\Hold true w' [t,1,1,0] ys/\Below w.heap.size w w':=by
 have J:One tv:=by rw [r];rfl
 have n:RepW Z w (ph1 0 cb) (ph1 0 cb) (sCf tv k) w:=by
  refine aBh rfl ?_ ?_ ?_
  ·intro b B X;have:=aAy X;simp [sCf] at this;obtain ⟨rfl,rfl⟩:=this;exact ⟨rfl,rfl,rfl,cb,0,rfl,[],[.int .i64 4,tv],xs,i,rfl,rfl,⟨rfl,J⟩,trivial⟩
  ·intro b Y;have:1<=b:=Y;unfold ph1;rw [if_neg (by omega)]
  ·intro b k' o f;unfold ph1 at f;split at f
   ·cases f;exact aAf i
   ·cases f
 refine aAP (aAj Tryz.func216 rfl rfl) (φ:=ph1 0 cb) (vs:=[.one (.ptr 0 0),.one (.sint .i64 k)]) (args:=[ptrB cb,.int .i64 k]) (s:=sCf tv k) (by kernel_rfl) ⟨⟨cb,0,rfl,rfl⟩,rfl,trivial⟩ n ?_;intro p φ0 a0 E q F;refine aBY (aAd aAW) aQg (aAI mixed (aAd aAW)) (fun _ _=>False) (fun H s=>H=bef (pD 25) Tryz.f216/\callAt Z s (bef (pD 25) Tryz.f216)=some (229,[.one (.lit tv),.one (.sint .i64 k)],some 25,aft (pD 25) Tryz.f216)/\clean s=true/\((run Z (tabSp tN) bC (drawA Z (tabSp tN)) (fun _=>false) 400 (aft (pD 25) Tryz.f216) (put25 s t)).bind outcome).bind (outN true)=some ([t.natAbs<1000000000000000000],.one (.ns [t,1,1,0]),1)) ?_ (fun _ _ _ _ _ h=>h.elim) _ _ _ _ (cf_w tv k) ⟨rfl,cf_c tv k,aUu tv k,cf_t tv k t⟩ p _ a0 E q F;rintro H s ⟨rfl,y,m,A⟩ T φ a w1 C c;have L:Below w.heap.size w w1:=RepF.below c.wd m
 refine aAx y (aAj Tryz.func229 rfl rfl).en cf_f C c fun us hus=>?_
 match us,hus with
 | [u1,u2],⟨j,l,_⟩=>
 have j:u1=tv:=j.1;have l:u2=.int .i64 k:=l;rw [j,l,r];refine (aKi w1 g cap d k t h2 u hk (hc w1 (Chg.aAi L))).mono ?_;rintro e w2 ⟨rfl,rfl⟩;refine ⟨_,rfl,fun kcs2 hf2 hsr2=>?_⟩
 have x:Rep Z w (ph1 0 cb) φ (put25 s t) (a.put (some 25) (.int .i64 t)) w2:=⟨⟨c.wd.box,c.wd.own,c.wd.inj,c.wd.tip,c.wd.fresh,c.wd.lt,c.wd.low,c.wd.on,c.wd.base,c.wd.exa⟩,by rw [aAw];exact c.defers,aA9 (dst:=some 25) c.tmps (show relT Z φ s.nums w2 (sintT t) (.int .i64 t) from rfl)⟩
 obtain ⟨o,M,N⟩:=bnd A;obtain ⟨tr,O,P⟩:=bnd M;refine aBY (aAd aAW) aQg (aAI mixed (aAd aAW)) _ _ (fun _ _ h=>h.elim) ?_ _ _ _ _ O (aAV P (aCK N (holds1 ht) (Nat.le_refl _))) kcs2 _ _ w2 (hsr2 _ _ _) x;rintro r0 st φ3 v I ⟨m,r',U,D⟩ hrel W;obtain ⟨ys,R,S⟩:=D I v (aCu U hrel);refine ⟨ys,by rw [R],?_,RepF.below W m⟩;exact (aCr (k:=true) (w:=I) _ [t,1,1,0] _ ys (show numsT true ([t,1,1,0].map fun z=>.num true z 1)=some ([t,1,1,0],_) from rfl) S).1
theorem aTc {w:World}{cb:Nat}{ts:List Int}{tv:Value}{cs:List Value}(q:IntRow w ts tv)(h:2<=ts.length)(i:∀ a∈ts,RB 40 a)(b:w.heap[cb]?=some (.cells (.int .i64 4::tv::cs).toArray 224 (0,0))):ConAt w { Rf.fresh true [] [] with op:=.cf,terms:=ts} cb:=by
 obtain ⟨g,m,f,n,o,p⟩:=q
 refine aGb _ b (Or.inr (Or.inr (Or.inl ⟨rfl,h,i⟩))) rb0 rb0 fun k hk=>?_
 have r:=Nat.mod_lt (k-1) (show 0<ts.length-1 by omega)
 have c:cfAt ts.length k<ts.length:=by
  unfold cfAt
  split<;>omega
 have j:ts[cfAt ts.length k]?=some ts[cfAt ts.length k]:=List.getElem?_eq_getElem c;refine ⟨ts[cfAt ts.length k],1,1,0,?_,fun W hW=>?_⟩
 ·show (ts[if k=0 then 0 else 1+(k-1)%(ts.length-1)]?).map _=_;have:ts[if k=0 then 0 else 1+(k-1)%(ts.length-1)]?=some ts[cfAt ts.length k]:=j;rw [this];rfl
 ·have e:=i _ (List.getElem_mem c);have d:(ts[cfAt ts.length k]).natAbs<2^40:=e
  refine aS8 n (aDe hW b) h o (by omega) (Nat.lt_trans d (by decide)) fun w' hc=>?_
  have l:=aBX (hW.trans hc.on) p (by decide);show w'.cell? _=_;rw [aD4 l];simp [List.getElem?_append_left,c]
end Ab
end Go.Proofs.YteghhlfmcjmnoaaGreatDoor
