import Derived.Test.YteghhlfmcjmnoaaGreatDoorCKn20
import Derived.Test.YteghhlfmcjmnoaaGreatDoorCKn04
import Derived.BigQuiet
import Derived.Deep.Trees
import Derived.Deep.LoopGhost
set_option linter.unusedSimpArgs false
set_option linter.unusedVariables false
set_option maxRecDepth 100000
set_option maxHeartbeats 2000000
namespace Go.Proofs.YteghhlfmcjmnoaaGreatDoor
open Go.RowKit
namespace Ab
open Rf (Nd Inv NInv Wt)
theorem aD9 {t b:Int}(a:b≠0):0<gcdZ t b:=by
 unfold gcdZ;have:0<Nat.gcd t.natAbs b.natAbs:=Nat.gcd_pos_of_pos_right _ (by omega);omega
theorem aOj {t b:Int}(c:b≠0):0<lowB t b:=by
 have e:=aD9 (t:=t) c
 have a:gcdZ t b ∣ b:=by
  unfold gcdZ;exact Int.ofNat_dvd_left.2 (Nat.gcd_dvd_right _ _)
 unfold lowB
 rcases Int.lt_or_lt_of_ne c with h | h
 ·rw [Nm.aAC h];show 0 < -b/gcdZ t b;have d:-b=gcdZ t b*(-b/gcdZ t b):=(Int.mul_ediv_cancel' (Int.dvd_neg.2 a)).symm
  rcases Int.lt_or_le 0 (-b/gcdZ t b) with h1 | h1
  ·exact h1
  ·have:=Int.mul_nonpos_of_nonneg_of_nonpos (show (0:Int)<=gcdZ t b by omega) h1;omega
 ·rw [Nm.aAt h];show 0<b/gcdZ t b;have d:b=gcdZ t b*(b/gcdZ t b):=(Int.mul_ediv_cancel' a).symm
  rcases Int.lt_or_le 0 (b/gcdZ t b) with h1 | h1
  ·exact h1
  ·have:=Int.mul_nonpos_of_nonneg_of_nonpos (show (0:Int)<=gcdZ t b by omega) h1;omega
theorem aP3 {kk:Rf.Kind}{p q a b:Int}(c:0<q)(d:0<b)(f:¬(kk=.div/\a=0)):woD (kdK kk) p q a b≠0:=by
 cases kk with
 | add=>exact Int.ne_of_gt (Int.mul_pos c d)
 | sub=>exact Int.ne_of_gt (Int.mul_pos c d)
 | mul=>exact Int.ne_of_gt (Int.mul_pos c d)
 | div=>exact Int.mul_ne_zero (by omega) (fun e=>f ⟨rfl,e⟩)
theorem cmp0 (a:Int):decide (Nm.cmp a 0=0)=decide (a=0):=by
 rcases Int.lt_trichotomy a 0 with h | h | h
 ·rw [Nm.aAC h];simp;omega
 ·rw [Nm.aAz h];simp [h]
 ·rw [Nm.aAt h];simp;omega
theorem xrunT {w0:World}{ψ:Nat->Option (Nat×Nat)}{sp:Spec}{bodies:FuncId->Option Func}{stp:List (K (List AT))->Bool}{R:Ending->World->Prop}(e:SpecOk Z w0 ψ sp)(o:BodiesOk Z bodies){kb:List Nat}{nx:Nat}{rb:List Nat}{ns:AS->Option (AS×List Prop)}(J:∀ b x,ψ b=some x->kb.contains b=true)(q:NrmR ψ ns){n:Nat}{ks:List (K (List AT))}{s:AS}{u:XT}
  (L:(run Z sp bodies (drawA Z sp) stp n ks s).bind (outX (nrm kb [] nx rb) ns)=some u) (G:AT->AS->Prop) (H:List (K (List AT))->AS->Prop) (t:u.ok G H)
  (M:∀ r s' φ' v w',G r s'->(∃ φ0 ν0,relT Z φ0 ν0 w' r v)->RepW Z w0 ψ φ' s' w'->R (.returned v) w')
  (N:∀ ks' s',H ks' s'->noFr ks'=true/\∀ (kcs:List (K Act)) (φ':Nat->Option (Nat×Nat)) (a:Act) (w':World),(∀ φ1 ν1 w1,SR Z φ1 ν1 w1 ks' kcs)->Rep Z w0 ψ φ' s' a w'->sem Z.P R kcs .normal a w'):
  ∀ (kcs:List (K Act)) (φ:Nat->Option (Nat×Nat)) (a:Act) (w:World),SR Z φ s.nums w ks kcs->Rep Z w0 ψ φ s a w->sem Z.P R kcs .normal a w:=by
 intro kcs φ a w m I;obtain ⟨y,z,A⟩:=bnd L;refine aBY e o (aAI mixed e) _ _ ?_ ?_ n ks s y z (aEe A t) kcs φ a w m I
 ·rintro ks' s' ⟨g,p,h,i,j⟩ c φ' E w' d k;obtain ⟨B,C⟩:=N ks' g j;obtain ⟨D,f⟩:=q _ _ _ _ _ _ _ h i k;exact C c D E w' (fun φ1 ν1 w1=>SR.any B d) f
 ·rintro r s' φ' v w' ⟨g,p,h,i,j⟩ F l;exact M r g _ v w' j ⟨_,_,F⟩ (aIw h i J l)
section
variable {w:World}
theorem aJ2 {w':World}{kk:Rf.Kind}{t u:Wt}{m k1 k2:Nat}{ys:List Value}(hB:PartB w' m (kdK kk) ys nilS' (ptrB k1) (ptrB k2))(hH:Hold true w' [0,0] ys)(ht:PartAt w' t (ptrB k1))(hu:PartAt w' u (ptrB k2)):PartAt w' (.two kk t u) (ptrB m):=
 ⟨m,ys,[0,0],nilS',ptrB k1,ptrB k2,rfl,hB,hH,rfl,fun z hz=>zeros1 z (by simp at hz;simp [hz]),rfl,ht,hu⟩
theorem aJy {s0:AS}{kd:Int}{k1 k2:Nat}{tr:Tr}(hs:s0.tmps=[inV kd,q1V,q2V].map .val++List.replicate (Tryz.f106.ntmps-3) .und)(hr:RepW Z w (phQ k1 k2) (phQ k1 k2) s0 w)(ht:goP Tryz.f106 s0=some tr)(G:AT->AS->Prop)(hok:tr.ok G fun _ _=>False){R:Ending->World->Prop}(hG:∀ r s φ v w',G r s->relT Z φ s.nums w' r v->RepW Z w (phQ k1 k2) φ s w'->R (.returned v) w'):Calls Tryz.prog 106 #[.int .i64 kd,ptrB k1,ptrB k2] w R:=
 aBo (s:=s0) (vs:=[inV kd,q1V,q2V]) (args:=[.int .i64 kd,ptrB k1,ptrB k2]) (aAj Tryz.func106 rfl rfl) (aAd aCP) aDp hs ⟨rfl,⟨k1,0,rfl,rfl⟩,⟨k2,0,rfl,rfl⟩,trivial⟩ hr ht G hok hG
theorem aEJ {b:AS}{kk:Rf.Kind}{c d:Nat}{t u:Wt}(hs:b.tmps=[inV (kdK kk),q1V,q2V].map .val++List.replicate (Tryz.f106.ntmps-3) .und)(p:RepW Z w (phQ c d) (phQ c d) b w)(q:goP Tryz.f106 b=some (.ret (tupE (.ptr 3 0) 0) (lP Tryz.f106 b []))/\IsPt (lP Tryz.f106 b []) 3 (kdK kk) [0,0] (.ptr 1 0) (.ptr 2 0)/\clean (lP Tryz.f106 b [])=true)(x:opW kk t u=some (.two kk t u))(y:PartAt w t (ptrB c))(z:PartAt w u (ptrB d)):Calls Tryz.prog 106 #[.int .i64 (kdK kk),ptrB c,ptrB d] w (Told2 w (opW kk t u)):=by
 obtain ⟨f,g,h⟩:=q;refine aJy hs p f (fun r s=>r=tupE (.ptr 3 0) 0/\IsPt s 3 (kdK kk) [0,0] (.ptr 1 0) (.ptr 2 0)/\clean s=true) ⟨rfl,g,h⟩ ?_;rintro r s φ v l ⟨rfl,n,o⟩ hrel e;have a:Chg w l []:=Chg.aAi (RepF.below e o);obtain ⟨m,A,i,j,k⟩:=n.at e (aAo (e.base 1 (c,0) rfl)) (aAo (e.base 2 (d,0) rfl));exact .yes (v:=ptrB m) x a (by rw [aCj hrel (aAo i)]) (aJ2 j k (PartAt.keep a.on t _ y) (PartAt.keep a.on u _ z))
theorem aJB {k a:Nat}:∀ b x,phQ k a b=some x->[1,2].contains b=true:=by
 intro b x e
 match b,e with
 | 0,e=>cases e
 | 1,_=>rfl
 | 2,_=>rfl
 | b+3,e=>cases e
theorem aHB (kk:Rf.Kind){t u:Wt}{v v2:Value}(am:t.Ok)(N:PartAt w t v)(B:u.Ok)(M:PartAt w u v2):Calls Tryz.prog 106 #[.int .i64 (kdK kk),v,v2] w (Told2 w (opW kk t u)):=by
 obtain ⟨k,rfl,⟨p,q,rfl,xs,tv,lv,rv,hB,hH,bp,bq,hq⟩ | ⟨hn,x,f,zs,A⟩⟩:=aCA am N
 ·obtain ⟨g,rfl,⟨a,b,rfl,C,D,E,F,H,I,X,R,hb⟩ | ⟨J,l,o,L,d⟩⟩:=aCA B M
  ·have c:∀ tm,RepW Z w (phQ k g) (phQ k g) (opS2 p q a b tm) w:=fun tm=>aOH ⟨rfl,rfl,rfl⟩ ⟨rfl,rfl,rfl⟩ (cs:=.int .i64 1::xs) (ys:=[tv,lv,rv]) hB (aKr hH bp bq rfl rfl) (cs2:=.int .i64 1::C) (ys2:=[D,E,F]) H (aKr I X R rfl rfl)
   have O:¬(kk=.div/\a=0)->∀ (z:List (K Act)) (φ':Nat->Option (Nat×Nat)) (a':Act) (w':World),(∀ φ1 ν1 W,SR Z φ1 ν1 W (.code (.region rO.1 rO.2.1 true)::rO.2.2) z)->Rep Z w (phQ k g) φ' (opS2 p q a b (oSl (kdK kk))) a' w'->sem Z.P (Told2 w (opW kk (.fr p q) (.fr a b))) z .normal a' w':=by
    intro T z φ1 a1 W U ak;have hW:opW kk (.fr p q) (.fr a b)=some (.fr (lowTo kk p q a b) (lowBo kk p q a b)):=if_neg T;obtain ⟨R,bj,bd⟩:=aUs
    match z,U φ1 [] W with
    | .code cc::kcs',⟨hcc,hsr2⟩=>
    subst hcc;show (Code.region rO.1 rO.2.1 true).wp Z.P _ a1 W;refine aDg mixed (aAd aCP) bj R (dO_t p q a b (kdK kk)) (holds1 (aD9 (aP3 hq hb T))) ak ?_;intro φ2 a2 w2 al;rw [bd];show sem Z.P _ (.ops rO.2.1 [10,11,12]::kcs') .normal a2 w2;obtain ⟨Y,t2,t3⟩:=zO_t p q a b kk;refine aBY (aAd aCP) aDp (aAI mixed (aAd aCP)) (fun r s=>r=tupE (.ptr 14 0) 0/\IsPt s 14 1 [lowTo kk p q a b,lowBo kk p q a b] (.lit nilP) (.lit nilP)/\clean s=true) (fun _ _=>False) (fun _ _ h=>h.elim) ?_ _ _ _ _ Y ⟨rfl,t2,t3⟩ _ _ a2 w2 ⟨rfl,rfl,SR.any frO hsr2⟩ al;rintro r s φ v w' ⟨rfl,hI,hc⟩ hrel y;have i:Chg w w' []:=Chg.aAi (RepF.below y hc);obtain ⟨m,ys,j1,j2,j3⟩:=hI.at y aAh aAh;exact .yes (v:=ptrB m) hW i (by rw [aCj hrel (aAo j1)]) (aOw j2 j3)
   refine aAP (aAj Tryz.func106 rfl rfl) (φ:=phQ k g) (vs:=[inV (kdK kk),q1V,q2V]) (args:=[.int .i64 (kdK kk),ptrB k,ptrB g]) (s:=opFF (kdK kk) p q a b) (by kernel_rfl) ⟨rfl,⟨k,0,rfl,rfl⟩,⟨g,0,rfl,rfl⟩,trivial⟩ (c _) ?_
   by_cases n:kk=.div
   ·subst n;refine xrunT (aAd aCP) aDp aJB (aA7 aJB) (aTN p q a b) (fun r s=>a=0/\r=tupE (.lit nilP) 5/\s.dirty=[]) (fun S s=>a≠0/\S=.code (.region rO.1 rO.2.1 true)::rO.2.2/\s=opS2 p q a b (oSl 9)) ?_ ?_ ?_
    ·rw [cmp0];exact ⟨fun e=>⟨by simpa using e,rfl,rfl⟩,fun e=>⟨by simpa using e,rfl,rfl⟩⟩
    ·rintro r s φ v w' ⟨h0,rfl,n⟩ ⟨φ0,ν0,hrel⟩ y;exact .no (show (if _ then none else _)=none from if_pos ⟨rfl,h0⟩) (aAN y n) (by rw [aCj hrel aAh])
    ·rintro S s ⟨h0,rfl,rfl⟩;exact ⟨by simpa [noFr] using frO,O fun e=>h0 e.2⟩
   ·refine xrun' (aAd aCP) aDp aJB (aA7 aJB) (aU3 p q a b n) (fun _ _=>False) (fun S s=>S=.code (.region rO.1 rO.2.1 true)::rO.2.2/\s=opS2 p q a b (oSl (kdK kk))) ⟨rfl,rfl⟩ (fun _ _ _ _ _ h=>h.elim) ?_;rintro S s ⟨rfl,rfl⟩;exact ⟨by simpa [noFr] using frO,O fun e=>n e.1⟩
  ·have c:RepW Z w (phQ k g) (phQ k g) (opFK (kdK kk) p q l) w:=aOH ⟨rfl,rfl,rfl⟩ ⟨rfl,rfl,rfl⟩ (cs:=.int .i64 1::xs) (ys:=[tv,lv,rv]) hB (aKr hH bp bq rfl rfl) (cs2:=[.int .i64 l]) (ys2:=L) d ⟨rfl,trivial⟩;refine aEJ (by kernel_rfl) c (aU4 p q kk o) ?_ N M
   cases u with
   | fr p q=>exact absurd rfl (J p q)
   | _=>rfl
 ·obtain ⟨g,rfl,⟨a,b,rfl,C,D,E,F,H,I,X,R,hb⟩ | ⟨J,l,o,L,d⟩⟩:=aCA B M
  ·have c:RepW Z w (phQ k g) (phQ k g) (opKF (kdK kk) x a b) w:=aOH ⟨rfl,rfl,rfl⟩ ⟨rfl,rfl,rfl⟩ (cs:=[.int .i64 x]) (ys:=zs) A ⟨rfl,trivial⟩ (cs2:=.int .i64 1::C) (ys2:=[D,E,F]) H (aKr I X R rfl rfl)
   have j:opW kk t (.fr a b)=if kk=.div/\a=0 then none else some (.two kk t (.fr a b)):=by
    cases t with
    | fr p q=>exact absurd rfl (hn p q)
    | _=>rfl
   by_cases n:kk=.div
   ·subst n;obtain ⟨Y,t2,t3,t4⟩:=aTO a b f;refine aJy (by kernel_rfl) c Y (fun r s=>clean s=true/\((a=0/\r=tupE (.lit nilP) 5)\/(a≠0/\r=tupE (.ptr 3 0) 0/\IsPt s 3 9 [0,0] (.ptr 1 0) (.ptr 2 0)))) ?_ ?_
    ·rw [cmp0];refine ⟨fun e=>⟨t2,Or.inl ⟨by simpa using e,rfl⟩⟩,fun e=>⟨t4,Or.inr ⟨by simpa using e,rfl,t3⟩⟩⟩
    ·rintro r s φ v w' ⟨hc,h⟩ hrel y;have i:Chg w w' []:=Chg.aAi (RepF.below y hc)
     rcases h with ⟨h,rfl⟩ | ⟨h,rfl,hI⟩
     ·exact .no (by rw [j,if_pos ⟨rfl,h⟩]) i (by rw [aCj hrel aAh])
     ·obtain ⟨m,ys,j1,j2,j3⟩:=hI.at y (aAo (y.base 1 (k,0) rfl)) (aAo (y.base 2 (g,0) rfl));exact .yes (v:=ptrB m) (by rw [j,if_neg (fun e=>h e.2)]) i (by rw [aCj hrel (aAo j1)]) (aJ2 (kk:=.div) j2 j3 (PartAt.keep i.on t _ N) (PartAt.keep i.on _ _ M))
   ·exact aEJ (by kernel_rfl) c (aU5 a b n f) (by rw [j,if_neg (fun e=>n e.1)]) N M
  ·have c:RepW Z w (phQ k g) (phQ k g) (opKK (kdK kk) x l) w:=aOH ⟨rfl,rfl,rfl⟩ ⟨rfl,rfl,rfl⟩ (cs:=[.int .i64 x]) (ys:=zs) A ⟨rfl,trivial⟩ (cs2:=[.int .i64 l]) (ys2:=L) d ⟨rfl,trivial⟩
   have j:opW kk t u=some (.two kk t u):=by
    cases u with
    | fr p q=>exact absurd rfl (J p q)
    | _=>cases t<;>rfl
   by_cases n:kk=.div
   ·subst n;exact aEJ (by kernel_rfl) c (aTP f o) j N M
   ·exact aEJ (by kernel_rfl) c (aU6 n l f) j N M
end
end Ab
open Go.RowKit
def wagg (x:Rd.Wd):Value:=.agg #[.int .i64 x.kind,.string x.text,.int .i64 x.pos]
theorem Rdr.cells {w:World}{rb g cap:Nat}{ws:List Rd.Wd}{st:Rd.St}(h:Rdr w rb g cap ws st)(n:Nat)(m:n<ws.length):
  w.cell? ⟨g,n*3,none⟩=some (.int .i64 (Rd.wordAt ws n).kind)/\w.cell? ⟨g,n*3+1,none⟩=some (.string (Rd.wordAt ws n).text)/\w.cell? ⟨g,n*3+2,none⟩=some (.int .i64 (Rd.wordAt ws n).pos):=by
 obtain ⟨f,j,k⟩:=h.row
 have d:∀ i v,i<ws.length*3->(Rd.wcells ws)[i]?=some v->w.cell? ⟨g,i,none⟩=some v:=by
  intro i v l e;refine aAa j ?_;rw [<-k,List.getElem?_take_of_lt l] at e
  simpa using e
 obtain ⟨a,b,c⟩:=Rd.aNF ws n m;exact ⟨d _ _ (by omega) a,d _ _ (by omega) b,d _ _ (by omega) c⟩
theorem aRZ (w:World)(rb g cap:Nat)(ws:List Rd.Wd)(st:Rd.St)(h:Rdr w rb g cap ws st)(f:st.next<ws.length):
  Calls Tryz.prog 65 #[.pointer (some ⟨rb,0,none⟩)] w fun e w'=>e=.returned (wagg (Rd.wordAt ws st.next))/\Below w.heap.size w w':=by
 have i:=h.c0;have j:=h.c1;obtain ⟨k,l,m⟩:=h.cells st.next f;have b:=h.lt
 have a:g<w.heap.size:=by obtain ⟨c,d,_⟩:=h.row;exact aAL d
 clear h
 go_enter Tryz.func65,Tryz.ntmps65
 go_wp2_with fail
 go_quiet (fail)
 go_wp2_with fail
 go_region
 all_goals go_wp2_with fail
 exact bodyPost_ret (v:=.agg #[.int .i64 (Rd.wordAt ws st.next).kind,.string (Rd.wordAt ws st.next).text,.int .i64 (Rd.wordAt ws st.next).pos]) (by simp [results,Tryz.results65,go_sem]) rfl
  ⟨rfl,(((below_drewN ((Below.refl _ _).alloc (Nat.le_refl _) _) _).setCell (Nat.le_refl _) _).setCell (Nat.le_refl _) _).setCell (Nat.le_refl _) _⟩
theorem aPa (w:World)(rb g cap:Nat)(ws:List Rd.Wd)(st:Rd.St)(h:Rdr w rb g cap ws st)(d:¬st.next<ws.length):
  Calls Tryz.prog 65 #[.pointer (some ⟨rb,0,none⟩)] w fun e w'=>e=.returned (.agg #[.int .i64 0,.string ⟨#[]⟩,.int .i64 0])/\Below w.heap.size w w':=by
 have b:=h.c0;have c:=h.c1;have a:=h.lt;clear h
 go_enter Tryz.func65,Tryz.ntmps65
 go_wp2_with fail
 go_quiet (fail)
 go_wp2_with fail
 exact bodyPost_ret (v:=.agg #[.int .i64 0,.string ⟨#[]⟩,.int .i64 0]) (by simp [results,Tryz.results65,go_sem]) rfl
  ⟨rfl,(((below_drewN ((Below.refl _ _).alloc (Nat.le_refl _) _) _).setCell (Nat.le_refl _) _).setCell (Nat.le_refl _) _).setCell (Nat.le_refl _) _⟩
theorem aCR (w:World)(rb g cap:Nat)(ws:List Rd.Wd)(st:Rd.St)(h:Rdr w rb g cap ws st):
  Calls Tryz.prog 65 #[.pointer (some ⟨rb,0,none⟩)] w fun e w'=>e=.returned (wagg (Rd.wordAt ws st.next))/\Below w.heap.size w w':=by
 by_cases a:st.next<ws.length
 ·exact aRZ w rb g cap ws st h a
 ·have e:Rd.wordAt ws st.next=⟨0,⟨#[]⟩,0⟩:=by
   unfold Rd.wordAt List.getD;rw [List.getElem?_eq_none (by omega)];rfl
  rw [e];exact aPa w rb g cap ws st h a
namespace Rd
abbrev Tr:=Go.Deep.BT (Int×Int×List Int)
def leafT (k v:Int)(ts:List Int):Tr:=.node 0 0 (k,v,ts) .nil .nil
def unT (k:Int)(x:Tr):Tr:=.node 0 0 (k,0,[]) x .nil
def opT (k:Int)(l r:Tr):Tr:=.node 0 0 (k,0,[]) l r
def tk (ws:List Wd)(st:St)(c:ByteArray):Bool:=(!((wordAt ws st.next).kind==0))&&isT (wordAt ws st.next).text c.data.toList
def St.ok (st:St):Prop:=st.next<1000/\st.around<1000/\st.deepest<1000/\st.nodes<1000
def St.okB (st:St):Bool:=decide (st.next<1000/\st.around<1000/\st.deepest<1000/\st.nodes<1000)
def St.leaf (st:St):St:={st with nodes:=st.nodes+1,deepest:=bif decide (st.deepest<st.around) then st.around else st.deepest}
def St.node (st:St):St:={st with nodes:=st.nodes+1}
def St.adv (st:St):St:={st with next:=st.next+1}
def St.inn (st:St):St:={st with around:=st.around+1}
def St.out (st:St):St:={st with around:=st.around-1}
def St.okOut (st:St):Bool:=st.okB&&decide (1<=st.around)
theorem St.aCS {st:St}(h:st.okB=true):st.ok:=by simpa [St.okB,St.ok] using h
abbrev Ans:=Option (Option Tr×St)
def term (ws:List Wd)(st:St):Int×St:=
 bif (wordAt ws st.next).kind==1 then
  bif valTo (wordAt ws st.next).text (wordAt ws st.next).text.size==0 then (0,st) else (valTo (wordAt ws st.next).text (wordAt ws st.next).text.size,st.adv)
 else (0,st)
def terms (ws:List Wd):Nat->Nat->List Int->St->Option (Option (List Int)×St)
 | 0,_,_,_=>none
 | f+1,c,ts,st=>
  bif st.okB&&(term ws st).2.okB then
   bif (term ws st).1==0 then some (none,(term ws st).2)
   else bif tk ws (term ws st).2 ⟨#[93]⟩ then some (some (ts++[(term ws st).1]),(term ws st).2.adv)
   else bif c==8 then some (none,(term ws st).2)
   else bif tk ws (term ws st).2 ⟨#[44]⟩ then terms ws f (c+1) (ts++[(term ws st).1]) (term ws st).2.adv
   else some (none,(term ws st).2)
  else none
def cfOf:Option (Option (List Int)×St)->Ans
 | none=>none
 | some (none,st)=>some (none,st)
 | some (some ts,st)=>bif st.okB then some (some (leafT 4 0 ts),st.leaf) else none
def continued (ws:List Wd)(st:St):Ans:=
 bif decide (st.next<900)&&st.okB then
  bif tk ws st ⟨#[91]⟩ then
   bif (wordAt ws st.adv.next).kind==1 then
    bif tk ws st.adv.adv ⟨#[59]⟩ then cfOf (terms ws 8 1 [valTo (wordAt ws st.adv.next).text (wordAt ws st.adv.next).text.size] st.adv.adv.adv)
    else some (none,st.adv.adv)
   else some (none,st.adv)
  else some (none,st)
 else none
def unaryOf (k:Int):Option Tr->St->Ans
 | none,st=>some (none,st)
 | some x,st=>bif st.okB then some (some (unT k x),st.node) else none
def operOf (k:Int)(l:Tr):Option Tr->St->Ans
 | none,st=>some (none,st)
 | some r,st=>bif st.okB then some (some (opT k l r),st.node) else none
def Ans.next (a:Ans)(f:Option Tr->St->Ans):Ans:=
 match a with
 | none=>none
 | some (x,st)=>f x st
def nameOf (ws:List Wd)(k:Int)(st:St)(b:St->Ans):Ans:=
 bif k==0 then some (none,st)
 else bif k==2||k==3 then (bif st.adv.okB then some (some (leafT k 0 []),st.adv.leaf) else none)
 else bif k==4 then continued ws st.adv
 else (b st.adv).next fun x st2=>unaryOf k x st2
def closeOf (ws:List Wd)(x:Option Tr)(st:St):Ans:=
 bif st.okOut then
  match x with
  | none=>some (none,st.out)
  | some t=>bif tk ws st.out ⟨#[41]⟩ then some (some t,st.out.adv) else some (none,st.out)
 else none
def parse (ws:List Wd):Nat->Nat->Option Tr->St->Ans
 | 0,_,_,_=>none
 | f+1,0,_,st=>(parse ws f 2 none st).next fun l st1=>parse ws f 1 l st1
 | _+1,1,none,st=>some (none,st)
 | f+1,1,some l,st=>
  bif st.okB then
   bif tk ws st ⟨#[43]⟩ then (parse ws f 2 none st.adv).next fun r st2=>(operOf 6 l r st2).next fun l' st3=>parse ws f 1 l' st3
   else bif tk ws st ⟨#[45]⟩ then (parse ws f 2 none st.adv).next fun r st2=>(operOf 7 l r st2).next fun l' st3=>parse ws f 1 l' st3
   else some (some l,st)
  else none
 | f+1,2,_,st=>(parse ws f 4 none st).next fun l st1=>parse ws f 3 l st1
 | _+1,3,none,st=>some (none,st)
 | f+1,3,some l,st=>
  bif st.okB then
   bif tk ws st ⟨#[42]⟩ then (parse ws f 4 none st.adv).next fun r st2=>(operOf 8 l r st2).next fun l' st3=>parse ws f 3 l' st3
   else bif tk ws st ⟨#[47]⟩ then (parse ws f 4 none st.adv).next fun r st2=>(operOf 9 l r st2).next fun l' st3=>parse ws f 3 l' st3
   else some (some l,st)
  else none
 | f+1,4,_,st=>
  bif st.okB then
   bif tk ws st ⟨#[45]⟩ then (parse ws f 4 none st.adv.inn).next fun x st2=>bif st2.okOut then unaryOf 5 x st2.out else none
   else parse ws f 5 none st
  else none
 | f+1,5,_,st=>
  bif st.okB then
   bif (wordAt ws st.next).kind==1 then
    (bif st.adv.okB then some (some (leafT 1 (valTo (wordAt ws st.next).text (wordAt ws st.next).text.size) []),st.adv.leaf) else none)
   else bif (wordAt ws st.next).kind==2 then nameOf ws (named (wordAt ws st.next).text) st (fun st'=>parse ws f 6 none st')
   else parse ws f 6 none st
  else none
 | f+1,_,_,st=>
  bif st.okB then
   bif tk ws st ⟨#[40]⟩ then (parse ws f 0 none st.adv.inn).next fun x st2=>closeOf ws x st2
   else some (none,st)
  else none
def read (f:Nat)(s:ByteArray):Option (Option Tr×Int×Int):=
 bif decide (120<s.size) then some (none,1,0)
 else
  match parse (split s (s.size+1) 0) f 0 none ⟨0,0,0,0⟩ with
  | none=>none
  | some (none,st)=>some (none,2,(wordAt (split s (s.size+1) 0) st.next).pos)
  | some (some t,st)=>
   bif (wordAt (split s (s.size+1) 0) st.next).kind==0 then
    bif decide (12<st.deepest)||decide (40<st.nodes) then some (none,3,0) else some (some t,0,0)
   else some (none,2,(wordAt (split s (s.size+1) 0) st.next).pos)
end Rd
open Go.RowKit
theorem aJX (w:World)(rb g cap:Nat)(ws:List Rd.Wd)(st:Rd.St)(c:ByteArray)(h:Rdr w rb g cap ws st)(p:st.next<1000):
  Calls Tryz.prog 99 #[.pointer (some ⟨rb,0,none⟩),.string c] w fun e w'=>e=.returned (.bool (Rd.tk ws st c))/\Rdr w' rb g cap ws (bif Rd.tk ws st c then {st with next:=st.next+1} else st)/\Keep rb w w':=by
 have a:=aCR w rb g cap ws st h;unfold wagg at a
 have i:Hid (Rd.tk ws st c=((!((Rd.wordAt ws st.next).kind==0))&&((Rd.wordAt ws st.next).text.toList==c.toList))):=by
  show _=_;rw [Rd.aPu,ByteArray.toList_eq];rfl
 generalize Rd.wordAt ws st.next=x at*;have f:Hid (Calls Tryz.prog 65 #[.pointer (some ⟨rb,0,none⟩)] w fun e w'=>e=.returned (.agg #[.int .i64 x.kind,.string x.text,.int .i64 x.pos])/\Below w.heap.size w w'):=a;clear a;cases j:(x.kind==0)
 all_goals cases k:(x.text.toList==c.toList)
 all_goals
  go_enter Tryz.func99,Tryz.ntmps99
  go_wp2_with fail
  refine (f.out).mono ?_;rintro e o ⟨rfl,d⟩;have b:=h.below d;have l:=b.c1;have m:=b.fz 1;have n:=b.lt
  go_wp2_with fail
  go_ret
  rw [i.out,j,k]
 ·exact ⟨rfl,b.alloc _,(Keep.aAi d).alloc _⟩
 ·exact ⟨rfl,(b.set1 (st.next+1) (by simp)).alloc _,((Keep.aAi d).setCell 1 _).alloc _⟩
 ·exact ⟨rfl,b.alloc _,(Keep.aAi d).alloc _⟩
 ·exact ⟨rfl,b.alloc _,(Keep.aAi d).alloc _⟩
theorem aEH (w:World)(rb g cap:Nat)(ws:List Rd.Wd)(st:Rd.St)(v:Value)(h:Rdr w rb g cap ws st)(a:st.ok):
  Calls Tryz.prog 184 #[.pointer (some ⟨rb,0,none⟩),v] w fun e w'=>e=.returned v/\Rdr w' rb g cap ws st.leaf/\Keep rb w w':=by
 obtain ⟨k,l,m,n⟩:=a;have b:=h.c2;have c:=h.c3;have d:=h.c4;have f:=h.fz 3;have i:=h.fz 4;have j:=h.lt
 by_cases t:(st.deepest:Int)<st.around
 ·go_enter Tryz.func184,Tryz.ntmps184
  go_wp2_with fail
  go_quiet (fail)
  go_wp2_with fail
  go_ret
  have e:st.leaf={ {st with nodes:=st.nodes+1} with deepest:=st.around}:=by simp [Rd.St.leaf,show st.deepest<st.around by omega]
  rw [e];exact ⟨rfl,((h.set4 (st.nodes+1) (by simp)).drewN _).set3 st.around rfl,(((Keep.refl _ _).setCell 4 _).drewN _).setCell 3 _⟩
 ·go_enter Tryz.func184,Tryz.ntmps184
  go_wp2_with fail
  go_quiet (fail)
  go_wp2_with fail
  go_ret
  have e:st.leaf={st with nodes:=st.nodes+1}:=by simp [Rd.St.leaf,show ¬st.deepest<st.around by omega]
  rw [e];exact ⟨rfl,(h.set4 (st.nodes+1) (by simp)).drewN _,((Keep.refl _ _).setCell 4 _).drewN _⟩
theorem aH0 (w:World)(r:Value)(kd:Int):
  Calls Tryz.prog 171 #[r,.int .i64 kd,.pointer none] w fun e w'=>e=.returned (.pointer none)/\w=w':=by
 go_enter Tryz.func171,Tryz.ntmps171
 go_wp2_with fail
 go_ret
 exact ⟨rfl,rfl⟩
theorem aAr (w:World)(o:Obj):(w.alloc o).heap[w.heap.size]?=some o:=by
 show (w.heap.push o)[w.heap.size]?=some o;simp
theorem aCO (w:World)(a:Addr)(u:Value):(w.setCell a u).heap.size=w.heap.size:=by simp [World.setCell]
theorem aFV (w:World)(rb g cap:Nat)(ws:List Rd.Wd)(st:Rd.St)(kd:Int)(a:Addr)(h:Rdr w rb g cap ws st)(b:st.ok):
  Calls Tryz.prog 171 #[.pointer (some ⟨rb,0,none⟩),.int .i64 kd,.pointer (some a)] w fun e w'=>e=.returned (.pointer (some ⟨w.heap.size,0,none⟩))/\Rdr w' rb g cap ws st.node/\Keep rb w w'/\
   w'.heap[w.heap.size]?=some (.cells #[.int .i64 kd,.int .i64 0,.slice none 0 0,.pointer (some a),.pointer none] 163 (0,0)):=by
 obtain ⟨i,j,k,l⟩:=b;have c:=h.c4;have d:=h.fz 4;have f:=h.lt
 go_enter Tryz.func171,Tryz.ntmps171
 go_wp2_with fail
 go_ret
 refine ⟨rfl,(h.set4 (st.nodes+1) (by simp)).alloc _,((Keep.refl _ _).setCell 4 _).alloc _,?_⟩;rw [<-aCO w ⟨rb,4,none⟩ (.int .i64 (st.nodes+1))];exact aAr _ _
theorem aB4 (w:World)(r l:Value)(kd:Int):
  Calls Tryz.prog 100 #[r,.int .i64 kd,l,.pointer none] w fun e w'=>e=.returned (.pointer none)/\w=w':=by
 go_enter Tryz.func100,Tryz.ntmps100
 go_wp2_with fail
 go_ret
 exact ⟨rfl,rfl⟩
theorem aBS (w:World)(rb g cap:Nat)(ws:List Rd.Wd)(st:Rd.St)(kd:Int)(a b:Addr)(h:Rdr w rb g cap ws st)(c:st.ok):
  Calls Tryz.prog 100 #[.pointer (some ⟨rb,0,none⟩),.int .i64 kd,.pointer (some a),.pointer (some b)] w fun e w'=>e=.returned (.pointer (some ⟨w.heap.size,0,none⟩))/\Rdr w' rb g cap ws st.node/\Keep rb w w'/\
   w'.heap[w.heap.size]?=some (.cells #[.int .i64 kd,.int .i64 0,.slice none 0 0,.pointer (some a),.pointer (some b)] 163 (0,0)):=by
 obtain ⟨j,k,l,m⟩:=c;have d:=h.c4;have f:=h.fz 4;have i:=h.lt
 go_enter Tryz.func100,Tryz.ntmps100
 go_wp2_with fail
 go_ret
 refine ⟨rfl,(h.set4 (st.nodes+1) (by simp)).alloc _,((Keep.refl _ _).setCell 4 _).alloc _,?_⟩;rw [<-aCO w ⟨rb,4,none⟩ (.int .i64 (st.nodes+1))];exact aAr _ _
open Go.RowKit
open Go.Deep (BT)
def TermsAt (rb:Nat)(w:World)(ts:List Int)(tv:Value):Prop:=
 (ts=[]/\tv=.slice none 0 0)\/∃ tb cap cur,tv=.slice (some ⟨tb,0,none⟩) ts.length cap/\tb≠rb/\w.heap[tb]?=some (.cells cur 3 (0,0))/\ts.length<=cap/\cur.toList.take ts.length=ts.map (Value.int .i64)
def Enc (rb:Nat)(w:World):Rd.Tr->Value->Prop
 | .nil,v=>v=.pointer none
 | .node _ _ a l r,v=>∃ b tv lv rv,v=.pointer (some ⟨b,0,none⟩)/\b≠rb/\w.heap[b]?=some (.cells #[.int .i64 a.1,.int .i64 a.2.1,tv,lv,rv] 163 (0,0))/\TermsAt rb w a.2.2 tv/\Enc rb w l lv/\Enc rb w r rv
def EncO (rb:Nat)(w:World):Option Rd.Tr->Value->Prop
 | none,v=>v=.pointer none
 | some t,v=>(∃ b,v=.pointer (some ⟨b,0,none⟩))/\Enc rb w t v
theorem TermsAt.keep {rb:Nat}{w w':World}{ts:List Int}{tv:Value}(h:TermsAt rb w ts tv)(a:Keep rb w w'):TermsAt rb w' ts tv:=by
 rcases h with h | ⟨tb,cap,cur,h1,h2,h3,h4⟩
 ·exact Or.inl h
 ·exact Or.inr ⟨tb,cap,cur,h1,h2,by rw [a.block tb (aAL h3) h2];exact h3,h4⟩
theorem Enc.keep {rb:Nat}{w w':World}(e:Keep rb w w'):∀ {t:Rd.Tr} {v:Value},Enc rb w t v->Enc rb w' t v:=by
 intro t
 induction t with
 | nil=>intro v h;exact h
 | node _ _ a l r ihl ihr=>
  intro v h;obtain ⟨b,f,g,i,j,c,d,k,m,n⟩:=h;exact ⟨b,f,g,i,j,c,by rw [e.block b (aAL d) c];exact d,k.keep e,ihl m,ihr n⟩
theorem aBQ {rb b:Nat}{w:World}{k v:Int}{ts:List Int}{tv lv rv:Value}{l r:Rd.Tr}(hb:b≠rb)(h:w.heap[b]?=some (.cells #[.int .i64 k,.int .i64 v,tv,lv,rv] 163 (0,0)))
  (ht:TermsAt rb w ts tv) (hl:Enc rb w l lv) (hr:Enc rb w r rv):EncO rb w (some (.node 0 0 (k,v,ts) l r)) (.pointer (some ⟨b,0,none⟩)):=
 ⟨⟨b,rfl⟩,b,tv,lv,rv,rfl,hb,h,ht,hl,hr⟩
def WsOk (ws:List Rd.Wd):Prop:=∀ n,(Rd.wordAt ws n).kind=1->(Rd.wordAt ws n).text.size<=9
theorem aOS (w:World)(rb g cap:Nat)(ws:List Rd.Wd)(st:Rd.St)(h:Rdr w rb g cap ws st)(t:st.next<1000)(i:WsOk ws):
  Calls Tryz.prog 213 #[.pointer (some ⟨rb,0,none⟩)] w fun e w'=>e=.returned (.int .i64 (Rd.term ws st).1)/\Rdr w' rb g cap ws (Rd.term ws st).2/\Keep rb w w':=by
 have a:=aCR w rb g cap ws st h;unfold wagg at a;have c:=i st.next;have m:Hid (Rd.term ws st=bif (Rd.wordAt ws st.next).kind==1 then bif Rd.valTo (Rd.wordAt ws st.next).text (Rd.wordAt ws st.next).text.size==0 then (0,st) else (Rd.valTo (Rd.wordAt ws st.next).text (Rd.wordAt ws st.next).text.size,st.adv) else (0,st)):=rfl;clear i;generalize Rd.wordAt ws st.next=x at*;have d:Hid (Calls Tryz.prog 65 #[.pointer (some ⟨rb,0,none⟩)] w fun e w'=>e=.returned (.agg #[.int .i64 x.kind,.string x.text,.int .i64 x.pos])/\Below w.heap.size w w'):=a;have k:Hid (x.kind=1->x.text.size<=9):=c;clear a c;cases j:(x.kind==1)
 ·have o:(x.kind != 1)=true:=by simp [bne,j]
  go_enter Tryz.func213,Tryz.ntmps213
  go_wp2_with fail
  refine (d.out).mono ?_;rintro e p ⟨rfl,b⟩
  go_wp2_with fail
  go_ret
  rw [m.out,j];exact ⟨rfl,(h.below b).alloc _,(Keep.aAi b).alloc _⟩
 ·have l:x.text.size<=9:=k.out (by simpa using j);cases n:(Rd.valTo x.text x.text.size==0)
  all_goals
   go_enter Tryz.func213,Tryz.ntmps213
   go_wp2_with fail
   refine (d.out).mono ?_;rintro e p ⟨rfl,b⟩;have f:=h.below b;have q:=f.c1;have r:=f.fz 1;have s:=f.lt
   go_wp2_with (go_at_call 183;refine (aFw _ _ _ _ l).mono ?_;rintro e w' ⟨rfl,rfl⟩)
   go_ret
   rw [m.out,j,n]
  ·exact ⟨rfl,((f.set1 (st.next+1) (by simp)).alloc _).alloc _,(((Keep.aAi b).setCell 1 _).alloc _).alloc _⟩
  ·exact ⟨aCt (by simpa using n),(f.alloc _).alloc _,((Keep.aAi b).alloc _).alloc _⟩
theorem aBn (w:World)(rb g cap:Nat)(ws:List Rd.Wd)(st:Rd.St)(c:ByteArray)(h:Rdr w rb g cap ws st)(a:st.next<1000)(t:Rd.tk ws st c=true):
  Calls Tryz.prog 99 #[.pointer (some ⟨rb,0,none⟩),.string c] w fun e w'=>e=.returned (.bool true)/\Rdr w' rb g cap ws st.adv/\Keep rb w w':=by
 have:=aJX w rb g cap ws st c h a;rw [t] at this;exact this
theorem aBB (w:World)(rb g cap:Nat)(ws:List Rd.Wd)(st:Rd.St)(c:ByteArray)(h:Rdr w rb g cap ws st)(a:st.next<1000)(t:Rd.tk ws st c=false):
  Calls Tryz.prog 99 #[.pointer (some ⟨rb,0,none⟩),.string c] w fun e w'=>e=.returned (.bool false)/\Rdr w' rb g cap ws st/\Keep rb w w':=by
 have:=aJX w rb g cap ws st c h a;rw [t] at this;exact this
def Post (rb g cap:Nat)(ws:List Rd.Wd)(w:World)(res:Option Rd.Tr)(st':Rd.St)(e:Ending)(w':World):Prop:=
 ∃ v,e=.returned v/\EncO rb w' res v/\Rdr w' rb g cap ws st'/\Keep rb w w'
theorem Post.nil {rb g cap:Nat}{ws:List Rd.Wd}{w w':World}{st':Rd.St}(h:Rdr w' rb g cap ws st')(hk:Keep rb w w'):Post rb g cap ws w none st' (.returned (.pointer none)) w':=
 ⟨_,rfl,rfl,h,hk⟩
theorem aAX {rb:Nat}{wr w':World}{B e size n:Nat}{v:Value}{xs:List Value}(a:wr.ownsRow B e size v n xs)(d:Keep rb wr w')(f:rb<B):w'.ownsRow B e size v n xs:=by
 obtain ⟨c,b⟩:=a;refine ⟨c,?_⟩
 rcases b with b | ⟨g,cap,cur,hv,hg,hh,r⟩
 ·exact Or.inl b
 ·exact Or.inr ⟨g,cap,cur,hv,hg,by rw [d.block g (aAL hh) (by omega)];exact hh,r⟩
theorem aEG {rb:Nat}{w wr w3:World}{B e size n:Nat}{l:Value}{xs:List Value}(b:wr.ownsRow B e size l n xs)(j:Keep rb w wr)(m:w.heap.size<=B)(o:Obj)(c:(wr.alloc o).grownBy w3 l.ownBlock):Keep rb w w3:=by
 have a:=j.alloc o;refine ⟨c.os.trans a.os,c.tape.trans a.tape,c.output.trans a.output,Nat.le_trans a.size c.size,fun k hk' hn=>?_⟩;rw [c.block k (Nat.lt_of_lt_of_le hk' a.size) ?_]
 ·exact a.block k hk' hn
 ·intro e
  rcases b.2 with ⟨h,_⟩ | ⟨g,d,f,h,i,_⟩
  ·rw [h] at e;cases e
  ·rw [h] at e;simp only [Value.ownBlock,Option.some.injEq] at e;omega
theorem aGD {rb g cap:Nat}{ws:List Rd.Wd}{st:Rd.St}{wr w3:World}{B e size n:Nat}{l:Value}{xs:List Value}(h:Rdr wr rb g cap ws st)(c:wr.ownsRow B e size l n xs)(f:rb<B)(i:g<B)(o:Obj)(r:(wr.alloc o).grownBy w3 l.ownBlock):Rdr w3 rb g cap ws st:=by
 have d:=h.alloc o
 have a:∀ k,k<B->k<(wr.alloc o).heap.size->w3.heap[k]?=(wr.alloc o).heap[k]?:=by
  intro k s q;refine r.block k q ?_;intro e
  rcases c.2 with ⟨h,_⟩ | ⟨g,cap,b,h,m,_⟩
  ·rw [h] at e;cases e
  ·rw [h] at e;simp only [Value.ownBlock,Option.some.injEq] at e;omega
 obtain ⟨b,j,p⟩:=d.row;exact ⟨by rw [a rb f d.lt];exact d.rd,⟨b,by rw [a g i (aAL j)];exact j,p⟩,d.ne⟩
theorem aNo {rb B n:Nat}{w:World}{v:Value}{ts:List Int}(a:w.ownsRow B 3 1 v n (ts.map (Value.int .i64)))(j:rb<B)(k:n=ts.length)(l:0<n):TermsAt rb w ts v:=by
 rcases a.2 with ⟨_,h⟩ | ⟨g,b,c,h,d,e,f,_,_,i⟩
 ·omega
 ·subst k;exact Or.inr ⟨g,b,c,h,by omega,e,f,by simpa using i⟩
open Go.RowKit
theorem infoInt:(Tryz.prog.info? 3).map (fun i=>(i.zero,i.size,i.bytes))=some (some (.int .i64 0),1,8):=by kernel_rfl
theorem aNT (w:World)(rb g cap:Nat)(ws:List Rd.Wd)(st:Rd.St)(h:Rdr w rb g cap ws st)(c:st.next<1000)(d:Rd.tk ws st ⟨#[91]⟩=false):
  Calls Tryz.prog 201 #[.pointer (some ⟨rb,0,none⟩)] w (Post rb g cap ws w none st):=by
 go_enter Tryz.func201,Tryz.ntmps201
 go_wp2_with fail
 refine (aBB _ rb g cap ws st _ h c d).mono ?_;rintro e f ⟨rfl,a,b⟩
 go_wp2_with fail
 go_ret
 exact Post.nil a b
theorem aNU (w:World)(rb g cap:Nat)(ws:List Rd.Wd)(st:Rd.St)(h:Rdr w rb g cap ws st)(j:st.next<900)(d:Rd.tk ws st ⟨#[91]⟩=true)(k:((Rd.wordAt ws st.adv.next).kind != 1)=true):
  Calls Tryz.prog 201 #[.pointer (some ⟨rb,0,none⟩)] w (Post rb g cap ws w none st.adv):=by
 go_enter Tryz.func201,Tryz.ntmps201
 go_wp2_with fail
 refine (aBn _ rb g cap ws st _ h (by omega) d).mono ?_;rintro e f ⟨rfl,a,c⟩
 go_wp2_with fail
 refine (aCR _ rb g cap ws _ a).mono ?_;unfold wagg;rintro e i ⟨rfl,b⟩
 go_wp2_with fail
 go_ret
 exact Post.nil ((a.below b).alloc _) ((c.trans (Keep.aAi b)).alloc _)
theorem aNV (w:World)(rb g cap:Nat)(ws:List Rd.Wd)(st:Rd.St)(h:Rdr w rb g cap ws st)(s:st.next<900)(j:Rd.tk ws st ⟨#[91]⟩=true)(t:((Rd.wordAt ws st.adv.next).kind != 1)=false)(k:Rd.tk ws st.adv.adv ⟨#[59]⟩=false):
  Calls Tryz.prog 201 #[.pointer (some ⟨rb,0,none⟩)] w (Post rb g cap ws w none st.adv.adv):=by
 have l:st.adv.next<901:=by show st.next+1<901;omega
 go_enter Tryz.func201,Tryz.ntmps201
 go_wp2_with fail
 refine (aBn _ rb g cap ws st _ h (by omega) j).mono ?_;rintro e p ⟨rfl,b,d⟩
 go_wp2_with fail
 refine (aCR _ rb g cap ws _ b).mono ?_;unfold wagg;rintro e q ⟨rfl,c⟩;have a:=b.below c;have m:=a.c1;have n:=a.fz 1;have o:=a.lt
 go_wp2_with fail
 refine (aBB _ rb g cap ws st.adv.adv _ ((a.set1 (st.adv.next+1) (by simp)).alloc _) (by show st.adv.next+1<1000;omega) k).mono ?_;rintro e r ⟨rfl,f,i⟩
 go_wp2_with fail
 go_ret
 exact Post.nil f ((((d.trans (Keep.aAi c)).setCell 1 _).alloc _).trans i)
theorem aKh (w:World)(o o':Obj):((w.alloc o).alloc o').heap[w.heap.size+1]?=some o':=by
 have:=aAr (w.alloc o) o'
 simpa using this
theorem aIM {ws:List Rd.Wd}{c:Nat}{ts:List Int}{b a:Rd.St}{tv:Int}{R:Option (Option (List Int)×Rd.St)}{x:Option Rd.Tr×Rd.St}(k:c<=8)(h:Rd.terms ws (9-c) c ts b=R)(g:Rd.cfOf R=some x)(j:Rd.term ws b=(tv,a)):
  b.ok/\a.ok/\R=bif tv==0 then some (none,a) else bif Rd.tk ws a ⟨#[93]⟩ then some (some (ts++[tv]),a.adv) else bif c==8 then some (none,a) else bif Rd.tk ws a ⟨#[44]⟩ then Rd.terms ws (9-(c+1)) (c+1) (ts++[tv]) a.adv else some (none,a):=by
 obtain ⟨f,i⟩:∃ f,9-c=f+1:=⟨8-c,by omega⟩
 have e:9-(c+1)=f:=by omega
 rw [i,Rd.terms,j] at h;rw [e]
 cases d:(b.okB&&a.okB) with
 | false=>
  simp only [d,cond_false] at h;rw [<-h] at g;cases g
 | true=>
  simp only [d,cond_true] at h;simp only [Bool.and_eq_true] at d;exact ⟨Rd.St.aCS d.1,Rd.St.aCS d.2,h.symm⟩
def contRel (rb g cap:Nat)(ws:List Rd.Wd)(w:World)(R:Option (Option (List Int)×Rd.St))(l i:Value)(wr:World):Prop:=
 ∃ (c:Nat) (ts:List Int) (st:Rd.St),i=.int .i64 c/\1<=c/\c<=8/\ts.length=c/\wr.ownsRow w.heap.size 3 1 l c (ts.map (Value.int .i64))/\Rdr wr rb g cap ws st/\Keep rb w wr/\Rd.terms ws (9-c) c ts st=R
theorem aCV {rb b:Nat}{w w':World}{o:Obj}(a:Keep rb (w.alloc o) w')(c:b=w.heap.size)(d:b≠rb):w'.heap[b]?=some o:=by
 subst c;rw [a.block w.heap.size (by simp) d];exact aAr _ _
theorem aNW (w:World)(rb g cap:Nat)(ws:List Rd.Wd)(st:Rd.St)(h:Rdr w rb g cap ws st)(hn:st.next<900)(X:WsOk ws)(t1:Rd.tk ws st ⟨#[91]⟩=true)(t2:((Rd.wordAt ws st.adv.next).kind != 1)=false)(t3:Rd.tk ws st.adv.adv ⟨#[59]⟩=true)
  (I:Option Rd.Tr) (J:Rd.St) (hp:Rd.cfOf (Rd.terms ws 8 1 [Rd.valTo (Rd.wordAt ws st.adv.next).text (Rd.wordAt ws st.adv.next).text.size] st.adv.adv.adv)=some (I,J)):
  Calls Tryz.prog 201 #[.pointer (some ⟨rb,0,none⟩)] w (Post rb g cap ws w I J):=by
 have b1:st.adv.next<901:=by show st.next+1<901;omega
 have j:=h.lt
 have hg:g<w.heap.size:=by obtain ⟨a3,h1,_⟩:=h.row;exact aAL h1
 have a2:(Rd.wordAt ws st.adv.next).text.size<=9:=X _ (by simpa [bne] using t2);obtain ⟨i,hi,hz,m,H⟩:=info_parts infoInt;have aa:Hid (WsOk ws):=X;clear X;have HP:Hid (Rd.cfOf (Rd.terms ws 8 1 [Rd.valTo (Rd.wordAt ws st.adv.next).text (Rd.wordAt ws st.adv.next).text.size] st.adv.adv.adv)=some (I,J)):=hp;clear hp
 have WX:Hid (∀ W,Rdr W rb g cap ws st.adv->Calls Tryz.prog 65 #[.pointer (some ⟨rb,0,none⟩)] W fun e w'=>e=.returned (.agg #[.int .i64 (Rd.wordAt ws st.adv.next).kind,.string (Rd.wordAt ws st.adv.next).text,.int .i64 (Rd.wordAt ws st.adv.next).pos])/\Below W.heap.size W w'):=fun W hW=>aCR W rb g cap ws st.adv hW
 generalize Rd.wordAt ws st.adv.next=x at*;generalize aq:Rd.terms ws 8 1 [Rd.valTo x.text x.text.size] st.adv.adv.adv=R at*;have ad:Hid (Rd.terms ws 8 1 [Rd.valTo x.text x.text.size] st.adv.adv.adv=R):=aq;clear aq
 go_enter Tryz.func201,Tryz.ntmps201
 go_wp2_with fail
 refine (aBn _ rb g cap ws st _ h (by omega) t1).mono ?_;rintro e w1 ⟨rfl,P,an⟩
 go_wp2_with fail
 refine (WX.out _ P).mono ?_;rintro e w2 ⟨rfl,S⟩;have y:=P.below S;have d1:=y.c1;have f1:=y.fz 1;have l1:=y.lt
 go_wp2_with fail
 refine (aBn _ rb g cap ws st.adv.adv _ ((y.set1 (st.adv.next+1) (by simp)).alloc _) (by show st.adv.next+1<1000;omega) t3).mono ?_;rintro e w3 ⟨rfl,ao,U⟩;have hx:=aCV (b:=w2.heap.size) U (aCO _ _ _).symm (by omega);have x0:w3.cell? ⟨w2.heap.size,0,none⟩=some (.int .i64 x.kind):=aAa hx rfl;have x1:w3.cell? ⟨w2.heap.size,1,none⟩=some (.string x.text):=aAa hx rfl;have x2:w3.cell? ⟨w2.heap.size,2,none⟩=some (.int .i64 x.pos):=aAa hx rfl;have N:Keep rb w w3:=(((an.trans (Keep.aAi S)).setCell 1 _).alloc _).trans U;clear hx U y d1 f1 l1 S P an WX
 go_wp2_with (go_at_call 183;refine (aFw _ _ _ _ a2).mono ?_;rintro e w' ⟨rfl,rfl⟩)
 have a6:=N.size
 go_loopw [4,5] (fun l i wr=>contRel rb g cap ws w R l i wr) (fun _ i _=>9-(intOf i).toNat)
 case atStart=>
  refine ⟨1,[Rd.valTo x.text x.text.size],st.adv.adv.adv,rfl,Nat.le_refl _,by omega,rfl,?_,(ao.alloc _).alloc _,(N.alloc _).alloc _,ad.out⟩;refine ⟨rfl,Or.inr ⟨w3.heap.size+1,1,#[.int .i64 (Rd.valTo x.text x.text.size)],rfl,by omega,?_,Nat.le_refl _,by decide,rfl,rfl⟩⟩;exact aKh _ _ _
 case round=>
  obtain ⟨c,ts,ah,rfl,c1,c8,ai,d,hR,F,ak⟩:=hrel;generalize hT:Rd.term ws ah=T;obtain ⟨v,f⟩:=T;obtain ⟨o1,o2,al⟩:=aIM c8 ak HP.out hT
  have TM:Hid (Calls Tryz.prog 213 #[.pointer (some ⟨rb,0,none⟩)] wr fun e w'=>e=.returned (.int .i64 v)/\Rdr w' rb g cap ws f/\Keep rb wr w'):=by
   have:=aOS wr rb g cap ws ah hR o1.1 aa.out;rw [hT] at this;exact this
  have z:Hid (R=bif v==0 then some (none,f) else bif Rd.tk ws f ⟨#[93]⟩ then some (some (ts++[v]),f.adv) else bif c==8 then some (none,f) else bif Rd.tk ws f ⟨#[44]⟩ then Rd.terms ws (9-(c+1)) (c+1) (ts++[v]) f.adv else some (none,f)):=al;have af:Hid (ts.length=c):=ai;have Y:f.next<1000:=o2.1;have bj:=F.size;clear ak ai al hT o1 aa ad x0 x1 x2 ao N h;cases u1:(v==0)
  ·cases M:Rd.tk ws f ⟨#[93]⟩
   ·cases u3:((c:Int)==8)
    ·have A:(c==8)=false:=by simp at u3;simp;omega
     cases u4:Rd.tk ws f ⟨#[44]⟩
     ·go_wp2_with fail
      refine (TM.out).mono ?_;rintro e L ⟨rfl,k,a⟩;have C:=a.size
      go_wp2_with (at_builtin;refine wpList_append_own _ rfl _ _ 91 rfl w.heap.size 3 i (.int .i64 0) 1 8 Tryz.underlying91 hi hz m H rfl (by decide) _ _ _ rfl ((aAX d a j).alloc _) ⟨L.heap.size,0,none⟩ 1 1 [.int .i64 v] rfl rfl (cell_one_new _ _ _) (fun u hu=>by simp at hu;subst hu;rfl) (by unfold maxLen;omega) (by omega) (by simp;omega) ?_;intro v' w6 hown6 hgrow6 hnil6)
      have s:=aGD k (aAX d a j) j hg _ hgrow6;have t:=aEG (aAX d a j) (F.trans a) (Nat.le_refl _) _ hgrow6;clear hnil6 hgrow6 k a d hR F;refine (aBB _ rb g cap ws f _ s Y M).mono ?_;rintro e w7 ⟨rfl,p,o⟩
      go_wp2_with fail
      refine (aBB _ rb g cap ws f _ p Y u4).mono ?_;rintro e w8 ⟨rfl,E,q⟩
      go_wp2_with fail
      go_ret
      have e:=HP.out;rw [z.out,u1,M,A,u4] at e;simp only [cond_true,cond_false,Rd.cfOf,Option.some.injEq,Prod.mk.injEq] at e;obtain ⟨rfl,rfl⟩:=e;exact Post.nil E ((t.trans o).trans q)
     ·go_wp2_with fail
      refine (TM.out).mono ?_;rintro e L ⟨rfl,k,a⟩;have C:=a.size
      go_wp2_with (at_builtin;refine wpList_append_own _ rfl _ _ 91 rfl w.heap.size 3 i (.int .i64 0) 1 8 Tryz.underlying91 hi hz m H rfl (by decide) _ _ _ rfl ((aAX d a j).alloc _) ⟨L.heap.size,0,none⟩ 1 1 [.int .i64 v] rfl rfl (cell_one_new _ _ _) (fun u hu=>by simp at hu;subst hu;rfl) (by unfold maxLen;omega) (by omega) (by simp;omega) ?_;intro v' w6 hown6 hgrow6 hnil6)
      have s:=aGD k (aAX d a j) j hg _ hgrow6;have t:=aEG (aAX d a j) (F.trans a) (Nat.le_refl _) _ hgrow6;clear hnil6 hgrow6 k a d hR F;refine (aBB _ rb g cap ws f _ s Y M).mono ?_;rintro e w7 ⟨rfl,p,o⟩
      go_wp2_with fail
      refine (aBn _ rb g cap ws f _ p Y u4).mono ?_;rintro e w8 ⟨rfl,E,q⟩
      go_wp2_with fail
      go_roundw
      case rel=>
       refine ⟨c+1,ts++[v],f.adv,by go_num,by omega,by have:=A;simp at this;omega,by simp [af.out],?_,E,(t.trans o).trans q,?_⟩
       ·have:=aAX (aAX hown6 o j) q j
        simpa using this
       ·have e:=z.out;rw [u1,M,A,u4] at e;exact e.symm
      case measure=>simp [intOf];omega
    ·have A:(c==8)=true:=by simp at u3;simp;omega
     go_wp2_with fail
     refine (TM.out).mono ?_;rintro e L ⟨rfl,k,a⟩;have C:=a.size
     go_wp2_with (at_builtin;refine wpList_append_own _ rfl _ _ 91 rfl w.heap.size 3 i (.int .i64 0) 1 8 Tryz.underlying91 hi hz m H rfl (by decide) _ _ _ rfl ((aAX d a j).alloc _) ⟨L.heap.size,0,none⟩ 1 1 [.int .i64 v] rfl rfl (cell_one_new _ _ _) (fun u hu=>by simp at hu;subst hu;rfl) (by unfold maxLen;omega) (by omega) (by simp;omega) ?_;intro v' w6 hown6 hgrow6 hnil6)
     have s:=aGD k (aAX d a j) j hg _ hgrow6;have t:=aEG (aAX d a j) (F.trans a) (Nat.le_refl _) _ hgrow6;clear hnil6 hgrow6 k a d hR F;refine (aBB _ rb g cap ws f _ s Y M).mono ?_;rintro e w7 ⟨rfl,p,o⟩
     go_wp2_with fail
     go_ret
     have e:=HP.out;rw [z.out,u1,M,A] at e;simp only [cond_true,cond_false,Rd.cfOf,Option.some.injEq,Prod.mk.injEq] at e;obtain ⟨rfl,rfl⟩:=e;exact Post.nil p (t.trans o)
   ·go_wp2_with fail
    refine (TM.out).mono ?_;rintro e L ⟨rfl,k,a⟩;have C:=a.size
    go_wp2_with (at_builtin;refine wpList_append_own _ rfl _ _ 91 rfl w.heap.size 3 i (.int .i64 0) 1 8 Tryz.underlying91 hi hz m H rfl (by decide) _ _ _ rfl ((aAX d a j).alloc _) ⟨L.heap.size,0,none⟩ 1 1 [.int .i64 v] rfl rfl (cell_one_new _ _ _) (fun u hu=>by simp at hu;subst hu;rfl) (by unfold maxLen;omega) (by omega) (by simp;omega) ?_;intro v' w6 hown6 hgrow6 hnil6)
    have s:=aGD k (aAX d a j) j hg _ hgrow6;have t:=aEG (aAX d a j) (F.trans a) (Nat.le_refl _) _ hgrow6;clear hnil6 hgrow6 k a d hR F;refine (aBn _ rb g cap ws f _ s Y M).mono ?_;rintro e w7 ⟨rfl,p,o⟩;have D:=aAX hown6 o j
    obtain ⟨g6,cap6,O⟩:∃ g6 cap6,v'=.slice (some ⟨g6,0,none⟩) (c+1) cap6:=by
     rcases D.2 with ⟨_,hh⟩ | ⟨g6,cap6,a3,hv,_⟩
     ·omega
     ·exact ⟨g6,cap6,hv⟩
    have HV:Hid (v'=.slice (some ⟨g6,0,none⟩) (c+1) cap6):=O;rw [O];clear O;have e:=HP.out;rw [z.out,u1,M] at e;simp only [cond_true,cond_false,Rd.cfOf] at e
    have o3:f.adv.okB=true:=by
     cases ho:f.adv.okB with
     | true=>rfl
     | false=>rw [ho] at e;cases e
    have HE:Hid ((bif f.adv.okB then some (some (Rd.leafT 4 0 (ts++[v])),f.adv.leaf) else none)=some (I,J)):=e;have HO:Hid (f.adv.okB=true):=o3;clear e o3
    go_wp2_with fail
    refine (aEH _ rb g cap ws f.adv _ (p.alloc _) (Rd.St.aCS HO.out)).mono ?_;rintro e w8 ⟨rfl,E,q⟩
    go_wp2_with fail
    go_ret
    have e:=HE.out;rw [HO.out] at e;simp only [cond_true,Option.some.injEq,Prod.mk.injEq] at e;obtain ⟨rfl,rfl⟩:=e
    have ag:w7.heap.size≠rb:=by have:=p.lt;omega
    refine ⟨_,rfl,?_,E,((t.trans o).alloc _).trans q⟩;refine aBQ (ts:=ts++[v]) (l:=.nil) (r:=.nil) ag (aCV q rfl ag) ?_ rfl rfl;rw [<-HV.out];refine aNo (B:=w.heap.size) (n:=c+1) ?_ j (by simp [af.out]) (by omega);have:=aAX (D.alloc _) q j
    simpa using this
  ·go_wp2_with fail
   refine (TM.out).mono ?_;rintro e L ⟨rfl,k,a⟩
   go_wp2_with fail
   go_ret
   have e:=HP.out;rw [z.out,u1] at e;simp only [cond_true,Rd.cfOf,Option.some.injEq,Prod.mk.injEq] at e;obtain ⟨rfl,rfl⟩:=e;exact Post.nil k (F.trans a)
theorem aGe (w:World)(rb g cap:Nat)(ws:List Rd.Wd)(st:Rd.St)(h:Rdr w rb g cap ws st)(k:WsOk ws)(c:Option Rd.Tr)(d:Rd.St)(a:Rd.continued ws st=some (c,d)):
  Calls Tryz.prog 201 #[.pointer (some ⟨rb,0,none⟩)] w (Post rb g cap ws w c d):=by
 unfold Rd.continued at a
 cases f:(decide (st.next<900)&&st.okB) with
 | false=>rw [f] at a;cases a
 | true=>
  rw [f] at a;simp only [Bool.and_eq_true,decide_eq_true_eq] at f;have j:=f.1
  cases b:Rd.tk ws st ⟨#[91]⟩ with
  | false=>
   rw [b] at a;simp only [cond_true,cond_false,Option.some.injEq,Prod.mk.injEq] at a;obtain ⟨rfl,rfl⟩:=a;exact aNT w rb g cap ws st h (by omega) b
  | true=>
   cases e:((Rd.wordAt ws st.adv.next).kind==1) with
   | false=>
    rw [b,e] at a;simp only [cond_true,cond_false,Option.some.injEq,Prod.mk.injEq] at a;obtain ⟨rfl,rfl⟩:=a;exact aNU w rb g cap ws st h j b (by simp [bne,e])
   | true=>
    cases i:Rd.tk ws st.adv.adv ⟨#[59]⟩ with
    | false=>
     rw [b,e,i] at a;simp only [cond_true,cond_false,Option.some.injEq,Prod.mk.injEq] at a;obtain ⟨rfl,rfl⟩:=a;exact aNV w rb g cap ws st h j b (by simp [bne,e]) i
    | true=>
     rw [b,e,i] at a;exact aNW w rb g cap ws st h j k b (by simp [bne,e]) i c d a
def Said (rb g cap:Nat)(ws:List Rd.Wd)(fn:FuncId)(tag f:Nat):Prop:=
 ∀ (w:World) (st:Rd.St) (res:Option Rd.Tr) (st':Rd.St),Rdr w rb g cap ws st->Rd.parse ws f tag none st=some (res,st')->Calls Tryz.prog fn #[.pointer (some ⟨rb,0,none⟩)] w (Post rb g cap ws w res st')
theorem aAA {a:Rd.Ans}{F:Option Rd.Tr->Rd.St->Rd.Ans}{y:Option Rd.Tr×Rd.St}(h:Rd.Ans.next a F=some y):∃ l st,a=some (l,st)/\F l st=some y:=by
 cases a with
 | none=>cases h
 | some x=>exact ⟨x.1,x.2,rfl,h⟩
theorem hideq {p:Prop}(h:p):Hid p:=h
theorem aDO {k:Int}{l r:Rd.Tr}{st:Rd.St}{F:Option Rd.Tr->Rd.St->Rd.Ans}{y:Option Rd.Tr×Rd.St}(h:Rd.Ans.next (Rd.operOf k l (some r) st) F=some y):st.ok/\F (some (Rd.opT k l r)) st.node=some y:=by
 simp only [Rd.operOf] at h
 cases a:st.okB with
 | false=>rw [a] at h;cases h
 | true=>
  rw [a] at h;exact ⟨Rd.St.aCS a,h⟩
open Go.RowKit
theorem aOM (rb g cap:Nat)(ws:List Rd.Wd)(f:Nat)(IH:Hid (∀ k,k<f->Said rb g cap ws 98 2 k)):Said rb g cap ws 64 0 f:=by
 intro w st Y aa H c
 obtain ⟨D,rfl⟩:∃ D,f=D+1:=by
  cases f with
  | zero=>cases c
  | succ D=>exact ⟨D,rfl⟩
 obtain ⟨l0,F,n,o⟩:=aAA c;have m:Hid (Rd.parse ws D 2 none st=some (l0,F)):=n;have h:Hid (Rd.parse ws D 1 l0 F=some (Y,aa)):=o;clear c n o
 go_enter Tryz.func64,Tryz.ntmps64
 go_wp2_with fail
 refine (IH.out D (by omega) _ st l0 F H m.out).mono ?_;rintro e w1 ⟨v1,rfl,U,W,X⟩;clear H m
 go_wp2_with fail
 go_loopg [3] D (fun k l wr=>∃ lt a,k<=D/\EncO rb wr lt l/\Rdr wr rb g cap ws a/\Keep rb w wr/\Rd.parse ws k 1 lt a=some (Y,aa))
 case atStart=>exact ⟨l0,F,Nat.le_refl _,U,W,X,h.out⟩
 case round=>
  obtain ⟨lt,a,hk,hE,H,P,c⟩:=hrel;clear h U W X
  obtain ⟨k,M⟩:∃ k,gk=k+1:=by
   cases gk with
   | zero=>cases c
   | succ k=>exact ⟨k,rfl⟩
  rw [M] at c;have E:Hid (gk=k+1):=M
  have S:k<D+1:=by omega
  clear M
  cases lt with
  | none=>
   simp only [Rd.parse,Option.some.injEq,Prod.mk.injEq] at c;obtain ⟨rfl,rfl⟩:=c;rw [show _=Value.pointer none from hE];clear hE
   go_wp2_with fail
   go_ret
   exact Post.nil H P
  | some t=>
   obtain ⟨⟨b,hb⟩,x⟩:=hE;rw [hb];rw [hb] at x;clear hb;rw [Rd.parse] at c
   cases ho:a.okB with
   | false=>rw [ho] at c;cases c
   | true=>
    rw [ho] at c;simp only [cond_true] at c;have ok:=Rd.St.aCS ho;have T:a.next<1000:=ok.1;clear ho ok;cases R:Rd.tk ws a ⟨#[43]⟩
    ·cases u2:Rd.tk ws a ⟨#[45]⟩
     ·rw [R,u2] at c;simp only [cond_false,Option.some.injEq,Prod.mk.injEq] at c;obtain ⟨rfl,rfl⟩:=c
      go_wp2_with fail
      refine (aBB _ rb g cap ws a _ H T R).mono ?_;rintro e w2 ⟨rfl,I,y⟩
      go_wp2_with fail
      refine (aBB _ rb g cap ws a _ I T u2).mono ?_;rintro e w3 ⟨rfl,q,i⟩
      go_wp2_with fail
      go_ret
      exact ⟨_,rfl,⟨⟨b,rfl⟩,Enc.keep (y.trans i) x⟩,q,(P.trans y).trans i⟩
     ·rw [R,u2] at c;simp only [cond_true,cond_false] at c;obtain ⟨r,d,n,o⟩:=aAA c;have m:Hid (Rd.parse ws k 2 none a.adv=some (r,d)):=n;have h:=hideq o;clear c n o
      go_wp2_with fail
      refine (aBB _ rb g cap ws a _ H T R).mono ?_;rintro e w2 ⟨rfl,I,y⟩
      go_wp2_with fail
      refine (aBn _ rb g cap ws a _ I T u2).mono ?_;rintro e w3 ⟨rfl,q,i⟩
      go_wp2_with fail
      refine (IH.out k S _ a.adv r d q m.out).mono ?_;rintro e w4 ⟨v4,rfl,s,j,u⟩;have J:Enc rb w4 t (.pointer (some ⟨b,0,none⟩)):=Enc.keep ((y.trans i).trans u) x;have z:Keep rb w w4:=((P.trans y).trans i).trans u;clear P y i u H I q x m
      cases r with
      | none=>
       rw [show v4=Value.pointer none from s];clear s
       go_wp2_with fail
       refine (aB4 _ _ _ _).mono ?_;rintro e w5 ⟨rfl,rfl⟩
       go_wp2_with fail
       go_roundg k
       case measure=>have:=E.out;omega
       case rel=>exact ⟨none,d,by omega,rfl,j,z,h.out⟩
      | some r=>
       obtain ⟨⟨b4,p⟩,A⟩:=s;rw [p];rw [p] at A;clear p;obtain ⟨N,B⟩:=aDO h.out;clear h;have L:=hideq B;have ag:=j.lt;clear B
       go_wp2_with fail
       refine (aBS _ rb g cap ws d _ _ _ j N).mono ?_;rintro e w5 ⟨rfl,O,v,C⟩;clear j
       go_wp2_with fail
       go_roundg k
       case measure=>have:=E.out;omega
       case rel=>exact ⟨some (Rd.opT 7 t r),d.node,by omega,aBQ (by omega) C (Or.inl ⟨rfl,rfl⟩) (Enc.keep v J) (Enc.keep v A),O,z.trans v,L.out⟩
    ·rw [R] at c;simp only [cond_true,cond_false] at c;obtain ⟨r,d,n,o⟩:=aAA c;have m:Hid (Rd.parse ws k 2 none a.adv=some (r,d)):=n;have h:=hideq o;clear c n o
     go_wp2_with fail
     refine (aBn _ rb g cap ws a _ H T R).mono ?_;rintro e w3 ⟨rfl,q,i⟩
     go_wp2_with fail
     refine (IH.out k S _ a.adv r d q m.out).mono ?_;rintro e w4 ⟨v4,rfl,s,j,u⟩;have J:Enc rb w4 t (.pointer (some ⟨b,0,none⟩)):=Enc.keep (i.trans u) x;have z:Keep rb w w4:=(P.trans i).trans u;clear P i u H q x m
     cases r with
     | none=>
      rw [show v4=Value.pointer none from s];clear s
      go_wp2_with fail
      refine (aB4 _ _ _ _).mono ?_;rintro e w5 ⟨rfl,rfl⟩
      go_wp2_with fail
      go_roundg k
      case measure=>have:=E.out;omega
      case rel=>exact ⟨none,d,by omega,rfl,j,z,h.out⟩
     | some r=>
      obtain ⟨⟨b4,p⟩,A⟩:=s;rw [p];rw [p] at A;clear p;obtain ⟨N,B⟩:=aDO h.out;clear h;have L:=hideq B;have ag:=j.lt;clear B
      go_wp2_with fail
      refine (aBS _ rb g cap ws d _ _ _ j N).mono ?_;rintro e w5 ⟨rfl,O,v,C⟩;clear j
      go_wp2_with fail
      go_roundg k
      case measure=>have:=E.out;omega
      case rel=>exact ⟨some (Rd.opT 6 t r),d.node,by omega,aBQ (by omega) C (Or.inl ⟨rfl,rfl⟩) (Enc.keep v J) (Enc.keep v A),O,z.trans v,L.out⟩
open Go.RowKit
theorem aHD (rb g cap:Nat)(ws:List Rd.Wd)(f:Nat)(IH:Hid (∀ k,k<f->Said rb g cap ws 142 4 k)):Said rb g cap ws 98 2 f:=by
 intro w st Y aa H c
 obtain ⟨D,rfl⟩:∃ D,f=D+1:=by
  cases f with
  | zero=>cases c
  | succ D=>exact ⟨D,rfl⟩
 obtain ⟨l0,F,n,o⟩:=aAA c;have m:Hid (Rd.parse ws D 4 none st=some (l0,F)):=n;have h:Hid (Rd.parse ws D 3 l0 F=some (Y,aa)):=o;clear c n o
 go_enter Tryz.func98,Tryz.ntmps98
 go_wp2_with fail
 refine (IH.out D (by omega) _ st l0 F H m.out).mono ?_;rintro e w1 ⟨v1,rfl,U,W,X⟩;clear H m
 go_wp2_with fail
 go_loopg [3] D (fun k l wr=>∃ lt a,k<=D/\EncO rb wr lt l/\Rdr wr rb g cap ws a/\Keep rb w wr/\Rd.parse ws k 3 lt a=some (Y,aa))
 case atStart=>exact ⟨l0,F,Nat.le_refl _,U,W,X,h.out⟩
 case round=>
  obtain ⟨lt,a,hk,hE,H,P,c⟩:=hrel;clear h U W X
  obtain ⟨k,M⟩:∃ k,gk=k+1:=by
   cases gk with
   | zero=>cases c
   | succ k=>exact ⟨k,rfl⟩
  rw [M] at c;have E:Hid (gk=k+1):=M
  have S:k<D+1:=by omega
  clear M
  cases lt with
  | none=>
   simp only [Rd.parse,Option.some.injEq,Prod.mk.injEq] at c;obtain ⟨rfl,rfl⟩:=c;rw [show _=Value.pointer none from hE];clear hE
   go_wp2_with fail
   go_ret
   exact Post.nil H P
  | some t=>
   obtain ⟨⟨b,hb⟩,x⟩:=hE;rw [hb];rw [hb] at x;clear hb;rw [Rd.parse] at c
   cases ho:a.okB with
   | false=>rw [ho] at c;cases c
   | true=>
    rw [ho] at c;simp only [cond_true] at c;have ok:=Rd.St.aCS ho;have T:a.next<1000:=ok.1;clear ho ok;cases R:Rd.tk ws a ⟨#[42]⟩
    ·cases u2:Rd.tk ws a ⟨#[47]⟩
     ·rw [R,u2] at c;simp only [cond_false,Option.some.injEq,Prod.mk.injEq] at c;obtain ⟨rfl,rfl⟩:=c
      go_wp2_with fail
      refine (aBB _ rb g cap ws a _ H T R).mono ?_;rintro e w2 ⟨rfl,I,y⟩
      go_wp2_with fail
      refine (aBB _ rb g cap ws a _ I T u2).mono ?_;rintro e w3 ⟨rfl,q,i⟩
      go_wp2_with fail
      go_ret
      exact ⟨_,rfl,⟨⟨b,rfl⟩,Enc.keep (y.trans i) x⟩,q,(P.trans y).trans i⟩
     ·rw [R,u2] at c;simp only [cond_true,cond_false] at c;obtain ⟨r,d,n,o⟩:=aAA c;have m:Hid (Rd.parse ws k 4 none a.adv=some (r,d)):=n;have h:=hideq o;clear c n o
      go_wp2_with fail
      refine (aBB _ rb g cap ws a _ H T R).mono ?_;rintro e w2 ⟨rfl,I,y⟩
      go_wp2_with fail
      refine (aBn _ rb g cap ws a _ I T u2).mono ?_;rintro e w3 ⟨rfl,q,i⟩
      go_wp2_with fail
      refine (IH.out k S _ a.adv r d q m.out).mono ?_;rintro e w4 ⟨v4,rfl,s,j,u⟩;have J:Enc rb w4 t (.pointer (some ⟨b,0,none⟩)):=Enc.keep ((y.trans i).trans u) x;have z:Keep rb w w4:=((P.trans y).trans i).trans u;clear P y i u H I q x m
      cases r with
      | none=>
       rw [show v4=Value.pointer none from s];clear s
       go_wp2_with fail
       refine (aB4 _ _ _ _).mono ?_;rintro e w5 ⟨rfl,rfl⟩
       go_wp2_with fail
       go_roundg k
       case measure=>have:=E.out;omega
       case rel=>exact ⟨none,d,by omega,rfl,j,z,h.out⟩
      | some r=>
       obtain ⟨⟨b4,p⟩,A⟩:=s;rw [p];rw [p] at A;clear p;obtain ⟨N,B⟩:=aDO h.out;clear h;have L:=hideq B;have ag:=j.lt;clear B
       go_wp2_with fail
       refine (aBS _ rb g cap ws d _ _ _ j N).mono ?_;rintro e w5 ⟨rfl,O,v,C⟩;clear j
       go_wp2_with fail
       go_roundg k
       case measure=>have:=E.out;omega
       case rel=>exact ⟨some (Rd.opT 9 t r),d.node,by omega,aBQ (by omega) C (Or.inl ⟨rfl,rfl⟩) (Enc.keep v J) (Enc.keep v A),O,z.trans v,L.out⟩
    ·rw [R] at c;simp only [cond_true,cond_false] at c;obtain ⟨r,d,n,o⟩:=aAA c;have m:Hid (Rd.parse ws k 4 none a.adv=some (r,d)):=n;have h:=hideq o;clear c n o
     go_wp2_with fail
     refine (aBn _ rb g cap ws a _ H T R).mono ?_;rintro e w3 ⟨rfl,q,i⟩
     go_wp2_with fail
     refine (IH.out k S _ a.adv r d q m.out).mono ?_;rintro e w4 ⟨v4,rfl,s,j,u⟩;have J:Enc rb w4 t (.pointer (some ⟨b,0,none⟩)):=Enc.keep (i.trans u) x;have z:Keep rb w w4:=(P.trans i).trans u;clear P i u H q x m
     cases r with
     | none=>
      rw [show v4=Value.pointer none from s];clear s
      go_wp2_with fail
      refine (aB4 _ _ _ _).mono ?_;rintro e w5 ⟨rfl,rfl⟩
      go_wp2_with fail
      go_roundg k
      case measure=>have:=E.out;omega
      case rel=>exact ⟨none,d,by omega,rfl,j,z,h.out⟩
     | some r=>
      obtain ⟨⟨b4,p⟩,A⟩:=s;rw [p];rw [p] at A;clear p;obtain ⟨N,B⟩:=aDO h.out;clear h;have L:=hideq B;have ag:=j.lt;clear B
      go_wp2_with fail
      refine (aBS _ rb g cap ws d _ _ _ j N).mono ?_;rintro e w5 ⟨rfl,O,v,C⟩;clear j
      go_wp2_with fail
      go_roundg k
      case measure=>have:=E.out;omega
      case rel=>exact ⟨some (Rd.opT 8 t r),d.node,by omega,aBQ (by omega) C (Or.inl ⟨rfl,rfl⟩) (Enc.keep v J) (Enc.keep v A),O,z.trans v,L.out⟩
open Go.RowKit
theorem aJz {st:Rd.St}(h:1<=st.around):(st.around:Int)-1=((st.around-1:Nat):Int):=by omega
theorem aFg {st:Rd.St}(h:st.okOut=true):st.ok/\1<=st.around:=by
 simp only [Rd.St.okOut,Bool.and_eq_true,decide_eq_true_eq] at h;exact ⟨Rd.St.aCS h.1,h.2⟩
theorem aJ3 {k:Int}{x:Rd.Tr}{st:Rd.St}{y:Option Rd.Tr×Rd.St}(h:Rd.unaryOf k (some x) st=some y):st.ok/\y=(some (Rd.unT k x),st.node):=by
 simp only [Rd.unaryOf] at h
 cases a:st.okB with
 | false=>rw [a] at h;cases h
 | true=>
  rw [a] at h;exact ⟨Rd.St.aCS a,(Option.some.inj h).symm⟩
theorem aIE (rb g cap:Nat)(ws:List Rd.Wd)(f:Nat)(IH:Hid (∀ k,k<f->Said rb g cap ws 142 4 k))(IA:Hid (∀ k,k<f->Said rb g cap ws 170 5 k)):Said rb g cap ws 142 4 f:=by
 intro w m L M N a
 obtain ⟨r,rfl⟩:∃ r,f=r+1:=by
  cases f with
  | zero=>cases a
  | succ r=>exact ⟨r,rfl⟩
 rw [Rd.parse] at a
 cases C:m.okB with
 | false=>rw [C] at a;cases a
 | true=>
  rw [C] at a;simp only [cond_true] at a;have E:=Rd.St.aCS C;have O:m.next<1000:=E.1;have b2:m.adv.around<1000:=E.2.1;clear C E;cases D:Rd.tk ws m ⟨#[45]⟩
  ·rw [D] at a;simp only [cond_false] at a;have U:=hideq a;clear a
   go_enter Tryz.func142,Tryz.ntmps142
   go_wp2_with fail
   refine (aBB _ rb g cap ws m _ N O D).mono ?_;rintro e X ⟨rfl,d,j⟩
   go_wp2_with fail
   refine (IA.out r (by omega) _ m L M d U.out).mono ?_;rintro e w2 ⟨T,rfl,i,h,l⟩
   go_wp2_with fail
   go_ret
   exact ⟨_,rfl,i,h,j.trans l⟩
  ·rw [D] at a;simp only [cond_true] at a;obtain ⟨x,b,v,c⟩:=aAA a
   cases n:b.okOut with
   | false=>rw [n] at c;cases c
   | true=>
    rw [n] at c;simp only [cond_true] at c;obtain ⟨y,z⟩:=aFg n;have b3:b.around<1000:=y.2.1;have s:=hideq v;have p:=hideq c;clear a v c n y
    go_enter Tryz.func142,Tryz.ntmps142
    go_wp2_with fail
    refine (aBn _ rb g cap ws m _ N O D).mono ?_;rintro e X ⟨rfl,d,j⟩;have P:=d.c2;have R:=d.fz 2
    go_wp2_with fail
    refine (IH.out r (by omega) _ m.adv.inn x b (d.set2 (m.adv.around+1) (by simp)) s.out).mono ?_;rintro e w2 ⟨T,rfl,i,h,l⟩;have t:Keep rb w w2:=(j.setCell 2 _).trans l;clear P R j l d N s;have P:=h.c2;have R:=h.fz 2;have u:=h.set2 (b.around-1) (aJz z);have W:=h.lt
    cases x with
    | none=>
     rw [show T=Value.pointer none from i];clear i;have e:=p.out;simp only [Rd.unaryOf,Option.some.injEq,Prod.mk.injEq] at e;obtain ⟨rfl,rfl⟩:=e
     go_wp2_with fail
     refine (aH0 _ _ _).mono ?_;rintro e Y ⟨rfl,rfl⟩
     go_wp2_with fail
     go_ret
     exact Post.nil u (t.setCell 2 _)
    | some x=>
     obtain ⟨⟨b4,q⟩,A⟩:=i;rw [q];rw [q] at A;clear q;obtain ⟨I,S⟩:=aJ3 p.out;simp only [Prod.mk.injEq] at S;obtain ⟨rfl,rfl⟩:=S;have F:Keep rb w2 (w2.setCell ⟨rb,2,none⟩ (.int .i64 ((b.around:Int)-1))):=(Keep.refl _ _).setCell 2 _;clear p
     go_wp2_with fail
     refine (aFV _ rb g cap ws b.out _ _ u I).mono ?_;rintro e Y ⟨rfl,J,B,o⟩;rw [aCO] at o
     have H:w2.heap.size≠rb:=by omega
     go_wp2_with fail
     go_ret
     refine ⟨_,rfl,aBQ H o (Or.inl ⟨rfl,rfl⟩) (Enc.keep (F.trans B) A) rfl,J,(t.setCell 2 _).trans B⟩
theorem aF6 (rb g cap:Nat)(ws:List Rd.Wd)(f:Nat)(X:Hid (∀ k,k<f->Said rb g cap ws 64 0 k)):Said rb g cap ws 187 6 f:=by
 intro w m U W I d
 obtain ⟨v,rfl⟩:∃ v,f=v+1:=by
  cases f with
  | zero=>cases d
  | succ v=>exact ⟨v,rfl⟩
 rw [Rd.parse] at d
 ·cases C:m.okB with
  | false=>rw [C] at d;cases d
  | true=>
   rw [C] at d;simp only [cond_true] at d;have F:=Rd.St.aCS C;have J:m.next<1000:=F.1;have Y:m.adv.around<1000:=F.2.1;clear C F;cases D:Rd.tk ws m ⟨#[40]⟩
   ·rw [D] at d;simp only [cond_false,Option.some.injEq,Prod.mk.injEq] at d;obtain ⟨rfl,rfl⟩:=d
    go_enter Tryz.func187,Tryz.ntmps187
    go_wp2_with fail
    refine (aBB _ rb g cap ws m _ I J D).mono ?_;rintro e R ⟨rfl,c,h⟩
    go_wp2_with fail
    go_ret
    exact Post.nil c h
   ·rw [D] at d;simp only [cond_true] at d;obtain ⟨x,a,y,b⟩:=aAA d;unfold Rd.closeOf at b
    cases l:a.okOut with
    | false=>rw [l] at b;cases b
    | true=>
     rw [l] at b;simp only [cond_true] at b;obtain ⟨q,z⟩:=aFg l;have b3:a.around<1000:=q.2.1;have L:a.out.next<1000:=q.1;have u:=hideq y;have n:=hideq b;clear d y b l q
     go_enter Tryz.func187,Tryz.ntmps187
     go_wp2_with fail
     refine (aBn _ rb g cap ws m _ I J D).mono ?_;rintro e R ⟨rfl,c,h⟩;have M:=c.c2;have N:=c.fz 2
     go_wp2_with fail
     refine (X.out v (by omega) _ m.adv.inn x a (c.set2 (m.adv.around+1) (by simp)) u.out).mono ?_;rintro e w2 ⟨S,rfl,s,i,B⟩;have o:Keep rb w w2:=(h.setCell 2 _).trans B;clear M N h B c I u;have M:=i.c2;have N:=i.fz 2;have p:=i.set2 (a.around-1) (aJz z);have O:=i.lt
     cases x with
     | none=>
      rw [show S=Value.pointer none from s];clear s;have e:=n.out;simp only [Option.some.injEq,Prod.mk.injEq] at e;obtain ⟨rfl,rfl⟩:=e
      go_wp2_with fail
      go_ret
      exact Post.nil p (o.setCell 2 _)
     | some x=>
      obtain ⟨⟨P,r⟩,A⟩:=s;rw [r];rw [r] at A;clear r;have H:Keep rb w2 (w2.setCell ⟨rb,2,none⟩ (.int .i64 ((a.around:Int)-1))):=(Keep.refl _ _).setCell 2 _;have e:=n.out;clear n;cases E:Rd.tk ws a.out ⟨#[41]⟩
      ·simp only [E,cond_false,Option.some.injEq,Prod.mk.injEq] at e;obtain ⟨rfl,rfl⟩:=e
       go_wp2_with fail
       refine (aBB _ rb g cap ws a.out _ p L E).mono ?_;rintro e T ⟨rfl,t,j⟩
       go_wp2_with fail
       go_ret
       exact Post.nil t ((o.setCell 2 _).trans j)
      ·simp only [E,cond_true,Option.some.injEq,Prod.mk.injEq] at e;obtain ⟨rfl,rfl⟩:=e
       go_wp2_with fail
       refine (aBn _ rb g cap ws a.out _ p L E).mono ?_;rintro e T ⟨rfl,t,j⟩
       go_wp2_with fail
       go_ret
       exact ⟨_,rfl,⟨⟨P,rfl⟩,Enc.keep (H.trans j) A⟩,t,(o.setCell 2 _).trans j⟩
 all_goals omega
end Go.Proofs.YteghhlfmcjmnoaaGreatDoor
