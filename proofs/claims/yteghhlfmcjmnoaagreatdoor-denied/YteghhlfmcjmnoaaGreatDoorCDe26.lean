import Derived.Test.YteghhlfmcjmnoaaGreatDoorCDe25
import Derived.Test.YteghhlfmcjmnoaaGreatDoorCDe24
import Derived.Test.YteghhlfmcjmnoaaGreatDoorCards
import Derived.Test.YteghhlfmcjmnoaaGreatDoorTie
import Derived.Laws.IdiomStrings
import Derived.WalkKit
import Derived.ProofKit
import Derived.OpenShut
import Derived.Carry
import Derived.Deep.DeepHandedRow
import Derived.Lib.LaidTab
import Derived.Stop.LaidErr
set_option linter.unusedSimpArgs false
set_option linter.unusedVariables false
set_option maxRecDepth 100000
set_option maxHeartbeats 2000000
namespace Go.Proofs.YteghhlfmcjmnoaaGreatDoor
open Go.RowKit
open Ab
open Rf (Wt fuelF readK symsT)
structure ExAt (w:World) (xb:Nat) (t:Rd.Tr):Prop where
 ex:∃ rb rv,w.heap[xb]?=some (.cells #[rv] 74 (0,0))/\Enc rb w t rv
 wf:Rd.Wf t
 cnt:Rd.cnt t<=40
theorem ExAt.keep {w w':World}{xb:Nat}{t:Rd.Tr}(h:ExAt w xb t)(hc:Chg w w' []):ExAt w' xb t:=by
 obtain ⟨rb,rv,h1,h2⟩:=h.ex
 exact ⟨⟨rb,rv,hc.at h1 (by simp),Enc.keep (keep_chg hc) h2⟩,h.wf,h.cnt⟩
theorem ExAt.ok {w:World}{xb:Nat}{t:Rd.Tr}(h:ExAt w xb t){u:Wt}(hu:planT t=some u):u.Ok:=(plan_ok t u h.wf (by have:=h.cnt;omega) hu).1
theorem begin_ok (w:World)(xb:Nat)(t:Rd.Tr)(k f:Int)(h:ExAt w xb t)(k0:¬k<0)(k1:¬60<k)(f0:¬f<0)(f1:¬3000<f):Calls Tryz.prog 37 #[.pointer (some ⟨xb,0,none⟩),.int .i64 k,.int .i64 f] w (Told2 w (planT t)):=by
 obtain ⟨rb,rv,hb,he⟩:=h.ex
 have OF:=hid (of_ok t h.wf (by have:=h.cnt;omega) w rv he)
 have c0:w.cell? ⟨xb,0,none⟩=some rv:=cell_of_block hb rfl
 clear hb he h
 go_enter Tryz.func37,Tryz.ntmps37
 go_wp2_with fail
 refine (OF.out).mono ?_
 rintro e w1 hT
 obtain ⟨v,e',rfl,_,_⟩:=hT.one
 have HT:=hid hT
 clear hT
 go_wp2_with fail
 refine bodyPost_ret (v:=.tuple #[v,.int .i64 e']) (by simp [results,Tryz.results37,go_sem]) rfl ?_
 exact HT.out
theorem begin_k (w:World)(xb:Nat)(k f:Int)(k0:¬k<0)(k1:60<k):Calls Tryz.prog 37 #[.pointer (some ⟨xb,0,none⟩),.int .i64 k,.int .i64 f] w fun e w'=>e=.returned (.tuple #[.pointer none,.int .i64 4])/\Below w.heap.size w w':=by
 go_enter Tryz.func37,Tryz.ntmps37
 go_wp2_with fail
 refine bodyPost_ret (v:=.tuple #[.pointer none,.int .i64 4]) (by simp [results,Tryz.results37,go_sem]) rfl ?_
 exact ⟨rfl,Below.refl _ _⟩
theorem begin_f (w:World)(xb:Nat)(k f:Int)(k0:¬k<0)(k1:¬60<k)(f0:¬f<0)(f1:3000<f):Calls Tryz.prog 37 #[.pointer (some ⟨xb,0,none⟩),.int .i64 k,.int .i64 f] w fun e w'=>e=.returned (.tuple #[.pointer none,.int .i64 4])/\Below w.heap.size w w':=by
 go_enter Tryz.func37,Tryz.ntmps37
 go_wp2_with fail
 refine bodyPost_ret (v:=.tuple #[.pointer none,.int .i64 4]) (by simp [results,Tryz.results37,go_sem]) rfl ?_
 exact ⟨rfl,Below.refl _ _⟩
def codeV (z:Int):Value:=.int .i64 (code z)
def SymsR (w:World)(a:Option (List Int))(e:Ending)(w':World):Prop:=Chg w w' []/\match a with
 | none=>e=.returned (.tuple #[.slice none 0 0,.int .i64 6])
 | some zs=>∃ l g,e=.returned (.tuple #[l,.int .i64 0])/\RowOf w' 100 (zs.map codeV) l g
def lenOf:Value->Nat
 | .slice _ n _=>n
 | _=>0
theorem row_sl {w:World}{e:TypeId}{zs:List Int}{v:Value}{g:Option Nat}(h:RowOf w e (zs.map codeV) v g):∃ ao cp,v=.slice ao zs.length cp:=by
 rcases h with ⟨h1,h2,_⟩ | ⟨b,cap,rest,_,h2,_⟩
 ·have:zs=[]:=by simpa using h2
  subst this
  exact ⟨_,_,h1⟩
 ·exact ⟨_,_,by simpa using h2⟩
def symRel (u:Wt)(c:Nat)(w:World)(B nb fb d k:Nat)(ans:Option (List Int))(l:Value)(wr:World):Prop:=
 ∃ (zs:List Int) (g:Option Nat) (own:Nat->Option Own) (s:Rf.St) (r:Nat),RowOf wr 100 (zs.map codeV) l g/\Run u c wr B nb fb own s d r/\zs.length<=k+1/\r<=zs.length/\(∀ b,g=some b->own b=none/\w.heap.size<=b)/\On Z.bt w wr/\(∀ j,j<w.heap.size->wr.heap[j]?=w.heap[j]?)/\ans=(readK (fuelF u) (k+1-zs.length) s d r).map (zs++·)
section
variable {u:Wt} {c:Nat} {w wr:World} {B nb fb d k r:Nat} {ans:Option (List Int)} {l:Value} {zs:List Int} {g:Option Nat} {own:Nat->Option Own} {s:Rf.St}
theorem SymRel.end (hrow:RowOf wr 100 (zs.map codeV) l g)(hz:zs.length<=k+1)(hk:k<zs.length)(hon:On Z.bt w wr)(hlow:∀ j,j<w.heap.size->wr.heap[j]?=w.heap[j]?)(hans:ans=(readK (fuelF u) (k+1-zs.length) s d r).map (zs++·)):SymsR w ans (.returned (.tuple #[l,.int .i64 0])) wr:=by
 have e:k+1-zs.length=0:=by omega
 rw [e,show readK (fuelF u) 0 s d r=some [] from rfl,Option.map_some,List.append_nil] at hans
 subst hans
 exact ⟨⟨hon,fun j hj _=>hlow j hj⟩,l,g,rfl,hrow⟩
theorem sym_push (hR:Run u c wr B nb fb own s d r)(hrow:RowOf wr 100 (zs.map codeV) l g)(hg:∀ b,g=some b->own b=none/\w.heap.size<=b)(hon:On Z.bt w wr)(hlow:∀ j,j<w.heap.size->wr.heap[j]?=w.heap[j]?)(hl:zs.length<=1000)(z:Int):
  ∃ v' w' b own',(Builtin.append_ #[97,97] 97 #[l,.slice (some ⟨wr.heap.size,0,none⟩) 1 1]).run Tryz.prog (wr.alloc (.cells #[codeV z] 100))=.ok v' w'/\RowOf w' 100 ((zs++[z]).map codeV) v' (some b)/\Run u c w' B nb fb own' s d r/\own' b=none/\w.heap.size<=b/\On Z.bt w w'/\∀ j,j<w.heap.size->w'.heap[j]?=w.heap[j]?:=by
 obtain ⟨i,zv,i1,i2,i3,i4⟩:=sym_info
 have c1:Chg wr (wr.alloc (.cells #[codeV z] 100)) []:=Chg.alloc _ _
 have hrow1:RowOf (wr.alloc (.cells #[codeV z] 100)) 100 (zs.map codeV) l g:=hrow.keep c1 (fun _ _=>by simp)
 obtain ⟨own1,hR1,ho1,ho2⟩:=(hR.still c1).cut
 generalize hW:wr.alloc (.cells #[codeV z] 100)=W at*
 have hx:W.heap[wr.heap.size]?=some (.cells ([]++[codeV z]++[]).toArray 100 (0,0)):=by rw [<-hW];exact cells_new _ _
 obtain ⟨v',w',b,a1,a2,a3,a4,a5⟩:=app_row (bt:=Z.bt) (P:=Z.P) (t:=97) (t':=97) (ty:=97) (e:=100) rfl rfl (by kernel_rfl) i1 i2 i3 i4 (by decide) hrow1 (xv:=.slice (some ⟨wr.heap.size,0,none⟩) 1 1) (xc:=1) hx rfl rfl (by simp;omega)
 have hbs:=c1.on.size
 have hb0:own1 b=none/\w.heap.size<=b:=by
  rcases a3 with e | e
  ·refine ⟨?_,(hg b e).2⟩
   by_cases hbb:b<W.heap.size
   ·rw [ho1 b hbb];exact (hg b e).1
   ·exact ho2 b (by omega)
  ·exact ⟨ho2 b e,Nat.le_trans hon.size (Nat.le_trans hbs e)⟩
 have c2:Chg W w' [b]:=⟨a4,fun j hj hm=>a5 j hj (by simpa using hm)⟩
 have hq:b<W.heap.size->∃ cs:Array Value,W.heap[b]?=some (.cells cs 100 (0,0)):=by
  intro hb
  rcases a3 with e | e
  ·rcases hrow1 with ⟨_,_,h3⟩ | ⟨b',cap,rest,h1,_,h3,_⟩
   ·rw [h3] at e;cases e
   ·rw [h1] at e;cases e;exact ⟨_,h3⟩
  ·omega
 refine ⟨v',w',b,own1,a1,by rw [List.map_append];exact a2,hR1.apart c2 hq hb0.1,hb0.1,hb0.2,(hon.trans c1.on).trans a4,fun j hj=>?_⟩
 have h1:j<wr.heap.size:=Nat.lt_of_lt_of_le hj hon.size
 rw [a5 j (Nat.lt_of_lt_of_le h1 hbs) (by have:=hb0.2;omega),c1.low j h1 (by simp),hlow j hj]
theorem SymRel.next (hB:w.heap.size<=B)(hR:Run u c wr B nb fb own s d r)(hrow:RowOf wr 100 (zs.map codeV) l g)(hg:∀ b,g=some b->own b=none/\w.heap.size<=b)(hon:On Z.bt w wr)(hlow:∀ j,j<w.heap.size->wr.heap[j]?=w.heap[j]?)(hans:ans=(readK (fuelF u) (k+1-zs.length) s d r).map (zs++·)){m:Nat}(hm:k+1-zs.length=m+1)(hk:k<=60)(hr:r<=zs.length){e:Ending}{w5:World}(hN:NextS u c wr B nb fb own s d r e w5):
  (e=.returned (.int .i64 0)/\ans=none/\Chg w w5 [])\/∃ z,e=.returned (.int .i64 (code z))/\∃ v' w6,(Builtin.append_ #[97,97] 97 #[l,.slice (some ⟨w5.heap.size,0,none⟩) 1 1]).run Tryz.prog (w5.alloc (.cells #[codeV z] 100))=.ok v' w6/\symRel u c w B nb fb d k ans v' w6/\k+1-lenOf v'<k+1-zs.length:=by
 obtain ⟨hon5,hkept,h⟩:=hN
 obtain ⟨lo1,lo2,lo3,lo4,lo5,lo6⟩:=hR.low
 have low5:∀ j,j<w.heap.size->w5.heap[j]?=w.heap[j]?:=by
  intro j hj
  rw [hkept j (Nat.lt_of_lt_of_le hj hon.size) (lo4 j (by omega)) (by omega) (by omega),hlow j hj]
 rw [hm] at hans
 rcases h with ⟨he,s',hs⟩ | ⟨s',z,own',he,hs,hR',hown⟩
 ·left
  refine ⟨he,?_,hon.trans hon5,fun j hj _=>low5 j hj⟩
  rw [hans]
  unfold readK
  rw [hs]
  rfl
 ·right
  have hg5:∀ b,g=some b->(b<wr.heap.size/\b≠fb/\b≠nb):=by
   intro b hb
   rcases hrow with ⟨_,_,h3⟩ | ⟨b',cap,rest,h1,_,h3,_⟩
   ·rw [h3] at hb;cases hb
   ·rw [h1] at hb
    cases hb
    obtain ⟨at1,rho,c',n,hNb,_⟩:=hR
    refine ⟨lt_of_heap h3,?_,?_⟩
    ·rintro rfl
     rw [hNb.net.fuel] at h3
     exact absurd (Obj.cells.inj (Option.some.inj h3)).2.1 (by decide)
    ·rintro rfl
     rw [hNb.blk] at h3
     exact absurd (Obj.cells.inj (Option.some.inj h3)).2.1 (by decide)
  have hrow5:RowOf w5 100 (zs.map codeV) l g:=by
   rcases hrow with h | ⟨b,cap,rest,h1,h2,h3,h4⟩
   ·exact Or.inl h
   ·obtain ⟨q1,q2,q3⟩:=hg5 b h1
    exact Or.inr ⟨b,cap,rest,h1,h2,by rw [hkept b q1 (hg b h1).1 q2 q3];exact h3,h4⟩
  obtain ⟨v',w6,b,own6,a1,a2,a3,a4,a5,a6,a7⟩:=sym_push hR' hrow5 (fun b hb=>⟨hown b (hg5 b hb).1 (hg b hb).1,(hg b hb).2⟩) (hon.trans hon5) low5 (by omega) z
  refine ⟨z,he,v',w6,a1,⟨zs++[z],some b,own6,s',r+1,a2,a3,by simp;omega,by simp;omega,fun b' hb'=>by cases hb';exact ⟨a4,a5⟩,a6,a7,?_⟩,?_⟩
  ·rw [hans]
   have e:k+1-(zs++[z]).length=m:=by simp;omega
   rw [e]
   show (readK (fuelF u) (m+1) s d r).map _=_
   rw [readK,hs]
   simp only
   cases readK (fuelF u) m s' d (r+1) with
   | none=>rfl
   | some x=>simp
  ·obtain ⟨ao,cp,hv⟩:=row_sl a2
   rw [hv]
   simp [lenOf]
   omega
end
open Go.RowKit
open Ab
open Rf (Wt fuelF readK symsT)
theorem sym_start {u:Wt}{c:Nat}{w w1 w2 w3:World}{nb fb d k:Nat}{own:Nat->Option Own}{ns:List Rf.Nd}{n:Rf.Nd}(c1:Chg w w1 [])(c2:Chg w1 w2 [])(hR:Run u c w2 w1.heap.size nb fb own ⟨ns,c⟩ d 0)(hof:Rf.of u []=some (ns,d))(hn:ns[d]?=some n)(c3:Chg (w2.alloc (.cells #[] 100)) w3 []):
  (n.pos=false->symRel u c w w1.heap.size nb fb d k (symsT u k c) (.slice (some ⟨w2.heap.size,0,none⟩) 0 0) w3)/\
  (n.pos=true->∃ v' w4,(Builtin.append_ #[97,97] 97 #[.slice (some ⟨w2.heap.size,0,none⟩) 0 0,.slice (some ⟨w3.heap.size,0,none⟩) 1 1]).run Tryz.prog (w3.alloc (.cells #[.int .i64 1] 100))=.ok v' w4/\symRel u c w w1.heap.size nb fb d k (symsT u k c) v' w4):=by
 have c12:=c1.trans c2
 have ca:Chg w2 (w2.alloc (.cells #[] 100)) []:=Chg.alloc _ _
 have cz:Chg w w3 []:=(c12.trans ca).trans c3
 have hrow:RowOf w3 100 (([]:List Int).map codeV) (.slice (some ⟨w2.heap.size,0,none⟩) 0 0) (some w2.heap.size):=Or.inr ⟨w2.heap.size,0,[],rfl,rfl,c3.at (cells_new _ _) (by simp),Nat.le_refl _,Nat.le_refl _⟩
 obtain ⟨own2,hR2,ho1,ho2⟩:=hR.cut
 have hR3:Run u c w3 w1.heap.size nb fb own2 ⟨ns,c⟩ d 0:=(hR2.still ca).still c3
 have hg:∀ b,some w2.heap.size=some b->own2 b=none/\w.heap.size<=b:=by
  intro b hb
  cases hb
  exact ⟨ho2 _ (Nat.le_refl _),c12.on.size⟩
 have hS:symsT u k c=if n.pos=true then (readK (fuelF u) k ⟨ns,c⟩ d 0).map (43::·) else readK (fuelF u) (k+1) ⟨ns,c⟩ d 0:=by
  unfold symsT
  rw [hof,Option.bind_some,hn,Option.bind_some]
 constructor
 ·intro hp
  refine ⟨[],some w2.heap.size,own2,⟨ns,c⟩,0,hrow,hR3,Nat.zero_le _,Nat.le_refl _,hg,cz.on,fun j hj=>cz.low j hj (by simp),?_⟩
  rw [hS,if_neg (by rw [hp];decide)]
  simp
 ·intro hp
  obtain ⟨v',w',b,own',a1,a2,a3,a4,a5,a6,a7⟩:=sym_push hR3 hrow hg cz.on (fun j hj=>cz.low j hj (by simp)) (Nat.zero_le _) 43
  refine ⟨v',w',a1,[43],some b,own',⟨ns,c⟩,0,a2,a3,by simp,Nat.zero_le _,fun b' hb'=>by cases hb';exact ⟨a4,a5⟩,a6,a7,?_⟩
  rw [hS,if_pos hp]
  simp
theorem symbols_some (w:World)(xb:Nat)(T:Rd.Tr)(u:Wt)(k c:Nat)(hx:ExAt w xb T)(hu:planT T=some u)(hk:k<=60)(hc:c<=3000):Calls Tryz.prog 44 #[.pointer (some ⟨xb,0,none⟩),.int .i64 (k:Int),.int .i64 (c:Int)] w (SymsR w (symsT u k c)):=by
 have BG:=hid (begin_ok w xb T k c hx (by omega) (by omega) (by omega) (by omega))
 have OK:=hid (hx.ok hu)
 have HU:=hid hu
 clear hx hu
 go_enter Tryz.func44,Tryz.ntmps44
 go_wp2_with fail
 refine (BG.out).mono ?_
 rintro e w1 hT
 rw [HU.out] at hT
 obtain ⟨hc1,v,rfl,hp⟩:=hT
 obtain ⟨pb,rfl⟩:=PartAt.ptr u v hp
 have C1:=hid hc1
 have HP:=hid hp
 have HW1:=hid hc1.on.size
 clear hc1 hp
 unfold ptrB
 go_wp2_with fail
 refine (new_run OK.out HP.out hc).mono ?_
 rintro e w2 ⟨ns,d,own,nb,fb,n,hof,hn,rfl,hc2,hR⟩
 have C2:=hid hc2
 have HR2:=hid hR
 have HOF:=hid hof
 have HN:=hid hn
 clear hof hn hc2 hR
 unfold ptrB
 go_wp2_with fail
 refine (sign_run (HR2.out.still (Chg.alloc _ _)) HN.out).mono ?_
 rintro e w3 ⟨rfl,hc3⟩
 obtain ⟨hS0,hS1⟩:=sym_start (k:=k) C1.out C2.out HR2.out HOF.out HN.out hc3
 clear hc3
 cases hpos:n.pos
 ·have SR0:=hid (hS0 hpos)
  clear hS0 hS1
  go_wp2_with fail
  go_loopw [11] (fun l wr=>symRel u c w w1.heap.size nb fb d k (symsT u k c) l wr) (fun l _=>k+1-lenOf l)
  case atStart=>exact SR0.out
  case round=>
   obtain ⟨zs,g,own4,s,r,hrow,hR4,hz,hr,hg,hon,hlow,hans⟩:=hrel
   obtain ⟨ao,cp,rfl⟩:=row_sl hrow
   by_cases hlt:zs.length<=k
   ·have hci:(zs.length:Int)<=k:=by omega
    have HR:=hid hR4
    have NX:=hid (fun e w5 hN=>SymRel.next (e:=e) (w5:=w5) HW1.out hR4 hrow hg hon hlow hans (m:=k-zs.length) (by omega) hk hr hN)
    clear hR4 hrow hg hon hlow hans
    go_wp2_with fail
    refine (next_run hc HR.out (by omega)).mono ?_
    rintro e w5 hN
    rcases NX.out e w5 hN with ⟨rfl,hA,hC⟩ | ⟨z,rfl,v',w6,ha,hrel6⟩
    ·have HA:=hid hA
     have HC:=hid hC
     clear hA hC hN
     go_wp2_with fail
     refine bodyPost_ret (v:=.tuple #[.slice none 0 0,.int .i64 6]) (by simp [results,Tryz.results44,go_sem]) rfl ?_
     rw [HA.out]
     exact ⟨HC.out,rfl⟩
    ·have hcz:¬code z=0:=by have:=(code_pos z).1;omega
     have H6:=hid hrel6
     have HA:=hid ha
     clear hrel6 ha hN
     go_wp2_with (at_builtin;refine wpList_app rfl _ _ 97 rfl _ _ rfl rfl v' w6 HA.out ?_)
     go_roundw
     case rel=>exact H6.out.1
     case measure=>exact H6.out.2
   ·have hci:¬(zs.length:Int)<=k:=by omega
    have HA:=hid (SymRel.end hrow hz (by omega) hon hlow hans)
    clear hR4 hrow hg hon hlow hans
    go_wp2_with fail
    refine bodyPost_ret (v:=.tuple #[.slice ao zs.length cp,.int .i64 0]) (by simp [results,Tryz.results44,go_sem]) rfl ?_
    exact HA.out
 ·obtain ⟨v1,w4,ha,hrel4⟩:=hS1 hpos
  have SR0:=hid hrel4
  have HA0:=hid ha
  clear hS0 hS1 hrel4 ha
  go_wp2_with (at_builtin;refine wpList_app rfl _ _ 97 rfl _ _ rfl rfl v1 w4 HA0.out ?_)
  go_loopw [11] (fun l wr=>symRel u c w w1.heap.size nb fb d k (symsT u k c) l wr) (fun l _=>k+1-lenOf l)
  case atStart=>exact SR0.out
  case round=>
   obtain ⟨zs,g,own4,s,r,hrow,hR4,hz,hr,hg,hon,hlow,hans⟩:=hrel
   obtain ⟨ao,cp,rfl⟩:=row_sl hrow
   by_cases hlt:zs.length<=k
   ·have hci:(zs.length:Int)<=k:=by omega
    have HR:=hid hR4
    have NX:=hid (fun e w5 hN=>SymRel.next (e:=e) (w5:=w5) HW1.out hR4 hrow hg hon hlow hans (m:=k-zs.length) (by omega) hk hr hN)
    clear hR4 hrow hg hon hlow hans
    go_wp2_with fail
    refine (next_run hc HR.out (by omega)).mono ?_
    rintro e w5 hN
    rcases NX.out e w5 hN with ⟨rfl,hA,hC⟩ | ⟨z,rfl,v',w6,ha,hrel6⟩
    ·have HA:=hid hA
     have HC:=hid hC
     clear hA hC hN
     go_wp2_with fail
     refine bodyPost_ret (v:=.tuple #[.slice none 0 0,.int .i64 6]) (by simp [results,Tryz.results44,go_sem]) rfl ?_
     rw [HA.out]
     exact ⟨HC.out,rfl⟩
    ·have hcz:¬code z=0:=by have:=(code_pos z).1;omega
     have H6:=hid hrel6
     have HA:=hid ha
     clear hrel6 ha hN
     go_wp2_with (at_builtin;refine wpList_app rfl _ _ 97 rfl _ _ rfl rfl v' w6 HA.out ?_)
     go_roundw
     case rel=>exact H6.out.1
     case measure=>exact H6.out.2
   ·have hci:¬(zs.length:Int)<=k:=by omega
    have HA:=hid (SymRel.end hrow hz (by omega) hon hlow hans)
    clear hR4 hrow hg hon hlow hans
    go_wp2_with fail
    refine bodyPost_ret (v:=.tuple #[.slice ao zs.length cp,.int .i64 0]) (by simp [results,Tryz.results44,go_sem]) rfl ?_
    exact HA.out
theorem symbols_none (w:World)(xb:Nat)(T:Rd.Tr)(k c:Nat)(hx:ExAt w xb T)(hu:planT T=none)(hk:k<=60)(hc:c<=3000):Calls Tryz.prog 44 #[.pointer (some ⟨xb,0,none⟩),.int .i64 (k:Int),.int .i64 (c:Int)] w fun e w'=>e=.returned (.tuple #[.slice none 0 0,.int .i64 5])/\Chg w w' []:=by
 have BG:=hid (begin_ok w xb T k c hx (by omega) (by omega) (by omega) (by omega))
 have HU:=hid hu
 clear hx hu
 go_enter Tryz.func44,Tryz.ntmps44
 go_wp2_with fail
 refine (BG.out).mono ?_
 rintro e w1 hT
 rw [HU.out] at hT
 obtain ⟨hc1,rfl⟩:=hT
 have C1:=hid hc1
 clear hc1
 go_wp2_with fail
 refine bodyPost_ret (v:=.tuple #[.slice none 0 0,.int .i64 5]) (by simp [results,Tryz.results44,go_sem]) rfl ?_
 exact ⟨rfl,C1.out⟩
open Go.RowKit
open Ab
open Rf (Wt fuelF readK symsT)
def letC (c:Int):UInt8:=if c=1 then 43 else if c=2 then 45 else if c=3 then 111 else if c=4 then 119 else if c=5 then 45 else if c=6 then 48 else 43
def letB (z:Int):UInt8:=letC (code z)
def byteV (b:UInt8):Value:=.int .u8 (b.toNat:Int)
theorem letter_any (c:Int)(w:World)(h1:1<=c)(h7:c<=7):Calls Tryz.prog 45 #[.int .i64 c] w fun e w'=>e=.returned (byteV (letC c))/\w=w':=by
 have h:c=1\/c=2\/c=3\/c=4\/c=5\/c=6\/c=7:=by omega
 clear h1 h7
 rcases h with rfl | rfl | rfl | rfl | rfl | rfl | rfl
 all_goals
  go_enter Tryz.func45,Tryz.ntmps45
  go_wp2_with fail
  go_ret
  exact ⟨rfl,rfl⟩
theorem infoU8:(Tryz.prog.info? 5).map (fun i=>(i.zero,i.size,i.bytes))=some (some (.int .u8 0),1,1):=by kernel_rfl
def DigR (w:World)(a:Option (List Int))(e:Ending)(w':World):Prop:=Chg w w' []/\match a with
 | none=>e=.returned (.tuple #[.string ⟨#[]⟩,.int .i64 6])
 | some zs=>e=.returned (.tuple #[.string ⟨(zs.map letB).toArray⟩,.int .i64 0])
def digRel (w:World)(zs:List Int)(tx i:Value)(wr:World):Prop:=
 ∃ n:Nat,n<=zs.length/\i=.int .i64 n/\wr.ownsRow w.heap.size 5 1 tx n ((zs.take n).map (fun z=>byteV (letB z)))/\Below w.heap.size w wr
theorem row_cell {w:World}{zs:List Int}{l:Value}{g:Option Nat}(h:RowOf w 100 (zs.map codeV) l g){n:Nat}(hn:n<zs.length):∃ b cap,l=.slice (some ⟨b,0,none⟩) zs.length cap/\b<w.heap.size/\w.cell? ⟨b,n,none⟩=some (.int .i64 (code zs[n])):=by
 rcases h with ⟨_,h2,_⟩ | ⟨b,cap,rest,_,h2,h3,_⟩
 ·have:zs=[]:=by simpa using h2
  subst this
  simp at hn
 ·refine ⟨b,cap,by simpa using h2,lt_of_heap h3,cell_of_block h3 ?_⟩
  simp [List.getElem?_append_left,hn,codeV]
theorem own_str {w:World}{B n:Nat}{v:Value}{l:List UInt8}(h:w.ownsRow B 5 1 v n (l.map byteV))(hn:n=l.length)(h0:0<n):(convert 84 9 v).run Tryz.prog w=.ok (.string ⟨l.toArray⟩) w:=by
 have h':=h
 rcases h.2 with ⟨_,e⟩ | ⟨g,cap,cur,rfl,h2⟩
 ·omega
 ·subst hn
  refine run_convert_bytes_back (P:=Tryz.prog) w 84 9 5 ⟨g,0,none⟩ cap l Tryz.underlying84 Tryz.underlying5 Tryz.underlying9 fun j hj=>?_
  refine h'.cells (g:=g) rfl j _ ?_
  simp [hj,byteV]
theorem digits_some (w:World)(xb:Nat)(T:Rd.Tr)(u:Wt)(k c:Nat)(hx:ExAt w xb T)(hu:planT T=some u)(hk:k<=60)(hc:c<=3000):Calls Tryz.prog 24 #[.pointer (some ⟨xb,0,none⟩),.int .i64 (k:Int),.int .i64 (c:Int)] w (DigR w (symsT u k c)):=by
 have SY:=hid (symbols_some w xb T u k c hx hu hk hc)
 have LEN:=hid (fun zs (h:symsT u k c=some zs)=>Rf.symsT_len h)
 clear hx hu
 generalize symsT u k c=ans at*
 go_enter Tryz.func24,Tryz.ntmps24
 go_wp2_with fail
 refine (SY.out).mono ?_
 rintro e w1 ⟨hc1,h⟩
 have C1:=hid hc1
 clear hc1
 cases ans with
 | none=>
  simp only at h
  subst h
  go_wp2_with fail
  refine bodyPost_ret (v:=.tuple #[.string ⟨#[]⟩,.int .i64 6]) (by simp [results,Tryz.results24,go_sem]) rfl ?_
  exact ⟨C1.out,rfl⟩
 | some zs=>
  simp only at h
  obtain ⟨l,g,rfl,hrow⟩:=h
  have hlen:=LEN.out zs rfl
  obtain ⟨i,hi,hz,hsize,hby⟩:=info_parts infoU8
  obtain ⟨ao,cp,rfl⟩:=row_sl hrow
  have ROW:=hid (fun n (hn:n<zs.length)=>row_cell hrow hn)
  clear hrow
  go_wp2_with fail
  go_loopw [10,11] (fun tx i wr=>digRel w1 zs tx i wr) (fun _ i _=>zs.length-(intOf i).toNat)
  case atStart=>
   refine ⟨0,Nat.zero_le _,rfl,⟨rfl,Or.inr ⟨w1.heap.size,0,#[],rfl,Nat.le_refl _,cells_new _ _,Nat.le_refl _,by decide,rfl,rfl⟩⟩,(Below.refl _ _).alloc (Nat.le_refl _) _⟩
  case round=>
   obtain ⟨n,hn,rfl,hown,hbel⟩:=hrel
   have hbs:=hbel.size
   by_cases hlt:n<zs.length
   ·have hci:(n:Int)<zs.length:=by omega
    obtain ⟨b,cap,hl,hbl,hcell⟩:=ROW.out n hlt
    cases hl
    have dt:=(hbel.cell hbl).trans hcell
    have TK:=hid (take_next hlt)
    have hcp:=code_pos zs[n]
    obtain ⟨ao3,ln3,cp3,rfl⟩:=own_slP hown
    clear hcell
    generalize zs[n]=z at*
    go_wp2_with fail
    refine (letter_any (code z) _ hcp.1 hcp.2).mono ?_
    rintro e w' ⟨rfl,rfl⟩
    unfold byteV
    generalize hB:((letC (code z)).toNat:Int)=B
    go_wp2_with (at_builtin;(refine wpList_append_own _ rfl _ _ 84 rfl w1.heap.size 5 i (.int .u8 0) 1 1 Tryz.underlying84 hi hz hsize hby rfl (by decide) _ _ _ rfl (hown.alloc _) ⟨wr.heap.size,0,none⟩ 1 1 [.int .u8 B] rfl rfl (cell_one_new _ _ _) (fun u hu=>by simp at hu;subst hu;rfl) (by unfold maxLen;omega) (by omega) (by simp;omega) ?_;intro v' w6 hown6 hgrow6 hnil6;have B6:=hid (below_own hown hbel hbel.size _ hgrow6);have O6:=hid hown6;clear hnil6 hgrow6 hown6))
    go_roundw
    case rel=>
     refine ⟨n+1,by omega,by go_num,?_,B6.out⟩
     rw [TK.out,List.map_append]
     have O7:=O6.out
     rw [<-hB] at O7
     exact O7
    case measure=>simp [intOf];omega
   ·obtain rfl:n=zs.length:=by omega
    rw [List.take_length] at hown
    have hconv:=own_str (l:=zs.map letB) (by rw [List.map_map];exact hown) (by simp) (by omega)
    obtain ⟨ao3,ln3,cp3,rfl⟩:=own_slP hown
    have HB:=hid hbel
    clear hown hbel
    go_wp2_with fail
    refine bodyPost_ret (v:=.tuple #[.string ⟨(zs.map letB).toArray⟩,.int .i64 0]) (by simp [results,Tryz.results24,go_sem]) rfl ?_
    exact ⟨C1.out.trans (Chg.of_below HB.out),rfl⟩
theorem digits_none (w:World)(xb:Nat)(T:Rd.Tr)(k c:Nat)(hx:ExAt w xb T)(hu:planT T=none)(hk:k<=60)(hc:c<=3000):Calls Tryz.prog 24 #[.pointer (some ⟨xb,0,none⟩),.int .i64 (k:Int),.int .i64 (c:Int)] w fun e w'=>e=.returned (.tuple #[.string ⟨#[]⟩,.int .i64 5])/\Chg w w' []:=by
 have SY:=hid (symbols_none w xb T k c hx hu hk hc)
 clear hx hu
 go_enter Tryz.func24,Tryz.ntmps24
 go_wp2_with fail
 refine (SY.out).mono ?_
 rintro e w1 ⟨rfl,hc1⟩
 have C1:=hid hc1
 clear hc1
 go_wp2_with fail
 refine bodyPost_ret (v:=.tuple #[.string ⟨#[]⟩,.int .i64 5]) (by simp [results,Tryz.results24,go_sem]) rfl ?_
 exact ⟨rfl,C1.out⟩
open Go.RowKit
open Go.Deep (BT)
def pickI (c:Int)(n:Nat):Nat:=if c<0 then ((-(c+1))%(n:Int)).toNat else (c%(n:Int)).toNat
theorem pickI_lt (c:Int)(n:Nat)(hn:0<n):pickI c n<n:=by
 unfold pickI
 split
 ·have:=Int.emod_lt_of_pos (-(c+1)) (show (0:Int)<n by omega)
  omega
 ·have:=Int.emod_lt_of_pos c (show (0:Int)<n by omega)
  omega
theorem pick_any (c:Int)(n:Nat)(w:World)(h0:-9223372036854775808<=c)(h1:c<=9223372036854775807)(hn:0<n)(hm:n<=4000000):
  Calls Tryz.prog 15 #[.int .i64 c,.int .i64 n] w fun e w'=>e=.returned (.int .i64 (pickI c n))/\w=w':=by
 by_cases hc:c<0
 ·have e1:-(c+1).tmod (n:Int)=(pickI c n:Int):=by
   rw [pickI,if_pos hc,<-Int.neg_tmod,Int.tmod_eq_emod_of_nonneg (by omega),Int.toNat_of_nonneg (Int.emod_nonneg _ (by omega))]
  generalize pickI c n=i at*
  have E:=hideq e1
  clear e1
  go_enter Tryz.func15,Tryz.ntmps15
  go_wp2_with fail
  go_ret
  exact ⟨ret_int E.out,rfl⟩
 ·have e1:c%(n:Int)=(pickI c n:Int):=by
   rw [pickI,if_neg hc,Int.toNat_of_nonneg (Int.emod_nonneg _ (by omega))]
  generalize pickI c n=i at*
  have E:=hideq e1
  clear e1
  go_enter Tryz.func15,Tryz.ntmps15
  go_wp2_with fail
  go_ret
  exact ⟨ret_int E.out,rfl⟩
open Go.RowKit
open Ab
open Rf (Wt fuelF readK symsT denW denW_ok)
theorem ExAt.of {B:Nat}{w:World}{T:Rd.Tr}{v:Value}(h:ExprAt B w (some T) v)(wf:Rd.Wf T)(cnt:Rd.cnt T<=40):∃ xb,v=.pointer (some ⟨xb,0,none⟩)/\ExAt w xb T:=by
 obtain ⟨rb,xb,rv,h1,_,_,h4,h5⟩:=h
 exact ⟨xb,h1,⟨rb,rv,h4,h5.2⟩,wf,cnt⟩
theorem chg_bel {w w':World}(h:Chg w w' []):Below w.heap.size w w':=h.below (Nat.le_refl _) (fun k hk=>by simp at hk)
theorem bel_app {w w1 w2:World}(h:Below w.heap.size w w1)(h2:Below w1.heap.size w1 w2):Below w.heap.size w w2:=h.trans (h2.mono h.size)
theorem terms_none (w:World)(xb:Nat)(T:Rd.Tr)(k c:Nat)(hx:ExAt w xb T)(hu:planT T=none)(hk:k<=60)(hc:c<=3000):Calls Tryz.prog 22 #[.pointer (some ⟨xb,0,none⟩),.int .i64 (k:Int),.int .i64 (c:Int)] w fun e w'=>e=.returned (.tuple #[.slice none 0 0,.int .i64 5])/\Chg w w' []:=by
 have BG:=hid (begin_ok w xb T k c hx (by omega) (by omega) (by omega) (by omega))
 have HU:=hid hu
 clear hx hu
 go_enter Tryz.func22,Tryz.ntmps22
 go_wp2_with fail
 refine (BG.out).mono ?_
 rintro e w1 hT
 rw [HU.out] at hT
 obtain ⟨hc1,rfl⟩:=hT
 have C1:=hid hc1
 clear hc1
 go_wp2_with fail
 refine bodyPost_ret (v:=.tuple #[.slice none 0 0,.int .i64 5]) (by simp [results,Tryz.results22,go_sem]) rfl ?_
 exact ⟨rfl,C1.out⟩
theorem decimal_arg (w:World)(xb:Nat)(k c:Int)(k0:¬k<0)(k1:60<k):Calls Tryz.prog 20 #[.pointer (some ⟨xb,0,none⟩),.int .i64 k,.int .i64 c] w fun e w'=>e=.returned (.tuple #[.string ⟨#[]⟩,.int .i64 4])/\Below w.heap.size w w':=by
 have BG:=hid (begin_k w xb k c k0 k1)
 go_enter Tryz.func20,Tryz.ntmps20
 go_wp2_with fail
 refine (BG.out).mono ?_
 rintro e w1 ⟨rfl,hc1⟩
 have C1:=hid hc1
 clear hc1
 go_wp2_with fail
 refine bodyPost_ret (v:=.tuple #[.string ⟨#[]⟩,.int .i64 4]) (by simp [results,Tryz.results20,go_sem]) rfl ?_
 exact ⟨rfl,C1.out⟩
theorem compare_arg (w:World)(xb:Nat)(v:Value)(k c:Int)(k0:¬k<0)(k1:¬60<k)(c0:¬c<0)(c1:3000<c):Calls Tryz.prog 25 #[.pointer (some ⟨xb,0,none⟩),v,.int .i64 k,.int .i64 c] w fun e w'=>e=.returned (.tuple #[.int .i64 0,.int .i64 4])/\Below w.heap.size w w':=by
 have BG:=hid (begin_f w xb k c k0 k1 c0 c1)
 go_enter Tryz.func25,Tryz.ntmps25
 go_wp2_with fail
 refine (BG.out).mono ?_
 rintro e w1 ⟨rfl,hc1⟩
 have C1:=hid hc1
 clear hc1
 go_wp2_with fail
 refine bodyPost_ret (v:=.tuple #[.int .i64 0,.int .i64 4]) (by simp [results,Tryz.results25,go_sem]) rfl ?_
 exact ⟨rfl,C1.out⟩
theorem denied_walk (c:Int)(w:World)(h0:-9223372036854775808<=c)(h1:c<=9223372036854775807):
  Calls Tryz.prog 7 #[.int .i64 c] w fun e w'=>e=.returned (.bool true)/\Below w.heap.size w w':=by
 have PK:=hid (fun w=>pick_any c 4 w h0 h1 (by decide) (by decide))
 have hpl:=pickI_lt c 4 (by decide)
 obtain ⟨T,hr,hs,hp,hwf,hcn⟩:=den_tab (pickI c 4) hpl
 have cs:∀ W:World,W=w.alloc (.cells #[.string ⟨#[112,105,47,40,49,32,45,32,49,41]⟩,.string ⟨#[115,113,114,116,40,45,49,41]⟩,.string ⟨#[108,110,49,112,40,49,47,50,32,45,32,49,41]⟩,.string ⟨#[49,32,43,32,50,47,48]⟩] 9)->W.cell? ⟨w.heap.size,pickI c 4,none⟩=some (.string (denAt (pickI c 4))):=by
  rintro W rfl
  generalize pickI c 4=i at hpl
  refine cell_of_block (cells_new _ _) ?_
  match i,hpl with
  | 0,_=>rfl
  | 1,_=>rfl
  | 2,_=>rfl
  | 3,_=>rfl
 generalize hI:pickI c 4=i at*
 generalize hden:denAt i=t at*
 have HR:=hid (fun w=>exprRead_any 1300 t w (some T,0,0) (by unfold maxLen;omega) hr)
 have HP:=hid hp
 have HWF:=hid hwf
 have HCN:=hid hcn
 obtain ⟨Tz,hrz,hpz,hwz,hcz⟩:=denZ_tab
 have HZ:=hid (fun w=>exprRead_any 1300 denZ w (some Tz,0,0) (by decide) hrz)
 have HPZ:=hid hpz
 have HWZ:=hid hwz
 have HCZ:=hid hcz
 have CS:=hid cs
 clear hr hp hwf hcn hrz hpz hwz hcz cs
 go_enter Tryz.func7,Tryz.ntmps7
 go_wp2_with fail
 refine (PK.out _).mono ?_
 rintro e w1 ⟨rfl,rfl⟩
 have hcell:=CS.out _ rfl
 go_wp2_with fail
 refine (HR.out _).mono ?_
 rintro e w2 ⟨v,rfl,hv,hb2⟩
 obtain ⟨xb,rfl,hx⟩:=ExAt.of hv HWF.out HCN.out
 have HX:=hid hx
 have HB2:=hid hb2
 clear hv hx hb2 hcell
 go_wp2_with fail
 refine (digits_none _ xb T 3 100 HX.out HP.out (by decide) (by decide)).mono ?_
 rintro e w3 ⟨rfl,hc3⟩
 have C3:=hid hc3
 clear hc3
 go_wp2_with fail
 refine (terms_none _ xb T 0 0 (HX.out.keep C3.out) HP.out (by decide) (by decide)).mono ?_
 rintro e w4 ⟨rfl,hc4⟩
 have C4:=hid hc4
 clear hc4
 go_wp2_with fail
 refine (decimal_arg _ xb 61 100 (by decide) (by decide)).mono ?_
 rintro e w5 ⟨rfl,hc5⟩
 have C5:=hid hc5
 clear hc5
 go_wp2_with fail
 refine (compare_arg _ xb _ 2 3001 (by decide) (by decide) (by decide) (by decide)).mono ?_
 rintro e w6 ⟨rfl,hc6⟩
 have C6:=hid hc6
 clear hc6
 go_wp2_with fail
 refine (HZ.out _).mono ?_
 rintro e w7 ⟨v,rfl,hv,hb7⟩
 obtain ⟨zb,rfl,hz⟩:=ExAt.of hv HWZ.out HCZ.out
 have HXZ:=hid hz
 have HB7:=hid hb7
 clear hv hz hb7
 go_wp2_with fail
 refine (digits_some _ zb Tz denW 1 3000 HXZ.out HPZ.out (by decide) (by decide)).mono ?_
 rintro e w8 ⟨hc8,he⟩
 rw [denSym] at he
 simp only at he
 subst he
 have C8:=hid hc8
 clear hc8
 go_wp2_with fail
 go_ret
 refine ⟨rfl,?_⟩
 exact bel_app (bel_app (bel_app (bel_app (bel_app (bel_app (bel_app ((Below.refl w.heap.size w).alloc (Nat.le_refl _) _) HB2.out) (chg_bel C3.out)) (chg_bel C4.out)) C5.out) C6.out) HB7.out) (chg_bel C8.out)
open Go.ChangeShapes Go.WideShapes Go.ChangeAt Go.RowKit
theorem own:ownKnob Tryz.prog.godebug=none:=by kernel_rfl
theorem contractDenied (H:Type)(enc:TypeId×Value->H)(W:World)(base:Nat)(args:Array Value)(ds gs:List (DataW H))(before:List MemPlace)
  (hval:∀ (j:Nat) t v,Tryz.f7.params[j]?=some t->args[j]?=some v->Value.okWide Tryz.prog W .any base t v)
  (hW:DataW.Whole enc Tryz.prog Tryz.f7.params.toList Rows.deniedSpec.vars false W args.toList ds gs before) (hL:laidMetH Tryz.prog Rows.deniedRow.laid W):
  Calls Tryz.prog 7 args W fun e W'=>∃ v,e=.returned v/\Rows.deniedSpec.post enc Tryz.prog Tryz.f7 false true false false W args v W':=by
 have hW':=hW
 obtain ⟨p,q,hA0,hV,rfl,hfz,hnd⟩:=hW
 have hA:DataW.TrodAll enc Tryz.prog W 0 (fun _=>true) true Tryz.f7.params.toList args.toList ds p:=hA0
 rw [Tryz.params7] at hA hval
 obtain ⟨v0,d0,rfl,rfl,h0⟩:=trodAll_one hA
 obtain ⟨rfl,rfl⟩:=trodVars_none hV
 obtain ⟨a0,rfl,rfl,rfl,w0⟩:=open_int Tryz.underlying3 (hval 0 3 v0 rfl rfl) h0
 clear hA0
 obtain ⟨b0,b1⟩:=bounds_i64 w0
 refine (denied_walk a0 W b0 b1).mono fun e W' ⟨he,hb⟩=>?_
 subst he
 exact ⟨_,rfl,_,_,_,[],_,[],hW',trodAll_mk1 (shut_bool Tryz.underlying4 _),trodAll_mk1 (shut_int Tryz.underlying3 w0),rfl,hb.frame _,fun h=>by cases h⟩
def putCells (xs:Array Value):Obj->Obj
 | .cells _ t f=>.cells xs t f
 | o=>o
def layTabs (w:World):World:=
 {w with heap:=((w.heap.modify 0 (putCells #[.int .u64 1,.int .u64 10,.int .u64 100,.int .u64 1000,.int .u64 10000,.int .u64 100000,.int .u64 1000000,.int .u64 10000000,.int .u64 100000000,.int .u64 1000000000,.int .u64 10000000000,.int .u64 100000000000,.int .u64 1000000000000,.int .u64 10000000000000,.int .u64 100000000000000,.int .u64 1000000000000000,.int .u64 10000000000000000,.int .u64 100000000000000000,.int .u64 1000000000000000000,.int .u64 10000000000000000000])).modify 1 (putCells #[.int .u8 0,.int .u8 1,.int .u8 28,.int .u8 2,.int .u8 29,.int .u8 14,.int .u8 24,.int .u8 3,.int .u8 30,.int .u8 22,.int .u8 20,.int .u8 15,.int .u8 25,.int .u8 17,.int .u8 4,.int .u8 8,.int .u8 31,.int .u8 27,.int .u8 13,.int .u8 23,.int .u8 21,.int .u8 19,.int .u8 16,.int .u8 7,.int .u8 26,.int .u8 12,.int .u8 18,.int .u8 6,.int .u8 11,.int .u8 5,.int .u8 10,.int .u8 9])).modify 2 (putCells #[.int .u8 0,.int .u8 1,.int .u8 56,.int .u8 2,.int .u8 57,.int .u8 49,.int .u8 28,.int .u8 3,.int .u8 61,.int .u8 58,.int .u8 42,.int .u8 50,.int .u8 38,.int .u8 29,.int .u8 17,.int .u8 4,.int .u8 62,.int .u8 47,.int .u8 59,.int .u8 36,.int .u8 45,.int .u8 43,.int .u8 51,.int .u8 22,.int .u8 53,.int .u8 39,.int .u8 33,.int .u8 30,.int .u8 24,.int .u8 18,.int .u8 12,.int .u8 5,.int .u8 63,.int .u8 55,.int .u8 48,.int .u8 27,.int .u8 60,.int .u8 41,.int .u8 37,.int .u8 16,.int .u8 46,.int .u8 35,.int .u8 44,.int .u8 21,.int .u8 52,.int .u8 32,.int .u8 23,.int .u8 11,.int .u8 54,.int .u8 26,.int .u8 40,.int .u8 15,.int .u8 34,.int .u8 20,.int .u8 31,.int .u8 10,.int .u8 25,.int .u8 14,.int .u8 19,.int .u8 9,.int .u8 13,.int .u8 8,.int .u8 7,.int .u8 6])}
theorem laidMetDenied (os:Os):laidMet Tryz.prog Rows.deniedRow.laid ((layTabs (World.holding Tryz.prog os ⟨#[],#[],[]⟩)).forCall (fun _ _=>0) ⟨#[],#[.int .i64 0],[]⟩).memory:=
 laidMet_of_run' 8 (by kernel_rfl) (by kernel_rfl)
theorem readsDenied (os:Os){H:Type}(enc:TypeId×Value->H):∃ places,DataW.whole enc Tryz.prog ((layTabs (World.holding Tryz.prog os ⟨#[],#[],[]⟩)).forCall (fun _ _=>0) ⟨#[],#[.int .i64 0],[]⟩).memory Tryz.f7.params.toList Rows.deniedSpec.vars false #[Value.int .i64 0].toList 8=some ([.lit (.int .i64 0)],[],places):=
 ⟨[],by kernel_rfl⟩
theorem liftedDenied (os:Os)(started:os.Started)(H:Type)(enc:TypeId×Value->H)(F:Stop.Interp):
  ReturnsInHanded {} Tryz.checked os 7 .any ((OpenSpec.ofChange Rows.deniedSpec).preRow enc Tryz.prog Tryz.f7 Rows.deniedRow.domain false Rows.deniedRow.laid) (((OpenSpec.ofChange Rows.deniedSpec).at F).post enc Tryz.prog Tryz.f7 false true false false):=by
 obtain ⟨places,hx⟩:=readsDenied os enc
 refine returnsInHanded_of_row (C:=Tryz.checked) (s:=OpenSpec.ofChange Rows.deniedSpec) own started (by kernel_rfl) Tryz.func7
  (witness_row_at (enc:=enc) (C:=Tryz.checked) false (layTabs (World.holding Tryz.prog os ⟨#[],#[],[]⟩)) #[.int .i64 0] rfl (by kernel_rfl) (by kernel_rfl) (by kernel_rfl)
   (OpenSpec.preRow_of_cond 8 hx (by kernel_rfl) (fun k hk=>by cases hk) (by kernel_rfl) (laidMetDenied os))) ?_
 intro W base args ds gs before hval hW _ _ _ hL _ _
 exact contractDenied H enc W base args ds gs before hval hW hL
theorem saidDenied:Rows.DeniedSaid:=
 OpenClaim.holds_of_cond 7 Tryz.f7 rfl rfl rfl rfl rfl rfl rfl ⟨rfl,rfl,rfl,rfl,rfl⟩ rfl rfl rfl rfl rfl (by kernel_rfl) Tryz.func7 (by kernel_rfl)
  (of_decide_eq_true (by kernel_rfl)) (by unfold Func.isWrapper;first | (rw [if_pos (by decide +kernel)];kernel_rfl) | (rw [if_neg (by decide +kernel)];exact ⟨rfl,rfl⟩))
  (fun os started H enc _ F=>by rw [OpenClaim.pre_eq_preRow];exact liftedDenied os started H enc F)
theorem plainDenied (f:FuncId)(fn:Func)(hf:Tryz.pinned.checked.prog.funcNamed "reals/realskeep.Denied"=some f)(hfn:Tryz.pinned.checked.prog.funcs[f]?=some fn):
  false=Tryz.pinned.checked.prog.looks []/\∀ (j:Nat) t,fn.params[j]?=some t->Tryz.pinned.checked.prog.wantsStandIn t=false:=by
 obtain rfl:f=7:=Option.some.inj ((show Tryz.prog.funcNamed "reals/realskeep.Denied"=some 7 by kernel_rfl).symm.trans hf) |>.symm
 obtain rfl:fn=Tryz.f7:=(Option.some.inj (Tryz.func7.symm.trans hfn)).symm
 refine ⟨by kernel_rfl,fun j t ht=>?_⟩
 rw [Tryz.params7] at ht
 obtain rfl:t=3:=by simpa using Array.mem_of_getElem? ht
 exact (show Tryz.prog.wantsStandIn 3=false by kernel_rfl)
theorem denied_holds:Rows.DeniedCardSaid:=
 Claim7.holds_tied_plain_at .later [] _ _ _ _ saidDenied (fun _ h=>by cases h) (by kernel_rfl) (fun _ h=>by cases h) denied_row_tie rfl ⟨rfl,rfl⟩ (by kernel_rfl) rfl plainDenied (by kernel_rfl)
end Go.Proofs.YteghhlfmcjmnoaaGreatDoor
