import Derived.Test.YteghhlfmcjmnoaaGreatDoorCDe23
import Derived.Test.YteghhlfmcjmnoaaGreatDoorCDe22
import Derived.Lib.ItoaNum
set_option linter.unusedSimpArgs false
set_option linter.unusedVariables false
set_option maxRecDepth 100000
set_option maxHeartbeats 2000000
namespace Go.Proofs.YteghhlfmcjmnoaaGreatDoor
open Go.RowKit
theorem all_said (rb g cap:Nat)(ws:List Rd.Wd)(hws:WsOk ws):∀ n f,f<=n->
  Said rb g cap ws 64 0 f/\Said rb g cap ws 98 2 f/\Said rb g cap ws 142 4 f/\Said rb g cap ws 170 5 f/\Said rb g cap ws 187 6 f:=by
 intro n
 induction n with
 | zero=>
  intro f hf
  obtain rfl:f=0:=by omega
  refine ⟨?_,?_,?_,?_,?_⟩<;>(intro w st res st' _ hp;cases hp)
 | succ n ih=>
  intro f hf
  have lt:∀ k,k<f->k<=n:=fun k hk=>by omega
  exact ⟨sum_step rb g cap ws f (fun k hk=>(ih k (lt k hk)).2.1),product_step rb g cap ws f (fun k hk=>(ih k (lt k hk)).2.2.1),
   signed_step rb g cap ws f (fun k hk=>(ih k (lt k hk)).2.2.1) (fun k hk=>(ih k (lt k hk)).2.2.2.1),
   atom_step rb g cap ws f hws (fun k hk=>(ih k (lt k hk)).2.2.2.2),brackets_step rb g cap ws f (fun k hk=>(ih k (lt k hk)).1)⟩
theorem numEnd_nine (s:ByteArray)(a:Nat):∀ f e,e<=a+9->Rd.numEnd s a f e<=a+9:=by
 intro f
 induction f with
 | zero=>intro e h;exact h
 | succ f ih=>
  intro e h
  unfold Rd.numEnd
  cases hc:decide (e<s.size/\e-a<9)&&Rd.isDig (Rd.byteAt s e) with
  | false=>exact h
  | true=>
   simp only [Bool.and_eq_true,decide_eq_true_eq] at hc
   exact ih (e+1) (by omega)
theorem split_nine (s:ByteArray):∀ f a,∀ x∈Rd.split s f a,x.kind=1->x.text.size<=9:=by
 intro f
 induction f with
 | zero=>intro a x hx;simp [Rd.split] at hx
 | succ f ih=>
  intro a x hx
  rw [Rd.split] at hx
  cases h1:decide (a<s.size) with
  | false=>
   rw [h1] at hx
   simp at hx
   subst hx
   intro h
   simp at h
  | true=>
   rw [h1] at hx
   simp only [decide_eq_true_eq] at h1
   cases h2:(Rd.byteAt s a != 32) with
   | false=>
    rw [h2] at hx
    exact ih _ x hx
   | true=>
    rw [h2] at hx
    simp only [cond_true,List.mem_cons] at hx
    rcases hx with rfl | hx
    ·intro hk
     simp only at hk
     have hd:Rd.isDig (Rd.byteAt s a)=true:=by
      cases hd:Rd.isDig (Rd.byteAt s a) with
      | true=>rfl
      | false=>
       rw [Rd.kindOf,hd] at hk
       cases hl:Rd.isLet (Rd.byteAt s a)<;>simp [hl] at hk
     have he:Rd.wordEnd s a<=a+9:=by
      rw [Rd.wordEnd,hd]
      exact numEnd_nine s a 9 (a+1) (by omega)
     show (s.extract a (Rd.wordEnd s a)).size<=9
     rw [ByteArray.size_extract]
     omega
    ·exact ih _ x hx
theorem split_ok (s:ByteArray)(f a:Nat):WsOk (Rd.split s f a):=by
 intro n hk
 unfold Rd.wordAt at*
 rcases Nat.lt_or_ge n (Rd.split s f a).length with h | h
 ·rw [show (Rd.split s f a).getD n ⟨0,⟨#[]⟩,0⟩=(Rd.split s f a)[n] by simp [List.getD,h]] at*
  exact split_nine s f a _ (List.getElem_mem h) hk
 ·rw [show (Rd.split s f a).getD n ⟨0,⟨#[]⟩,0⟩=⟨0,⟨#[]⟩,0⟩ by simp [List.getD,h]] at hk
  simp at hk
theorem split_pos (s:ByteArray):∀ f a,s.size<f+a->a<=s.size->0<(Rd.split s f a).length:=by
 intro f
 induction f with
 | zero=>intro a h h';omega
 | succ f ih=>
  intro a h h'
  rw [Rd.split]
  cases h1:decide (a<s.size) with
  | false=>simp
  | true=>
   simp only [decide_eq_true_eq] at h1
   cases h2:(Rd.byteAt s a != 32) with
   | true=>simp
   | false=>
    have e1:=Rd.wordEnd_lo s a
    have e2:=Rd.wordEnd_hi s a h1
    exact ih _ (by omega) e2
theorem newReader_any (s:ByteArray)(w:World)(hs:s.size<=120):
  Calls Tryz.prog 63 #[.string s] w fun e w'=>∃ rb g cap,e=.returned (.pointer (some ⟨rb,0,none⟩))/\w.heap.size<=rb/\Rdr w' rb g cap (Rd.split s (s.size+1) 0) ⟨0,0,0,0⟩/\Below w.heap.size w w':=by
 have hpos:=split_pos s (s.size+1) 0 (by omega) (by omega)
 have SP:=hideq (split_any s w hs)
 generalize Rd.split s (s.size+1) 0=ws at*
 go_enter Tryz.func63,Tryz.ntmps63
 go_wp2_with fail
 refine (SP.out).mono ?_
 rintro e w1 ⟨v,rfl,hown,hb⟩
 obtain ⟨g,cap,cur,hv,hg,hh,hrow⟩:∃ g cap cur,v=.slice (some ⟨g,0,none⟩) ws.length cap/\w.heap.size<=g/\w1.heap[g]?=some (.cells cur 127 (0,0))/\cur.toList.take (ws.length*3)=Rd.wcells ws:=by
  rcases hown.2 with ⟨_,h⟩ | ⟨g,cap,cur,h1,h2,h3,_,_,_,h4⟩
  ·omega
  ·exact ⟨g,cap,cur,h1,h2,h3,h4⟩
 rw [hv]
 have hsz:=hb.size
 have hglt:=heap_lt hh
 have HH:=hideq hh
 have HR:=hideq hrow
 clear hv hown hh hrow
 go_wp2_with fail
 go_ret
 refine ⟨w1.heap.size,g,cap,rfl,hsz,⟨cells_new _ _,⟨cur,?_,HR.out⟩,by omega⟩,hb.alloc hsz _⟩
 rw [Below.heap_alloc _ _ _ hglt]
 exact HH.out
theorem below_keep {B rb:Nat}{w w1 w2:World}(h:Below B w w1)(hk:Keep rb w1 w2)(hB:B<=rb)(hs:B<=w1.heap.size):Below B w w2:=
 h.trans ⟨hk.os,hk.tape,hk.output,hk.size,fun k hk'=>hk.block k (by omega) (by omega)⟩
def ReadPost (w:World)(x:Option Rd.Tr×Int×Int)(e:Ending)(w':World):Prop:=
 ∃ rb v,e=.returned (.tuple #[v,.int .i64 x.2.1,.int .i64 x.2.2])/\w.heap.size<=rb/\EncO rb w' x.1 v/\Below w.heap.size w w'
theorem treeRead_any (f:Nat)(s:ByteArray)(w:World)(x:Option Rd.Tr×Int×Int)(hm:s.size<=maxLen)(hp:Rd.read f s=some x):Calls Tryz.prog 36 #[.string s] w (ReadPost w x):=by
 unfold maxLen at hm
 unfold Rd.read at hp
 by_cases hs:120<s.size
 ·rw [decide_eq_true hs] at hp
  simp only [cond_true,Option.some.injEq] at hp
  subst hp
  go_enter Tryz.func36,Tryz.ntmps36
  go_wp2_with fail
  go_ret3
  exact ⟨_,_,rfl,Nat.le_refl _,rfl,Below.refl _ _⟩
 ·rw [decide_eq_false hs] at hp
  simp only [cond_false] at hp
  have hws:=split_ok s (s.size+1) 0
  generalize hP:Rd.parse (Rd.split s (s.size+1) 0) f 0 none ⟨0,0,0,0⟩=R at hp
  have NR:=hideq (newReader_any s w (by omega))
  generalize Rd.split s (s.size+1) 0=ws at*
  have HWS:=hideq hws
  have HPP:=hideq hP
  clear hws hP
  cases R with
  | none=>cases hp
  | some y=>
   obtain ⟨t,st⟩:=y
   have WX:Hid (∀ W rb g cap,Rdr W rb g cap ws st->Calls Tryz.prog 65 #[.pointer (some ⟨rb,0,none⟩)] W fun e w'=>e=.returned (.agg #[.int .i64 (Rd.wordAt ws st.next).kind,.string (Rd.wordAt ws st.next).text,.int .i64 (Rd.wordAt ws st.next).pos])/\Below W.heap.size W w'):=fun W rb g cap hW=>word_any W rb g cap ws st hW
   cases t with
   | none=>
    simp only [Option.some.injEq] at hp
    generalize Rd.wordAt ws st.next=x at*
    subst hp
    go_enter Tryz.func36,Tryz.ntmps36
    go_wp2_with fail
    refine (NR.out).mono ?_
    rintro e w1 ⟨rb,g,cap,rfl,hrb,hR1,hb1⟩
    go_wp2_with fail
    refine ((all_said rb g cap ws HWS.out f f (Nat.le_refl _)).1 _ _ _ st hR1 HPP.out).mono ?_
    rintro e w2 ⟨v2,rfl,hE2,hR2,hK2⟩
    have hb2:=below_keep hb1 hK2 hrb hb1.size
    have hsz2:=hb2.size
    rw [show v2=Value.pointer none from hE2]
    go_wp2_with fail
    refine (WX.out _ _ _ _ hR2).mono ?_
    rintro e w3 ⟨rfl,hb3⟩
    have hsz3:=hb3.size
    go_wp2_with fail
    go_quiet (fail)
    go_wp2_with fail
    go_ret3
    exact ⟨rb,_,rfl,hrb,rfl,below_drewN ((hb2.trans (hb3.mono hsz2)).alloc (by omega) _) _⟩
   | some t=>
    simp only at hp
    generalize Rd.wordAt ws st.next=x at*
    cases u1:(x.kind==0)
    ·have u1':(x.kind != 0)=true:=by simp [bne,u1]
     rw [u1] at hp
     simp only [cond_false,Option.some.injEq] at hp
     subst hp
     go_enter Tryz.func36,Tryz.ntmps36
     go_wp2_with fail
     refine (NR.out).mono ?_
     rintro e w1 ⟨rb,g,cap,rfl,hrb,hR1,hb1⟩
     go_wp2_with fail
     refine ((all_said rb g cap ws HWS.out f f (Nat.le_refl _)).1 _ _ _ st hR1 HPP.out).mono ?_
     rintro e w2 ⟨v2,rfl,hE2,hR2,hK2⟩
     have hb2:=below_keep hb1 hK2 hrb hb1.size
     have hsz2:=hb2.size
     obtain ⟨⟨b5,hb5⟩,hE6⟩:=hE2
     rw [hb5]
     rw [hb5] at hE6
     clear hb5
     go_wp2_with fail
     refine (WX.out _ _ _ _ hR2).mono ?_
     rintro e w3 ⟨rfl,hb3⟩
     have hsz3:=hb3.size
     have hb4:Below w.heap.size w w3:=hb2.trans (hb3.mono hsz2)
     have hR3:=hR2.below hb3
     have d3:=hR3.c3
     have d4:=hR3.c4
     have l3:=hR3.lt
     clear hb1 hR1 hK2 hb2
     go_wp2_with fail
     go_quiet (fail)
     go_wp2_with fail
     go_ret3
     exact ⟨rb,_,rfl,hrb,rfl,below_drewN (hb4.alloc (by omega) _) _⟩
    ·have u1':(x.kind != 0)=false:=by simp [bne,u1]
     rw [u1] at hp
     simp only [cond_true] at hp
     by_cases u2:(12:Int)<st.deepest
     ·rw [decide_eq_true (show 12<st.deepest by omega)] at hp
      simp only [Bool.true_or,cond_true,Option.some.injEq] at hp
      subst hp
      go_enter Tryz.func36,Tryz.ntmps36
      go_wp2_with fail
      refine (NR.out).mono ?_
      rintro e w1 ⟨rb,g,cap,rfl,hrb,hR1,hb1⟩
      go_wp2_with fail
      refine ((all_said rb g cap ws HWS.out f f (Nat.le_refl _)).1 _ _ _ st hR1 HPP.out).mono ?_
      rintro e w2 ⟨v2,rfl,hE2,hR2,hK2⟩
      have hb2:=below_keep hb1 hK2 hrb hb1.size
      have hsz2:=hb2.size
      obtain ⟨⟨b5,hb5⟩,hE6⟩:=hE2
      rw [hb5]
      rw [hb5] at hE6
      clear hb5
      go_wp2_with fail
      refine (WX.out _ _ _ _ hR2).mono ?_
      rintro e w3 ⟨rfl,hb3⟩
      have hsz3:=hb3.size
      have hb4:Below w.heap.size w w3:=hb2.trans (hb3.mono hsz2)
      have hR3:=hR2.below hb3
      have d3:=hR3.c3
      have d4:=hR3.c4
      have l3:=hR3.lt
      clear hb1 hR1 hK2 hb2
      go_wp2_with fail
      go_ret3
      exact ⟨rb,_,rfl,hrb,rfl,hb4.alloc (by omega) _⟩
     ·rw [decide_eq_false (show ¬12<st.deepest by omega)] at hp
      by_cases u3:(40:Int)<st.nodes
      ·rw [decide_eq_true (show 40<st.nodes by omega)] at hp
       simp only [Bool.or_true,cond_true,Option.some.injEq] at hp
       subst hp
       go_enter Tryz.func36,Tryz.ntmps36
       go_wp2_with fail
       refine (NR.out).mono ?_
       rintro e w1 ⟨rb,g,cap,rfl,hrb,hR1,hb1⟩
       go_wp2_with fail
       refine ((all_said rb g cap ws HWS.out f f (Nat.le_refl _)).1 _ _ _ st hR1 HPP.out).mono ?_
       rintro e w2 ⟨v2,rfl,hE2,hR2,hK2⟩
       have hb2:=below_keep hb1 hK2 hrb hb1.size
       have hsz2:=hb2.size
       obtain ⟨⟨b5,hb5⟩,hE6⟩:=hE2
       rw [hb5]
       rw [hb5] at hE6
       clear hb5
       go_wp2_with fail
       refine (WX.out _ _ _ _ hR2).mono ?_
       rintro e w3 ⟨rfl,hb3⟩
       have hsz3:=hb3.size
       have hb4:Below w.heap.size w w3:=hb2.trans (hb3.mono hsz2)
       have hR3:=hR2.below hb3
       have d3:=hR3.c3
       have d4:=hR3.c4
       have l3:=hR3.lt
       clear hb1 hR1 hK2 hb2
       go_wp2_with fail
       go_ret3
       exact ⟨rb,_,rfl,hrb,rfl,hb4.alloc (by omega) _⟩
      ·rw [decide_eq_false (show ¬40<st.nodes by omega)] at hp
       simp only [Bool.or_false,cond_false,Option.some.injEq] at hp
       subst hp
       go_enter Tryz.func36,Tryz.ntmps36
       go_wp2_with fail
       refine (NR.out).mono ?_
       rintro e w1 ⟨rb,g,cap,rfl,hrb,hR1,hb1⟩
       go_wp2_with fail
       refine ((all_said rb g cap ws HWS.out f f (Nat.le_refl _)).1 _ _ _ st hR1 HPP.out).mono ?_
       rintro e w2 ⟨v2,rfl,hE2,hR2,hK2⟩
       have hb2:=below_keep hb1 hK2 hrb hb1.size
       have hsz2:=hb2.size
       obtain ⟨⟨b5,hb5⟩,hE6⟩:=hE2
       rw [hb5]
       rw [hb5] at hE6
       clear hb5
       go_wp2_with fail
       refine (WX.out _ _ _ _ hR2).mono ?_
       rintro e w3 ⟨rfl,hb3⟩
       have hsz3:=hb3.size
       have hb4:Below w.heap.size w w3:=hb2.trans (hb3.mono hsz2)
       have hR3:=hR2.below hb3
       have d3:=hR3.c3
       have d4:=hR3.c4
       have l3:=hR3.lt
       clear hb1 hR1 hK2 hb2
       go_wp2_with fail
       go_ret3
       exact ⟨rb,_,rfl,hrb,⟨⟨b5,rfl⟩,Enc.keep ((Keep.of_below hb3).alloc _) hE6⟩,hb4.alloc (by omega) _⟩
open Go.RowKit
def ExprAt (B:Nat)(w:World)(x:Option Rd.Tr)(v:Value):Prop:=
 match x with
 | none=>v=.pointer none
 | some t=>∃ rb xb rv,v=.pointer (some ⟨xb,0,none⟩)/\B<=rb/\B<=xb/\w.heap[xb]?=some (.cells #[rv] 74 (0,0))/\EncO rb w (some t) rv
def ExprPost (w:World)(x:Option Rd.Tr×Int×Int)(e:Ending)(w':World):Prop:=
 ∃ v,e=.returned (.tuple #[v,.int .i64 x.2.1,.int .i64 x.2.2])/\ExprAt w.heap.size w' x.1 v/\Below w.heap.size w w'
theorem read_ok {f:Nat}{s:ByteArray}{x:Option Rd.Tr×Int×Int}(h:Rd.read f s=some x):(x.1=none/\(x.2.1 != 0)=true)\/(∃ t,x=(some t,0,0)):=by
 unfold Rd.read at h
 cases h1:decide (120<s.size) with
 | true=>
  rw [h1] at h
  simp only [cond_true,Option.some.injEq] at h
  subst h
  exact Or.inl ⟨rfl,rfl⟩
 | false=>
  rw [h1] at h
  simp only [cond_false] at h
  split at h
  ·cases h
  ·simp only [Option.some.injEq] at h
   subst h
   exact Or.inl ⟨rfl,rfl⟩
  ·rename_i t st _
   generalize ((Rd.wordAt (Rd.split s (s.size+1) 0) st.next).kind==0)=b at h
   generalize (decide (12<st.deepest)||decide (40<st.nodes))=c at h
   cases b
   ·simp only [cond_false,Option.some.injEq] at h
    subst h
    exact Or.inl ⟨rfl,rfl⟩
   ·cases c
    ·simp only [cond_true,cond_false,Option.some.injEq] at h
     exact Or.inr ⟨t,h.symm⟩
    ·simp only [cond_true,Option.some.injEq] at h
     subst h
     exact Or.inl ⟨rfl,rfl⟩
theorem exprRead_any (f:Nat)(s:ByteArray)(w:World)(x:Option Rd.Tr×Int×Int)(hm:s.size<=maxLen)(hp:Rd.read f s=some x):Calls Tryz.prog 19 #[.string s] w (ExprPost w x):=by
 have TR:=hideq (treeRead_any f s w x hm hp)
 rcases read_ok hp with ⟨h1,h2⟩ | ⟨t,rfl⟩
 ·obtain ⟨t,er,pl⟩:=x
  simp only at h1 h2
  subst h1
  clear hp hm
  go_enter Tryz.func19,Tryz.ntmps19
  go_wp2_with fail
  refine (TR.out).mono ?_
  rintro e w1 ⟨rb,v,rfl,hrb,hE,hb⟩
  go_wp2_with fail
  go_ret3
  exact ⟨_,rfl,rfl,hb⟩
 ·clear hp hm
  go_enter Tryz.func19,Tryz.ntmps19
  go_wp2_with fail
  refine (TR.out).mono ?_
  rintro e w1 ⟨rb,v,rfl,hrb,hE,hb⟩
  obtain ⟨⟨b,hv⟩,hE2⟩:=hE
  rw [hv]
  rw [hv] at hE2
  clear hv
  have hsz:=hb.size
  go_wp2_with fail
  go_ret3
  exact ⟨_,rfl,⟨rb,w1.heap.size,_,rfl,hrb,hsz,cells_new _ _,⟨b,rfl⟩,Enc.keep ((Keep.refl _ _).alloc _) hE2⟩,hb.alloc hsz _⟩
open Go.RowKit
theorem own_slP {w:World}{B e size n:Nat}{v:Value}{xs:List Value}(h:w.ownsRow B e size v n xs):∃ ao ln cp,v=.slice ao ln cp:=by
 rcases h.2 with ⟨rfl,_⟩ | ⟨g,cap,cur,rfl,_⟩
 ·exact ⟨_,_,_,rfl⟩
 ·exact ⟨_,_,_,rfl⟩
theorem cellP_lt {w:World}{a:Addr}{v:Value}(h:w.cell? a=some v):a.block<w.heap.size:=by
 unfold World.cell? at h
 split at h
 ·rename_i e
  exact heap_lt e
 ·cases h
theorem take_next {ts:List Int}{c:Nat}(h:c<ts.length):ts.take (c+1)=ts.take c++[ts[c]]:=(List.take_append_getElem h).symm
def cstRel (w:World)(ts:List Int)(l i:Value)(wr:World):Prop:=
 ∃ c:Nat,c<=ts.length/\i=.int .i64 c/\wr.ownsRow w.heap.size 3 1 l c ((ts.take c).map (Value.int .i64))/\Below w.heap.size w wr
theorem constant_walk (w:World)(b:Nat)(kd x:Int)(ts:List Int)(ao:Option Addr)(cap:Nat)(lv rv:Value)(hn:ts.length<=1000)(hb:w.heap[b]?=some (.cells #[.int .i64 kd,.int .i64 x,.slice ao ts.length cap,lv,rv] 163 (0,0)))(hc:∀ k,(h:k<ts.length)->∃ tb,ao=some ⟨tb,0,none⟩/\w.cell? ⟨tb,k,none⟩=some (.int .i64 ts[k])):
  Calls Tryz.prog 103 #[.pointer (some ⟨b,0,none⟩)] w fun e w'=>∃ l,∃ m,e=.returned (.pointer (some ⟨m,0,none⟩))/\w'.ownsRow w.heap.size 3 1 l ts.length (ts.map (Value.int .i64))/\w'.heap[m]?=some (.cells #[.int .i64 kd,.bool false,.slice none 0 0,.bool false,.slice none 0 0,l,.pointer none,.pointer none] 93 (0,0))/\Below w.heap.size w w':=by
 obtain ⟨i,hi,hz,hsize,hby⟩:=info_parts infoInt
 have k0:w.cell? ⟨b,0,none⟩=some (.int .i64 kd):=cell_of_block hb rfl
 have k2:w.cell? ⟨b,2,none⟩=some (.slice ao ts.length cap):=cell_of_block hb rfl
 have hbl:=heap_lt hb
 clear hb
 go_enter Tryz.func103,Tryz.ntmps103
 go_wp2_with fail
 go_loopw [3,4] (fun l i wr=>cstRel w ts l i wr) (fun _ i _=>ts.length-(intOf i).toNat)
 case atStart=>
  refine ⟨0,Nat.zero_le _,rfl,⟨rfl,Or.inr ⟨w.heap.size,0,#[],rfl,Nat.le_refl _,cells_new _ _,Nat.le_refl _,by decide,rfl,rfl⟩⟩,(Below.refl _ _).alloc (Nat.le_refl _) _⟩
 case round=>
  obtain ⟨c,hc1,rfl,hown,hbel⟩:=hrel
  have hbs:=hbel.size
  have d0:=(hbel.cell (cellP_lt k0)).trans k0
  have d2:=(hbel.cell (cellP_lt k2)).trans k2
  by_cases hlt:c<ts.length
  ·obtain ⟨tb,rfl,ht⟩:=hc c hlt
   have dt:=(hbel.cell (cellP_lt ht)).trans ht
   have TK:=hid (take_next hlt)
   obtain ⟨ao3,ln3,cp3,rfl⟩:=own_slP hown
   have hci:(c:Int)<ts.length:=by omega
   clear ht hc
   generalize ts[c]=x at*
   go_wp2_with (at_builtin;(refine wpList_append_own _ rfl _ _ 91 rfl w.heap.size 3 i (.int .i64 0) 1 8 Tryz.underlying91 hi hz hsize hby rfl (by decide) _ _ _ rfl (hown.alloc _) ⟨wr.heap.size,0,none⟩ 1 1 [.int .i64 x] rfl rfl (cell_one_new _ _ _) (fun u hu=>by simp at hu;subst hu;rfl) (by unfold maxLen;omega) (by omega) (by simp;omega) ?_;intro v' w6 hown6 hgrow6 hnil6;have B6:=hid (below_own hown hbel hbel.size _ hgrow6);have O6:=hid hown6;clear hnil6 hgrow6 hown6))
   go_roundw
   case rel=>
    refine ⟨c+1,by omega,by go_num,?_,B6.out⟩
    rw [TK.out,List.map_append]
    exact O6.out
   case measure=>simp [intOf];omega
  ·have hc2:c=ts.length:=by omega
   have hci:¬(c:Int)<ts.length:=by omega
   have O6:=hid hown
   obtain ⟨ao3,ln3,cp3,rfl⟩:=own_slP hown
   clear hown
   go_wp2_with fail
   go_ret
   refine ⟨_,_,rfl,?_,cells_new _ _,hbel.alloc hbs _⟩
   have:=(O6.out).alloc (.cells #[.int .i64 kd,.bool false,.slice none 0 0,.bool false,.slice none 0 0,.slice ao3 ln3 cp3,.pointer none,.pointer none] 93 (0,0))
   rw [hc2,List.take_length] at this
   exact this
open Go.RowKit
namespace Ab
open Rf (Nd Inv NInv Wt)
def sT (kd x:Int)(tv lv rv:Value)(tm:List AT):AS:=⟨tm,[(0,ext [.int .i64 kd,.sint .i64 x,.lit tv,.lit lv,.lit rv] 163)],1,[],[]⟩
def sU (tm:List AT):AS:=⟨tm,[],0,[],[]⟩
def stT (ks:List (K (List AT))):Bool:=atOp (fun o=>opCalls 66 o||opCalls 103 o||opCalls 104 o||opCalls 105 o||opCalls 106 o) ks
abbrev ofT:List AT:=P0::List.replicate 78 .und
noncomputable def tRun (kt:List Nat)(ks:List (K (List AT)))(s:AS):Option XT:=(run Z (tabSp tP) bP (drawA Z (tabSp tP)) stT 400 ks s).bind (outX (nrm [0] [] 1 []) (nrm [0] kt 1 []))
noncomputable def tK':List (K (List AT)):=[.code (bodyOf Tryz.f66),.top Tryz.f66]
noncomputable def tTail (ks:List (K (List AT)))(s:AS):Option Tr:=run Z (tabSp tP) bP (drawA Z (tabSp tP)) (fun _=>false) 50 ks s
abbrev tuT (v:Value)(e:Int):AT:=tupE (.lit v) e
noncomputable def o1 (x:Int)(tv lv rv:Value):Option Tr:=run Z (tabSp tP) bP (drawA Z (tabSp tP)) (fun _=>false) 400 tK' (sT 1 x tv lv rv ofT)
noncomputable def o1S (x:Int)(tv lv rv:Value):AS:=(((o1 x tv lv rv).bind (leafT [])).map (·.2)).getD ⟨[],[],0,[],[]⟩
section
variable (x kd e:Int) (tv lv rv v v1 v2:Value)
theorem u_1:o1 x tv lv rv=some (.need [x.natAbs<1000000000000000000] (.ret (tupE (.ptr 2 0) 0) (o1S x tv lv rv))):=by kernel_rfl
theorem u_1p:IsPt (o1S x tv lv rv) 2 1 [x,1] (.lit nilP) (.lit nilP):=⟨by kernel_rfl,by kernel_rfl⟩
theorem u_1c:clean (o1S x tv lv rv)=true:=by kernel_rfl
theorem u_C {kd:Int}(h:kd=2\/kd=3\/kd=4):tRun [25] tK' (sT kd x tv lv rv ofT)=some (.stp (bef (pD 26) Tryz.f66) (sT kd x tv lv rv (slot [(25,P0)] 0 79))):=by
 rcases h with rfl | rfl | rfl<;>kernel_rfl
theorem u_L {kd:Int}(h:kd=5\/kd=6\/kd=7\/kd=8\/kd=9\/kd=10\/kd=11\/kd=12\/kd=13):tRun [0,31] tK' (sT kd x tv lv rv ofT)=some (.stp (bef (pD 32) Tryz.f66) (sT kd x tv lv rv (slot [(0,P0),(31,litT lv)] 0 79))):=by
 rcases h with rfl | rfl | rfl | rfl | rfl | rfl | rfl | rfl | rfl<;>kernel_rfl
theorem u_L5:(tTail (aft (pD 32) Tryz.f66) (sU (slot [(32,tuT nilP 5)] 0 79))).bind retL=some (tuT nilP 5,true):=by kernel_rfl
theorem u_M:tRun [44] (aft (pD 32) Tryz.f66) (sT 5 x tv lv rv (slot [(0,P0),(32,tuT v1 0)] 0 79))=some (.stp (bef (pD 45) Tryz.f66) (sT 5 x tv lv rv (slot [(44,litT v1)] 0 79))):=by kernel_rfl
theorem u_F {kd:Int}(h:kd=10\/kd=11\/kd=12\/kd=13):tRun [54,55] (aft (pD 32) Tryz.f66) (sT kd x tv lv rv (slot [(0,P0),(32,tuT v1 0)] 0 79))=some (.stp (bef (pD 56) Tryz.f66) (sT kd x tv lv rv (slot [(54,.val (.one (.int .i64 kd))),(55,litT v1)] 0 79))):=by
 rcases h with rfl | rfl | rfl | rfl<;>kernel_rfl
theorem u_B (kk:Rf.Kind):tRun [0,4,63] (aft (pD 32) Tryz.f66) (sT (kdK kk) x tv lv rv (slot [(0,P0),(32,tuT v1 0)] 0 79))=some (.stp (bef (pD 64) Tryz.f66) (sT (kdK kk) x tv lv rv (slot [(0,P0),(4,litT v1),(63,litT rv)] 0 79))):=by
 cases kk<;>kernel_rfl
theorem u_B5:(tTail (aft (pD 64) Tryz.f66) (sU (slot [(64,tuT nilP 5)] 0 79))).bind retL=some (tuT nilP 5,true):=by kernel_rfl
theorem u_B2 (kk:Rf.Kind):tRun [73,74,75] (aft (pD 64) Tryz.f66) (sT (kdK kk) x tv lv rv (slot [(0,P0),(4,litT v1),(64,tuT v2 0)] 0 79))=some (.stp (bef (pD 76) Tryz.f66) (sT (kdK kk) x tv lv rv (slot [(73,.val (.one (.int .i64 (kdK kk)))),(74,litT v1),(75,litT v2)] 0 79))):=by
 cases kk<;>kernel_rfl
theorem y_C:(tTail (aft (pD 26) Tryz.f66) (sU (slot [(26,litT v)] 0 79))).bind retL=some (tuT v 0,true):=by kernel_rfl
theorem y_M:(tTail (aft (pD 45) Tryz.f66) (sU (slot [(45,litT v)] 0 79))).bind retL=some (tuT v 0,true):=by kernel_rfl
theorem y_F:(tTail (aft (pD 56) Tryz.f66) (sU (slot [(56,tuT v e)] 0 79))).bind retL=some (tuT v e,true):=by kernel_rfl
theorem y_B:(tTail (aft (pD 76) Tryz.f66) (sU (slot [(76,tuT v e)] 0 79))).bind retL=some (tuT v e,true):=by kernel_rfl
theorem z_C:callAt Z (sT kd x tv lv rv (slot [(25,P0)] 0 79)) (bef (pD 26) Tryz.f66)=some (103,[.one (.ptr 0 0)],some 26,aft (pD 26) Tryz.f66):=by kernel_rfl
theorem z_L:callAt Z (sT kd x tv lv rv (slot [(0,P0),(31,litT lv)] 0 79)) (bef (pD 32) Tryz.f66)=some (66,[.one (.lit lv)],some 32,aft (pD 32) Tryz.f66):=by kernel_rfl
theorem z_M:callAt Z (sT kd x tv lv rv (slot [(44,litT v1)] 0 79)) (bef (pD 45) Tryz.f66)=some (104,[.one (.lit v1)],some 45,aft (pD 45) Tryz.f66):=by kernel_rfl
theorem z_F:callAt Z (sT kd x tv lv rv (slot [(54,.val (.one (.int .i64 kd))),(55,litT v1)] 0 79)) (bef (pD 56) Tryz.f66)=some (105,[.one (.int .i64 kd),.one (.lit v1)],some 56,aft (pD 56) Tryz.f66):=by kernel_rfl
theorem z_B:callAt Z (sT kd x tv lv rv (slot [(0,P0),(4,litT v1),(63,litT rv)] 0 79)) (bef (pD 64) Tryz.f66)=some (66,[.one (.lit rv)],some 64,aft (pD 64) Tryz.f66):=by kernel_rfl
theorem z_B2:callAt Z (sT kd x tv lv rv (slot [(73,.val (.one (.int .i64 kd))),(74,litT v1),(75,litT v2)] 0 79)) (bef (pD 76) Tryz.f66)=some (106,[.one (.int .i64 kd),.one (.lit v1),.one (.lit v2)],some 76,aft (pD 76) Tryz.f66):=by kernel_rfl
theorem fr_of:noFr (bef (pD 26) Tryz.f66)=true/\noFr (bef (pD 32) Tryz.f66)=true/\noFr (bef (pD 45) Tryz.f66)=true/\noFr (bef (pD 56) Tryz.f66)=true/\noFr (bef (pD 64) Tryz.f66)=true/\noFr (bef (pD 76) Tryz.f66)=true:=⟨by kernel_rfl,by kernel_rfl,by kernel_rfl,by kernel_rfl,by kernel_rfl,by kernel_rfl⟩
end
end Ab
namespace Rd
open Go.Deep (BT)
def rankK (k:Int):Int:=bif k==6||k==7 then 1 else bif k==8||k==9 then 2 else bif k==5 then 3 else 4
def sym (k:Int):List UInt8:=
 bif k==2 then [112,105] else bif k==3 then [101] else bif k==4 then [99,102] else bif k==10 then [115,113,114,116]
 else bif k==11 then [101,120,112] else bif k==12 then [108,110,49,112] else bif k==13 then [97,116,97,110]
 else bif k==6 then [43] else bif k==5||k==7 then [45] else bif k==8 then [42] else bif k==9 then [47] else []
def brk (b:Bool)(x:List UInt8):List UInt8:=bif b then 40::(x++[41]) else x
def kindT:Tr->Int
 | .nil=>0
 | .node _ _ a _ _=>a.1
def dec (v:Int):List UInt8:=Lib.decDigits v.toNat
def sep (k:Nat):List UInt8:=bif k==0 then [] else bif k==1 then [59,32] else [44,32]
def termsTo (ts:List Int):Nat->List UInt8
 | 0=>[99,102,91]
 | k+1=>termsTo ts k++(sep k++dec (ts.getD k 0))
def termsTxt (ts:List Int):List UInt8:=termsTo ts ts.length++[93]
def txtOf (a:Int×Int×List Int)(kl kr:Int)(x y:List UInt8):List UInt8:=
 bif a.1==1 then dec a.2.1
 else bif a.1==4 then termsTxt a.2.2
 else bif a.1==5 then 45::brk (decide (rankK kl<3)) x
 else bif decide (10<=a.1/\a.1<=13) then sym a.1++40::(x++[41])
 else bif decide (6<=a.1/\a.1<=9) then brk (decide (rankK kl<rankK a.1)) x++32::(sym a.1++32::brk (decide (rankK kr<rankK a.1+1)) y)
 else sym a.1
def text:Tr->List UInt8
 | .nil=>[]
 | .node _ _ a l r=>txtOf a (kindT l) (kindT r) (text l) (text r)
def numOk (v:Int):Prop:=0<=v/\v<1000000000
def Wf:Tr->Prop
 | .nil=>False
 | .node _ _ a l r=>
  (a.1=1/\numOk a.2.1/\a.2.2=[]/\l=.nil/\r=.nil)\/
  ((a.1=2\/a.1=3)/\a.2.1=0/\a.2.2=[]/\l=.nil/\r=.nil)\/
  (a.1=4/\(∀ x∈a.2.2,numOk x)/\2<=a.2.2.length/\a.2.2.length<=9/\a.2.1=0/\l=.nil/\r=.nil)\/
  ((a.1=5\/a.1=10\/a.1=11\/a.1=12\/a.1=13)/\Wf l/\a.2.2=[]/\r=.nil)\/
  ((a.1=6\/a.1=7\/a.1=8\/a.1=9)/\Wf l/\Wf r/\a.2.2=[])
def cnt:Tr->Nat
 | .nil=>0
 | .node _ _ _ l r=>cnt l+cnt r+1
theorem dec_len {v:Int}(h:numOk v):(dec v).length<=9:=by
 unfold dec
 rw [Lib.decDigits_length]
 have h1:v.toNat<1000000000:=by have:=h.2;omega
 generalize v.toNat=u at h1
 have key:∀ k u,u<10^(k+1)->Lib.nDigits u<=k+1:=by
  intro k
  induction k with
  | zero=>intro u h;rw [Lib.nDigits_small (by simpa using h)];omega
  | succ k ih=>
   intro u h
   by_cases h2:u<10
   ·rw [Lib.nDigits_small h2];omega
   ·rw [Lib.nDigits_big h2]
    have:=ih (u/10) (by rw [Nat.pow_succ] at h ⊢;rw [Nat.pow_succ] at h;omega)
    omega
 exact key 8 u h1
theorem sep_len (k:Nat):(sep k).length<=2:=by
 unfold sep
 cases k==0<;>cases k==1<;>simp
theorem sym_len (k:Int):(sym k).length<=4:=by
 unfold sym
 cases k==2<;>cases k==3<;>cases k==4<;>cases k==10<;>cases k==11<;>cases k==12<;>cases k==13<;>(try (simp;done))<;>cases k==6<;>(try (simp;done))<;>cases k==5<;>cases k==7<;>cases k==8<;>cases k==9<;>simp
theorem getD_ok {ts:List Int}(h:∀ x∈ts,numOk x)(k:Nat):numOk (ts.getD k 0):=by
 unfold List.getD
 cases e:ts[k]? with
 | none=>exact ⟨by decide,by decide⟩
 | some x=>exact h x (List.mem_of_getElem? e)
theorem termsTo_len {ts:List Int}(h:∀ x∈ts,numOk x):∀ k,(termsTo ts k).length<=3+11*k:=by
 intro k
 induction k with
 | zero=>simp [termsTo]
 | succ k ih=>
  have:=dec_len (getD_ok h k)
  have:=sep_len k
  simp only [termsTo,List.length_append]
  omega
theorem brk_len (b:Bool)(x:List UInt8):(brk b x).length<=x.length+2:=by
 cases b<;>simp [brk]
theorem text_len:∀ t,Wf t->(text t).length<=200*cnt t:=by
 intro t
 induction t with
 | nil=>intro h;exact h.elim
 | node p q a l r ihl ihr=>
  intro h
  obtain ⟨k,v,ts⟩:=a
  simp only [text,cnt]
  rcases h with ⟨h1,h2,_⟩ | ⟨h1,_⟩ | ⟨h1,h2,_,h3,_⟩ | ⟨h1,h2,_,h3⟩ | ⟨h1,h2,h3,_⟩
  ·simp only at h1 h2
   subst h1
   have:=dec_len h2
   simp only [txtOf,beq_self_eq_true,cond_true]
   omega
  ·simp only at h1
   have:=sym_len k
   rcases h1 with rfl | rfl
   ·simp only [txtOf,sym];simp;omega
   ·simp only [txtOf,sym];simp;omega
  ·simp only at h1 h2 h3
   subst h1
   have:=termsTo_len h2 ts.length
   simp only [txtOf,termsTxt]
   simp
   omega
  ·simp only at h1
   have i1:=ihl h2
   have s:=sym_len k
   have b1:=brk_len (decide (rankK (kindT l)<3)) (text l)
   rcases h1 with rfl | rfl | rfl | rfl | rfl<;>(simp only [txtOf];simp;try omega)
  ·simp only at h1
   have i1:=ihl h2
   have i2:=ihr h3
   have s:=sym_len k
   have b1:=brk_len (decide (rankK (kindT l)<rankK k)) (text l)
   have b2:=brk_len (decide (rankK (kindT r)<rankK k+1)) (text r)
   rcases h1 with rfl | rfl | rfl | rfl<;>(simp only [txtOf];simp at b1 b2 ⊢;omega)
end Rd
open Go.RowKit
theorem rb_mono {n m:Nat}{z:Int}(h:Bits n z)(hl:n<=m):Bits m z:=bits_mono h hl
theorem rb_neg {n:Nat}{z:Int}(h:Bits n z):Bits n (-z):=bits_neg h
theorem rb_mul {n m:Nat}{x y:Int}(h:Bits n x)(h2:Bits m y):Bits (n+m) (x*y):=bits_mul h h2
theorem rb_add {n:Nat}{x y:Int}(h:Bits n x)(h2:Bits n y):Bits (n+1) (x+y):=bits_add h h2
namespace Ab
open Rf (Nd Inv NInv Wt)
def opKd (k:Int):Rf.Op:=if k=2 then .pi else if k=3 then .e else if k=4 then .cf else if k=10 then .sqrt else if k=11 then .exp else if k=12 then .ln1p else .atan
def kkKd (k:Int):Rf.Kind:=if k=6 then .add else if k=7 then .sub else if k=8 then .mul else .div
def planT:Rd.Tr->Option Wt
 | .nil=>none
 | .node _ _ a l r=>
  if a.1=1 then some (.fr a.2.1 1)
  else if a.1<=4 then some (.con (opKd a.1) a.2.2)
  else if a.1=5 then (planT l).map negW
  else if a.1<=9 then (planT l).bind fun u=>(planT r).bind fun v=>opW (kkKd a.1) u v
  else (planT l).bind fun u=>fnW (opKd a.1) u
def OkB (n:Nat)(u:Wt):Prop:=u.Ok/\∀ p q,u=.fr p q->0<q/\RB n p/\RB n q
theorem rb_num {v:Int}(h:Rd.numOk v):RB 30 v:=by
 have h1:=h.1
 have h2:=h.2
 show v.natAbs<2^30
 have:(2:Nat)^30=1073741824:=by decide
 omega
theorem rb_up {n m:Nat}{z:Int}(h:RB n z)(hl:n<=m):RB m z:=rb_mono h hl
theorem okb_fr {n:Nat}{p q:Int}(hq:0<q)(h1:RB n p)(h2:RB n q)(hn:n<=6100):OkB n (.fr p q):=by
 refine ⟨⟨hq,rb_up h1 hn,rb_up h2 hn⟩,?_⟩
 intro p' q' e
 cases e
 exact ⟨hq,h1,h2⟩
theorem okb_no {n:Nat}{u:Wt}(h:u.Ok)(hn:∀ p q,u≠.fr p q):OkB n u:=⟨h,fun p q e=>absurd e (hn p q)⟩
theorem okb_neg {n m:Nat}{u:Wt}(h:OkB n u)(hl:n<=m)(hm:m<=6100):OkB m (negW u):=by
 cases u with
 | fr p q=>
  obtain ⟨h1,h2,h3⟩:=h.2 p q rfl
  exact okb_fr h1 (rb_up (rb_neg h2) hl) (rb_up h3 hl) hm
 | con op ts=>exact okb_no (show (Wt.con op ts).Ok from h.1) (fun _ _ e=>by cases e)
 | neg t=>exact okb_no (show (Wt.neg t).Ok from h.1) (fun _ _ e=>by cases e)
 | two k a b=>exact okb_no (show (Wt.two k a b).Ok from h.1) (fun _ _ e=>by cases e)
 | fn op t=>exact okb_no (show (Wt.fn op t).Ok from h.1) (fun _ _ e=>by cases e)
theorem okb_fn {n m:Nat}{op:Rf.Op}(hop:Rf.fn op){u u2:Wt}(h:OkB n u)(hm:m<=6100)(h1m:1<=m)(he:fnW op u=some u2):OkB m u2:=by
 have key:∀ {t:Wt},t.Ok->(∀ p q,t=.fr p q->0<p)->OkB m (.fn op t):=fun ht hp=>okb_no ⟨hop,ht,hp⟩ (fun _ _ e=>by cases e)
 cases u with
 | fr p q=>
  simp only [fnW] at he
  split at he
  ·cases he
  ·split at he
   ·cases he
    refine okb_fr (by decide) ?_ (Rf.bits1 h1m) hm
    split
    ·exact Rf.bits1 h1m
    ·exact Rf.bits0
   ·cases he
    refine key h.1 ?_
    intro p' q' e
    cases e
    omega
 | con op ts=>cases he;exact key h.1 (fun _ _ e=>by cases e)
 | neg t=>cases he;exact key h.1 (fun _ _ e=>by cases e)
 | two k a b=>cases he;exact key h.1 (fun _ _ e=>by cases e)
 | fn op t=>cases he;exact key h.1 (fun _ _ e=>by cases e)
theorem wo_bits {n m:Nat}{kk:Rf.Kind}{p q a b:Int}(h1:RB n p)(h2:RB n q)(h3:RB m a)(h4:RB m b):RB (n+m+1) (woN (kdK kk) p q a b)/\RB (n+m+1) (woD (kdK kk) p q a b):=by
 have s:n+m<=n+m+1:=by omega
 have e:m+n=n+m:=by omega
 cases kk with
 | add=>exact ⟨rb_add (rb_mul h1 h4) (e ▸ rb_mul h3 h2),rb_up (rb_mul h2 h4) s⟩
 | sub=>exact ⟨rb_add (rb_mul h1 h4) (e ▸ rb_mul (rb_neg h3) h2),rb_up (rb_mul h2 h4) s⟩
 | mul=>exact ⟨rb_up (rb_mul h1 h3) s,rb_up (rb_mul h2 h4) s⟩
 | div=>exact ⟨rb_up (rb_mul h1 h4) s,rb_up (rb_mul h2 h3) s⟩
theorem okb_op {n m l:Nat}{kk:Rf.Kind}{u v x:Wt}(h:OkB n u)(h2:OkB m v)(hl:n+m+1<=l)(hm:l<=6100)(he:opW kk u v=some x):OkB l x:=by
 have key:∀ {t t2:Wt},t.Ok->t2.Ok->OkB l (.two kk t t2):=fun ht ht2=>okb_no ⟨ht,ht2⟩ (fun _ _ e=>by cases e)
 by_cases hv:∃ a b,v=.fr a b
 ·obtain ⟨a,b,rfl⟩:=hv
  obtain ⟨g1,g2,g3⟩:=h2.2 a b rfl
  by_cases hu:∃ p q,u=.fr p q
  ·obtain ⟨p,q,rfl⟩:=hu
   obtain ⟨f1,f2,f3⟩:=h.2 p q rfl
   simp only [opW] at he
   split at he
   ·cases he
   ·rename_i hna
    cases he
    have hne:=woD_ne (p:=p) f1 g1 hna
    obtain ⟨w1,w2⟩:=wo_bits (kk:=kk) f2 f3 g2 g3
    obtain ⟨l1,l2⟩:=low_abs (gcd_pos_of (t:=woN (kdK kk) p q a b) hne)
    refine okb_fr (lowB_pos hne) (rb_up (Nat.lt_of_le_of_lt l1 w1) hl) (rb_up (Nat.lt_of_le_of_lt l2 w2) hl) hm
  ·have:opW kk u (.fr a b)=if kk=.div/\a=0 then none else some (.two kk u (.fr a b)):=by
    cases u with
    | fr p q=>exact absurd ⟨p,q,rfl⟩ hu
    | _=>rfl
   rw [this] at he
   split at he
   ·cases he
   ·cases he
    exact key h.1 h2.1
 ·have:opW kk u v=some (.two kk u v):=by
   cases v with
   | fr p q=>exact absurd ⟨p,q,rfl⟩ hv
   | _=>cases u<;>rfl
  rw [this] at he
  cases he
  exact key h.1 h2.1
theorem plan_ok:∀ (t:Rd.Tr) (u:Wt),Rd.Wf t->32*Rd.cnt t<=6100->planT t=some u->OkB (32*Rd.cnt t) u:=by
 intro t
 induction t with
 | nil=>intro u h;exact h.elim
 | node n1 n2 a l r ihl ihr=>
  intro u h hc he
  have hcn:Rd.cnt (.node n1 n2 a l r)=Rd.cnt l+Rd.cnt r+1:=rfl
  rw [hcn] at hc ⊢
  rw [planT] at he
  rcases h with ⟨hk,hn,_,rfl,rfl⟩ | ⟨hk,_,_,rfl,rfl⟩ | ⟨hk,hts,h2,h9,_,rfl,rfl⟩ | ⟨hk,hwl,_,rfl⟩ | ⟨hk,hwl,hwr,_⟩
  ·rw [if_pos hk] at he
   cases he
   exact okb_fr (by decide) (rb_up (rb_num hn) (by omega)) (Rf.bits1 (by omega)) hc
  ·rw [if_neg (by omega),if_pos (by omega)] at he
   cases he
   refine okb_no ?_ (fun _ _ e=>by cases e)
   rcases hk with hk | hk<;>rw [hk]
   ·exact Or.inl rfl
   ·exact Or.inr (Or.inl rfl)
  ·rw [if_neg (by omega),if_pos (by omega)] at he
   cases he
   refine okb_no ?_ (fun _ _ e=>by cases e)
   rw [hk]
   exact Or.inr (Or.inr ⟨rfl,h2,fun x hx=>rb_up (rb_num (hts x hx)) (by decide)⟩)
  ·rw [if_neg (by omega),if_neg (by omega)] at he
   rcases hk with hk | hk
   ·rw [if_pos hk] at he
    obtain ⟨v,hv,rfl⟩:=Option.map_eq_some_iff.1 he
    exact okb_neg (ihl v hwl (by omega) hv) (by omega) hc
   ·rw [if_neg (by omega),if_neg (by omega)] at he
    obtain ⟨v,hv,he2⟩:=Option.bind_eq_some_iff.1 he
    refine okb_fn ?_ (ihl v hwl (by omega) hv) hc (by omega) he2
    rcases hk with hk | hk | hk | hk<;>rw [hk]
    ·exact Or.inl rfl
    ·exact Or.inr (Or.inl rfl)
    ·exact Or.inr (Or.inr (Or.inl rfl))
    ·exact Or.inr (Or.inr (Or.inr rfl))
  ·rw [if_neg (by omega),if_neg (by omega),if_neg (by omega),if_pos (by omega)] at he
   obtain ⟨v,hv,he1⟩:=Option.bind_eq_some_iff.1 he
   obtain ⟨v2,hv2,he2⟩:=Option.bind_eq_some_iff.1 he1
   exact okb_op (ihl v hwl (by omega) hv) (ihr v2 hwr (by omega) hv2) (by omega) hc he2
end Ab
open Go.RowKit
namespace Ab
open Rf (Nd Inv NInv Wt)
theorem sT_rep {w:World}{k:Nat}{kd x:Int}{tv lv rv:Value}(h:w.heap[k]?=some (.cells #[.int .i64 kd,.int .i64 x,tv,lv,rv] 163 (0,0)))(o1:One tv)(o2:One lv)(o3:One rv)(tm:List AT):RepW Z w (ph1 0 k) (ph1 0 k) (sT kd x tv lv rv tm) w:=by
 refine rep_ext rfl ?_ ?_ ?_
 ·intro b B hB
  have:=look_mem hB
  simp only [sT,List.mem_singleton,Prod.mk.injEq] at this
  obtain ⟨rfl,rfl⟩:=this
  exact ⟨rfl,rfl,rfl,k,0,rfl,[],[.int .i64 kd,.int .i64 x,tv,lv,rv],[],h,rfl,rfl,rfl,⟨rfl,o1⟩,⟨rfl,o2⟩,⟨rfl,o3⟩,trivial⟩
 ·intro b hb
  have:1<=b:=hb
  unfold ph1
  rw [if_neg (by omega)]
 ·intro b k' o hb'
  unfold ph1 at hb'
  split at hb'
  ·cases hb';exact lt_of_heap h
  ·cases hb'
theorem sU_tm {d:Nat}{r:AT}{ts:List AT}(h:ts.length=79)(hs:putT (List.replicate 79 .top) (some d) r=slot [(d,r)] 0 79):(sU (slot [(d,r)] 0 79)).tmps=putT (keepT [] [] 0 ts) (some d) r:=by
 rw [keep_none,h]
 exact hs.symm
theorem tup_rel {w:World}{φ:Nat->Option (Nat×Nat)}{ν:List (Int×Nat)}{v:Value}{e:Int}(o:One v):relT Z φ ν w (tuT v e) (.tuple #[v,.int .i64 e]):=⟨[v,.int .i64 e],rfl,⟨rfl,o⟩,rfl,trivial⟩
theorem tailT {d:Nat}{r:AT}{v:Value}{e:Int}{ks:List (K (List AT))}(ht:(tTail ks (sU (slot [(d,r)] 0 79))).bind retL=some (tuT v e,true)){R:Ending->World->Prop}{w':World}(hR:∀ w2,Chg w' w2 []->R (.returned (.tuple #[v,.int .i64 e])) w2){kcs:List (K Act)}{a:Act}(hsr:∀ φ' ν' w'',SR Z φ' ν' w'' ks kcs)(hr:Rep Z w' (fun _=>none) (fun _=>none) (sU (slot [(d,r)] 0 79)) a w'):sem Z.P R kcs .normal a w':=by
 obtain ⟨tr,h1,h2⟩:=bnd ht
 match tr,h2 with
 | .ret r s,h2=>
  simp only [retL,Option.some.injEq,Prod.mk.injEq] at h2
  obtain ⟨rfl,hc⟩:=h2
  refine run_ok (tabSp_ok tP_ok) bP_ok (drawA_ok mixed (tabSp_ok tP_ok)) (fun r s=>r=tuT v e/\clean s=true) (fun _ _=>False) (fun _ _ h=>h.elim) ?_ _ _ _ _ h1 ⟨rfl,hc⟩ kcs _ a w' (hsr _ _ _) hr
  rintro r s φ x w2 ⟨rfl,hc⟩ hrel hw
  rw [tup_val hrel lit_val]
  exact hR w2 (Chg.of_below (RepF.below hw hc))
 | .br _ _ _,h2=>cases h2
 | .need _ _,h2=>cases h2
 | .stop _ _,h2=>cases h2
theorem lastT {d:Nat}{w0 w:World}{ψ φ:Nat->Option (Nat×Nat)}{s:AS}{a:Act}{ks ks2:List (K (List AT))}{kcs:List (K Act)}{f:FuncId}{vs:List AV}{R:Ending->World->Prop}(h:callAt Z s ks=some (f,vs,some d,ks2))(hen:Enters Z.P f)(hfr:noFr ks=true)(hsr:∀ φ' ν' w'',SR Z φ' ν' w'' ks kcs)(hr:Rep Z w0 ψ φ s a w)(hl:s.tmps.length=79)(hs:∀ r,putT (List.replicate 79 .top) (some d) r=slot [(d,r)] 0 79)
  (H:∀ xs:List Value,All2 (relV Z φ s.nums w) vs xs->Calls Z.P f xs.toArray w fun e w'=>∃ v x,∃ r:AT,∃ e':Int,e=.returned x/\relT Z (fun _=>none) [] w' r x/\(tTail ks2 (sU (slot [(d,r)] 0 79))).bind retL=some (tuT v e',true)/\∀ w2,Chg w' w2 []->R (.returned (.tuple #[v,.int .i64 e'])) w2):sem Z.P R kcs .normal a w:=by
 refine callAt_ok h hen hfr (hsr φ s.nums w) hr fun xs hxs=>(H xs hxs).mono ?_
 rintro e w' ⟨v,x,r,e',rfl,ho,ht,hR⟩
 refine ⟨x,rfl,fun kcs2 hf2 hsr2=>?_⟩
 exact tailT ht hR hsr2 (rep_aft (kb:=[]) (kt:=[]) hr rep_emp (sU_tm hl (hs r)) (fun b hb=>by simp at hb) ho)
theorem Told2.on {w w1 w2 w3:World}{x:Option Wt}{e:Ending}(h1:Chg w w1 [])(h:Told2 w1 x e w2)(h3:Chg w2 w3 []):Told2 w x e w3:=by
 cases x with
 | none=>exact ⟨(h1.trans h.1).trans h3,h.2⟩
 | some t=>
  obtain ⟨hc,v,he,hp⟩:=h
  exact ⟨(h1.trans hc).trans h3,v,he,PartAt.keep h3.on t v hp⟩
theorem TermsAt.one {rb:Nat}{w:World}{ts:List Int}{tv:Value}(h:TermsAt rb w ts tv):One tv:=by
 rcases h with ⟨_,rfl⟩ | ⟨tb,cap,cur,rfl,_⟩<;>rfl
theorem Enc.one {rb:Nat}{w:World}:∀ {t:Rd.Tr} {v:Value},Enc rb w t v->One v
 | .nil,_,h=>by rw [show _=Value.pointer none from h];rfl
 | .node _ _ _ _ _,_,⟨b,tv,lv,rv,h,_⟩=>by rw [h];rfl
theorem Told2.one {w w':World}{x:Option Wt}{e:Ending}(h:Told2 w x e w'):∃ v e',e=.returned (.tuple #[v,.int .i64 e'])/\One v/\((x=none/\v=nilP/\e'=5)\/(∃ t,x=some t/\e'=0/\PartAt w' t v)):=by
 cases x with
 | none=>exact ⟨nilP,5,h.2,rfl,Or.inl ⟨rfl,rfl,rfl⟩⟩
 | some t=>
  obtain ⟨hc,v,he,hp⟩:=h
  obtain ⟨k,rfl⟩:=PartAt.ptr t v hp
  exact ⟨ptrB k,0,he,rfl,Or.inr ⟨t,rfl,rfl,hp⟩⟩
section
variable {w:World} {b rb:Nat} {kd x:Int} {tv lv rv:Value} {R:Ending->World->Prop}
theorem ptr0_v {w0 w':World}{φ:Nat->Option (Nat×Nat)}{ν:List (Int×Nat)}{s:AS}{k:Nat}{u:Value}(hw:RepW Z w0 (ph1 0 k) φ s w')(h:relV Z φ ν w' (.one (.ptr 0 0)) u):u=ptrB k:=ptr_val (hw.base 0 (k,0) rfl) h
theorem of_1 (hn:x.natAbs<1000000000000000000)(hb:w.heap[b]?=some (.cells #[.int .i64 1,.int .i64 x,tv,lv,rv] 163 (0,0)))(o1:One tv)(o2:One lv)(o3:One rv):Calls Tryz.prog 66 #[ptrB b] w (Told2 w (some (.fr x 1))):=by
 refine ext_run (φ:=ph1 0 b) (s:=sT 1 x tv lv rv ofT) (vs:=[.one (.ptr 0 0)]) (args:=[ptrB b]) (fn_of Tryz.func66 rfl rfl) (tabSp_ok tP_ok) bP_ok (by kernel_rfl) ⟨⟨b,0,rfl,rfl⟩,trivial⟩ (sT_rep hb o1 o2 o3 _) (u_1 x tv lv rv) (fun r s=>r=tupE (.ptr 2 0) 0/\IsPt s 2 1 [x,1] (.lit nilP) (.lit nilP)/\clean s=true) ⟨holds1 hn,rfl,u_1p x tv lv rv,u_1c x tv lv rv⟩ ?_
 rintro r s φ v w' ⟨rfl,hI,hc⟩ hrel hw
 have hch:Chg w w' []:=Chg.of_below (RepF.below hw hc)
 obtain ⟨m,ys,j1,j2,j3⟩:=hI.at hw lit_val lit_val
 exact .yes (v:=ptrB m) rfl hch (by rw [tup_val hrel (ptr_v j1)]) (pt_fr j2 j3)
theorem of_C (hkd:kd=2\/kd=3\/kd=4)(hb:w.heap[b]?=some (.cells #[.int .i64 kd,.int .i64 x,tv,lv,rv] 163 (0,0)))(o1:One tv)(o2:One lv)(o3:One rv)(hcall:∀ w1,Chg w w1 []->Calls Tryz.prog 103 #[ptrB b] w1 fun e w2=>∃ v,e=.returned v/\One v/\∀ w3,Chg w2 w3 []->R (.returned (.tuple #[v,.int .i64 0])) w3):Calls Tryz.prog 66 #[ptrB b] w R:=by
 have F:=fn_of Tryz.func66 rfl rfl
 refine calls_x F (φ:=ph1 0 b) (vs:=[.one (.ptr 0 0)]) (args:=[ptrB b]) (s:=sT kd x tv lv rv ofT) (by kernel_rfl) ⟨⟨b,0,rfl,rfl⟩,trivial⟩ (sT_rep hb o1 o2 o3 _) ?_
 refine xrun' (tabSp_ok tP_ok) bP_ok ph1_kb (nrm_R ph1_kb) (u_C x tv lv rv hkd) (fun _ _=>False) (fun ks s=>ks=bef (pD 26) Tryz.f66/\s=sT kd x tv lv rv (slot [(25,P0)] 0 79)) ⟨rfl,rfl⟩ (fun _ _ _ _ _ h=>h.elim) ?_
 rintro ks s ⟨rfl,rfl⟩
 refine ⟨fr_of.1,fun kcs φ1 a1 w1 hsr1 hr1=>?_⟩
 have c1:Chg w w1 []:=Chg.of_below (RepF.below hr1.wd rfl)
 refine lastT (z_C x kd tv lv rv) (fn_of Tryz.func103 rfl rfl).en fr_of.1 hsr1 hr1 rfl (fun r=>by kernel_rfl) fun us hus=>?_
 match us,hus with
 | [u1],⟨hu1,_⟩=>
 rw [ptr0_v hr1.wd hu1]
 refine (hcall w1 c1).mono ?_
 rintro e w2 ⟨v,rfl,ho,hR⟩
 exact ⟨v,v,litT v,0,rfl,⟨rfl,ho⟩,y_C v,hR⟩
theorem of_L (hkd:kd=5\/kd=6\/kd=7\/kd=8\/kd=9\/kd=10\/kd=11\/kd=12\/kd=13)(hb:w.heap[b]?=some (.cells #[.int .i64 kd,.int .i64 x,tv,lv,rv] 163 (0,0)))(o1:One tv)(o2:One lv)(o3:One rv){xl:Option Wt}(hcall:∀ w1,Chg w w1 []->Calls Tryz.prog 66 #[lv] w1 (Told2 w1 xl))
  (hno:xl=none->∀ w3,Chg w w3 []->R (.returned (.tuple #[nilP,.int .i64 5])) w3)
  (hyes:∀ t v w2 kcs a,xl=some t->Chg w w2 []->PartAt w2 t v->One v->(∀ φ' ν' w'',SR Z φ' ν' w'' (aft (pD 32) Tryz.f66) kcs)->Rep Z w2 (ph1 0 b) (ph1 0 b) (sT kd x tv lv rv (slot [(0,P0),(32,tuT v 0)] 0 79)) a w2->sem Z.P R kcs .normal a w2):Calls Tryz.prog 66 #[ptrB b] w R:=by
 have F:=fn_of Tryz.func66 rfl rfl
 refine calls_x F (φ:=ph1 0 b) (vs:=[.one (.ptr 0 0)]) (args:=[ptrB b]) (s:=sT kd x tv lv rv ofT) (by kernel_rfl) ⟨⟨b,0,rfl,rfl⟩,trivial⟩ (sT_rep hb o1 o2 o3 _) ?_
 refine xrun' (tabSp_ok tP_ok) bP_ok ph1_kb (nrm_R ph1_kb) (u_L x tv lv rv hkd) (fun _ _=>False) (fun ks s=>ks=bef (pD 32) Tryz.f66/\s=sT kd x tv lv rv (slot [(0,P0),(31,litT lv)] 0 79)) ⟨rfl,rfl⟩ (fun _ _ _ _ _ h=>h.elim) ?_
 rintro ks s ⟨rfl,rfl⟩
 refine ⟨fr_of.2.1,fun kcs φ1 a1 w1 hsr1 hr1=>?_⟩
 have c1:Chg w w1 []:=Chg.of_below (RepF.below hr1.wd rfl)
 refine callAt_ok (z_L x kd tv lv rv) F.en fr_of.2.1 (hsr1 φ1 [] w1) hr1 fun us hus=>?_
 match us,hus with
 | [u1],⟨hu1,_⟩=>
 have hu1:u1=lv:=hu1.1
 rw [hu1]
 refine (hcall w1 c1).mono ?_
 rintro e w2 hT
 have c2:=hT.1
 obtain ⟨v,e',rfl,ho,h⟩:=hT.one
 refine ⟨_,rfl,fun kcs2 hf2 hsr2=>?_⟩
 rcases h with ⟨hx,rfl,rfl⟩ | ⟨t,hx,rfl,hp⟩
 ·exact tailT u_L5 (hR:=fun w3 hc3=>hno hx w3 ((c1.trans c2).trans hc3)) hsr2 (rep_aft (kb:=[]) (kt:=[]) hr1 rep_emp (sU_tm rfl (by kernel_rfl)) (fun b hb=>by simp at hb) (tup_rel ho))
 ·have c12:=c1.trans c2
  refine hyes t v w2 kcs2 _ hx c12 hp ho hsr2 ?_
  refine rep_aft (kb:=[0]) (kt:=[0]) (r:=tuT v 0) hr1 (sT_rep (c12.at hb (by simp)) o1 o2 o3 _) (by kernel_rfl) (fun b' hb'=>?_) (tup_rel ho)
  have:b'=0:=by simpa using hb'
  subst this
  exact (hr1.wd.base 0 (b,0) rfl).symm
theorem of_M (hb:w.heap[b]?=some (.cells #[.int .i64 5,.int .i64 x,tv,lv,rv] 163 (0,0)))(o1:One tv)(o2:One lv)(o3:One rv){xl:Option Wt}(hok:∀ t,xl=some t->t.Ok)(hcall:∀ w1,Chg w w1 []->Calls Tryz.prog 66 #[lv] w1 (Told2 w1 xl)):Calls Tryz.prog 66 #[ptrB b] w (Told2 w (xl.map negW)):=by
 refine of_L (Or.inl rfl) hb o1 o2 o3 hcall (fun e w3 hc=>.no (by rw [e];rfl) hc rfl) ?_
 intro t v w2 kcs a hx c12 hp ho hsr hr
 refine xrun' (tabSp_ok tP_ok) bP_ok ph1_kb (nrm_R ph1_kb) (u_M x tv lv rv v) (fun _ _=>False) (fun ks s=>ks=bef (pD 45) Tryz.f66/\s=sT 5 x tv lv rv (slot [(44,litT v)] 0 79)) ⟨rfl,rfl⟩ (fun _ _ _ _ _ h=>h.elim) ?_ kcs _ _ _ (hsr _ _ _) hr
 rintro ks s ⟨rfl,rfl⟩
 refine ⟨fr_of.2.2.1,fun kcs φ3 a3 w3 hsr3 hr3=>?_⟩
 have c3:Chg w2 w3 []:=Chg.of_below (RepF.below hr3.wd rfl)
 refine lastT (z_M x 5 tv lv rv v) (fn_of Tryz.func104 rfl rfl).en fr_of.2.2.1 hsr3 hr3 rfl (fun r=>by kernel_rfl) fun us hus=>?_
 match us,hus with
 | [u1],⟨hu1,_⟩=>
 have hu1:u1=v:=hu1.1
 rw [hu1]
 refine (minus_ok (hok t hx) (PartAt.keep c3.on t v hp)).mono ?_
 rintro e w4 ⟨v',rfl,c4,hp'⟩
 obtain ⟨k,rfl⟩:=PartAt.ptr _ v' hp'
 exact ⟨ptrB k,ptrB k,litT (ptrB k),0,rfl,⟨rfl,rfl⟩,y_M _,fun w5 c5=>.yes (by rw [hx];rfl) (((c12.trans c3).trans c4).trans c5) rfl (PartAt.keep c5.on _ _ hp')⟩
theorem of_F {op:Rf.Op}(hop:Rf.fn op)(hb:w.heap[b]?=some (.cells #[.int .i64 (kindZ op),.int .i64 x,tv,lv,rv] 163 (0,0)))(o1:One tv)(o2:One lv)(o3:One rv){xl:Option Wt}(hok:∀ t,xl=some t->t.Ok)(hcall:∀ w1,Chg w w1 []->Calls Tryz.prog 66 #[lv] w1 (Told2 w1 xl)):Calls Tryz.prog 66 #[ptrB b] w (Told2 w (xl.bind (fnW op))):=by
 have hk:=kind_uns hop
 refine of_L (by omega) hb o1 o2 o3 hcall (fun e w3 hc=>.no (by rw [e];rfl) hc rfl) ?_
 intro t v w2 kcs a hx c12 hp ho hsr hr
 refine xrun' (tabSp_ok tP_ok) bP_ok ph1_kb (nrm_R ph1_kb) (u_F x tv lv rv v hk) (fun _ _=>False) (fun ks s=>ks=bef (pD 56) Tryz.f66/\s=sT (kindZ op) x tv lv rv (slot [(54,.val (.one (.int .i64 (kindZ op)))),(55,litT v)] 0 79)) ⟨rfl,rfl⟩ (fun _ _ _ _ _ h=>h.elim) ?_ kcs _ _ _ (hsr _ _ _) hr
 rintro ks s ⟨rfl,rfl⟩
 refine ⟨fr_of.2.2.2.1,fun kcs φ3 a3 w3 hsr3 hr3=>?_⟩
 have c3:Chg w2 w3 []:=Chg.of_below (RepF.below hr3.wd rfl)
 refine lastT (z_F x (kindZ op) tv lv rv v) (fn_of Tryz.func105 rfl rfl).en fr_of.2.2.2.1 hsr3 hr3 rfl (fun r=>by kernel_rfl) fun us hus=>?_
 match us,hus with
 | [u1,u2],⟨hu1,hu2,_⟩=>
 have hu1:u1=.int .i64 (kindZ op):=hu1
 have hu2:u2=v:=hu2.1
 rw [hu1,hu2]
 refine (function_ok hop (hok t hx) (PartAt.keep c3.on t v hp)).mono ?_
 rintro e w4 hT
 obtain ⟨v',e',rfl,ho',h⟩:=hT.one
 refine ⟨v',_,tuT v' e',e',rfl,tup_rel ho',y_F _ _,fun w5 c5=>?_⟩
 rw [hx]
 exact hT.on (c12.trans c3) c5
theorem of_B (kk:Rf.Kind)(hb:w.heap[b]?=some (.cells #[.int .i64 (kdK kk),.int .i64 x,tv,lv,rv] 163 (0,0)))(o1:One tv)(o2:One lv)(o3:One rv){xl xr:Option Wt}(hok:∀ t,xl=some t->t.Ok)(hok2:∀ t,xr=some t->t.Ok)(hcall:∀ w1,Chg w w1 []->Calls Tryz.prog 66 #[lv] w1 (Told2 w1 xl))(hcall2:∀ w1,Chg w w1 []->Calls Tryz.prog 66 #[rv] w1 (Told2 w1 xr)):Calls Tryz.prog 66 #[ptrB b] w (Told2 w (xl.bind fun u=>xr.bind fun v=>opW kk u v)):=by
 have F:=fn_of Tryz.func66 rfl rfl
 have hk:kdK kk=6\/kdK kk=7\/kdK kk=8\/kdK kk=9:=by cases kk<;>simp [kdK]
 refine of_L (by omega) hb o1 o2 o3 hcall (fun e w3 hc=>.no (by rw [e];rfl) hc rfl) ?_
 intro t v w2 kcs a hx c12 hp ho hsr hr
 refine xrun' (tabSp_ok tP_ok) bP_ok ph1_kb (nrm_R ph1_kb) (u_B x tv lv rv v kk) (fun _ _=>False) (fun ks s=>ks=bef (pD 64) Tryz.f66/\s=sT (kdK kk) x tv lv rv (slot [(0,P0),(4,litT v),(63,litT rv)] 0 79)) ⟨rfl,rfl⟩ (fun _ _ _ _ _ h=>h.elim) ?_ kcs _ _ _ (hsr _ _ _) hr
 rintro ks s ⟨rfl,rfl⟩
 obtain ⟨_,_,_,_,f64,f76⟩:=fr_of
 refine ⟨f64,fun kcs φ3 a3 w3 hsr3 hr3=>?_⟩
 have c3:Chg w2 w3 []:=Chg.of_below (RepF.below hr3.wd rfl)
 have c13:=c12.trans c3
 refine callAt_ok (z_B x (kdK kk) tv lv rv v) F.en f64 (hsr3 φ3 [] w3) hr3 fun us hus=>?_
 match us,hus with
 | [u1],⟨hu1,_⟩=>
 have hu1:u1=rv:=hu1.1
 rw [hu1]
 refine (hcall2 w3 c13).mono ?_
 rintro e w4 hT
 have c4:=hT.1
 obtain ⟨v2,e',rfl,ho2,h⟩:=hT.one
 refine ⟨_,rfl,fun kcs4 hf4 hsr4=>?_⟩
 rcases h with ⟨hx2,rfl,rfl⟩ | ⟨t2,hx2,rfl,hp2⟩
 ·exact tailT u_B5 (hR:=fun w5 hc5=>.no (by rw [hx,hx2];rfl) ((c13.trans c4).trans hc5) rfl) hsr4 (rep_aft (kb:=[]) (kt:=[]) hr3 rep_emp (sU_tm rfl (by kernel_rfl)) (fun b hb=>by simp at hb) (tup_rel ho2))
 ·have c14:=c13.trans c4
  have hr4:Rep Z w4 (ph1 0 b) (ph1 0 b) (sT (kdK kk) x tv lv rv (slot [(0,P0),(4,litT v),(64,tuT v2 0)] 0 79)) (a3.put (some 64) (.tuple #[v2,.int .i64 0])) w4:=by
   refine rep_aft (kb:=[0]) (kt:=[0,4]) (r:=tuT v2 0) hr3 (sT_rep (c14.at hb (by simp)) o1 o2 o3 _) (by kernel_rfl) (fun b' hb'=>?_) (tup_rel ho2)
   have:b'=0:=by simpa using hb'
   subst this
   exact (hr3.wd.base 0 (b,0) rfl).symm
  refine xrun' (tabSp_ok tP_ok) bP_ok ph1_kb (nrm_R ph1_kb) (u_B2 x tv lv rv v v2 kk) (fun _ _=>False) (fun ks s=>ks=bef (pD 76) Tryz.f66/\s=sT (kdK kk) x tv lv rv (slot [(73,.val (.one (.int .i64 (kdK kk)))),(74,litT v),(75,litT v2)] 0 79)) ⟨rfl,rfl⟩ (fun _ _ _ _ _ h=>h.elim) ?_ kcs4 _ _ _ (hsr4 _ _ _) hr4
  rintro ks s ⟨rfl,rfl⟩
  refine ⟨f76,fun kcs φ5 a5 w5 hsr5 hr5=>?_⟩
  have c5:Chg w4 w5 []:=Chg.of_below (RepF.below hr5.wd rfl)
  refine lastT (z_B2 x (kdK kk) tv lv rv v v2) (fn_of Tryz.func106 rfl rfl).en f76 hsr5 hr5 rfl (fun r=>by kernel_rfl) fun us hus=>?_
  match us,hus with
  | [u1,u2,u3],⟨hu1,hu2,hu3,_⟩=>
  have hu1:u1=.int .i64 (kdK kk):=hu1
  have hu2:u2=v:=hu2.1
  have hu3:u3=v2:=hu3.1
  rw [hu1,hu2,hu3]
  refine (operation_ok kk (hok t hx) (PartAt.keep ((c3.trans c4).trans c5).on t v hp) (hok2 t2 hx2) (PartAt.keep c5.on t2 v2 hp2)).mono ?_
  rintro e w6 hT
  obtain ⟨v',e',rfl,ho',h⟩:=hT.one
  refine ⟨v',_,tuT v' e',e',rfl,tup_rel ho',y_B _ _,fun w7 c7=>?_⟩
  rw [hx,hx2]
  exact hT.on (c14.trans c5) c7
end
end Ab
theorem cst_cells {rb:Nat}{w:World}{ts:List Int}{tv:Value}(h:TermsAt rb w ts tv):∃ ao cap,tv=.slice ao ts.length cap/\∀ k,(h:k<ts.length)->∃ tb,ao=some ⟨tb,0,none⟩/\w.cell? ⟨tb,k,none⟩=some (.int .i64 ts[k]):=by
 rcases h with ⟨rfl,rfl⟩ | ⟨tb,cap,cur,rfl,_,h3,h4,h5⟩
 ·exact ⟨none,0,rfl,fun k h=>absurd h (Nat.not_lt_zero k)⟩
 ·refine ⟨some ⟨tb,0,none⟩,cap,rfl,fun k hk=>⟨tb,rfl,?_⟩⟩
  have hk2:cur.toList[k]?=some (.int .i64 ts[k]):=by
   have:(cur.toList.take ts.length)[k]?=(ts.map (Value.int .i64))[k]?:=by rw [h5]
   rw [List.getElem?_take_of_lt hk,List.getElem?_map,List.getElem?_eq_getElem hk] at this
   exact this
  exact cell_of_block h3 (by simpa using hk2)
namespace Ab
open Rf (Nd Inv NInv Wt)
theorem keep_chg {rb:Nat}{w w':World}(h:Chg w w' []):Keep rb w w':=Keep.of_below (h.below (Nat.le_refl _) (fun k hk=>by simp at hk))
theorem const_ok {rb:Nat}{w:World}{b:Nat}{kd x:Int}{ts:List Int}{tv lv rv:Value}(hkd:kd=2\/kd=3\/kd=4)(hn:ts.length<=9)(h2:kd=4->2<=ts.length)(hb:w.heap[b]?=some (.cells #[.int .i64 kd,.int .i64 x,tv,lv,rv] 163 (0,0)))(ht:TermsAt rb w ts tv)(o2:One lv)(o3:One rv):Calls Tryz.prog 66 #[ptrB b] w (Told2 w (some (.con (opKd kd) ts))):=by
 refine of_C hkd hb (TermsAt.one ht) o2 o3 fun w1 c1=>?_
 obtain ⟨ao,cap,rfl,hc⟩:=cst_cells (ht.keep (keep_chg c1))
 refine (constant_walk w1 b kd x ts ao cap lv rv (by omega) (c1.at hb (by simp)) hc).mono ?_
 rintro e w2 ⟨l,m,rfl,hown,hm,hbel⟩
 have c2:Chg w1 w2 []:=Chg.of_below hbel
 have hz:kindZ (opKd kd)=kd:=by rcases hkd with h | h | h<;>subst h<;>rfl
 have hp:PartAt w2 (.con (opKd kd) ts) (ptrB m):=by
  obtain ⟨ao',ln',cp',hl⟩:=own_slP hown
  refine ⟨m,[.bool false,.slice none 0 0,.bool false,.slice none 0 0],[0,0],l,nilP,nilP,rfl,?_,⟨rfl,mag_zero true w2,rfl,mag_zero true w2,trivial⟩,rfl,fun z hz=>zeros1 z (by simp at hz;simp [hz]),by rw [hl];rfl,rfl,rfl,fun e=>?_⟩
  ·rw [hz];exact hm
  ·have h4:kd=4:=by
    rcases hkd with h | h | h
    ·subst h;cases e
    ·subst h;cases e
    ·exact h
   have:=h2 h4
   rcases hown.2 with ⟨_,h⟩ | ⟨g,cap,cur,h,hg',h3,h5,_,_,h6⟩
   ·omega
   ·refine ⟨g,cap,cur.toList.drop ts.length,h,by omega,?_⟩
    rw [h3]
    have h6':cur.toList.take ts.length=ts.map (Value.int .i64):=by simpa using h6
    have:ts.map (fun t=>Value.int .i64 t)++cur.toList.drop ts.length=cur.toList:=by
     rw [show ts.map (fun t=>Value.int .i64 t)=cur.toList.take ts.length from h6'.symm]
     exact List.take_append_drop _ _
    rw [this]
 exact ⟨ptrB m,rfl,rfl,fun w3 c3=>.yes rfl ((c1.trans c2).trans c3) rfl (PartAt.keep c3.on _ _ hp)⟩
theorem of_ok {rb:Nat}:∀ (t:Rd.Tr),Rd.Wf t->32*Rd.cnt t<=6100->∀ (w:World) (v:Value),Enc rb w t v->Calls Tryz.prog 66 #[v] w (Told2 w (planT t)):=by
 intro t
 induction t with
 | nil=>intro h;exact h.elim
 | node n1 n2 a l r ihl ihr=>
  intro h hc w v he
  obtain ⟨kd,x,ts⟩:=a
  have hcn:Rd.cnt (.node n1 n2 (kd,x,ts) l r)=Rd.cnt l+Rd.cnt r+1:=rfl
  rw [hcn] at hc
  obtain ⟨b,tv,lv,rv,rfl,hrb,hb,ht,hl,hr⟩:=he
  have o1:=TermsAt.one ht
  have o2:=Enc.one hl
  have o3:=Enc.one hr
  rw [planT]
  simp only at h hb ht ⊢
  rcases h with ⟨hk,hn,_,rfl,rfl⟩ | ⟨hk,_,hts,rfl,rfl⟩ | ⟨hk,hts,h2,h9,_,rfl,rfl⟩ | ⟨hk,hwl,_,rfl⟩ | ⟨hk,hwl,hwr,_⟩
  ·subst hk
   rw [if_pos rfl]
   have:0<=x:=hn.1
   have:x<1000000000:=hn.2
   exact of_1 (by omega) hb o1 o2 o3
  ·rw [if_neg (by omega),if_pos (by omega)]
   exact const_ok (by omega) (by rw [show ts=[] from hts];exact Nat.zero_le _) (by omega) hb ht o2 o3
  ·rw [if_neg (by omega),if_pos (by omega)]
   exact const_ok (by omega) h9 (fun _=>h2) hb ht o2 o3
  ·rw [if_neg (by omega),if_neg (by omega)]
   have ihl':∀ w1,Chg w w1 []->Calls Tryz.prog 66 #[lv] w1 (Told2 w1 (planT l)):=fun w1 c1=>ihl hwl (by omega) w1 lv (Enc.keep (keep_chg c1) hl)
   have hok:∀ t,planT l=some t->t.Ok:=fun t e=>(plan_ok l t hwl (by omega) e).1
   rcases hk with hk | hk
   ·subst hk
    rw [if_pos rfl]
    exact of_M hb o1 o2 o3 hok ihl'
   ·rw [if_neg (by omega),if_neg (by omega)]
    have hz:kd=kindZ (opKd kd)/\Rf.fn (opKd kd):=by
     rcases hk with hk | hk | hk | hk<;>subst hk
     ·exact ⟨rfl,Or.inl rfl⟩
     ·exact ⟨rfl,Or.inr (Or.inl rfl)⟩
     ·exact ⟨rfl,Or.inr (Or.inr (Or.inl rfl))⟩
     ·exact ⟨rfl,Or.inr (Or.inr (Or.inr rfl))⟩
    rw [hz.1] at hb
    exact of_F hz.2 hb o1 o2 o3 hok ihl'
  ·rw [if_neg (by omega),if_neg (by omega),if_neg (by omega),if_pos (by omega)]
   have ihl':∀ w1,Chg w w1 []->Calls Tryz.prog 66 #[lv] w1 (Told2 w1 (planT l)):=fun w1 c1=>ihl hwl (by omega) w1 lv (Enc.keep (keep_chg c1) hl)
   have hok:∀ t,planT l=some t->t.Ok:=fun t e=>(plan_ok l t hwl (by omega) e).1
   have ihr':∀ w1,Chg w w1 []->Calls Tryz.prog 66 #[rv] w1 (Told2 w1 (planT r)):=fun w1 c1=>ihr hwr (by omega) w1 rv (Enc.keep (keep_chg c1) hr)
   have hok2:∀ t,planT r=some t->t.Ok:=fun t e=>(plan_ok r t hwr (by omega) e).1
   have hz:kd=kdK (kkKd kd):=by rcases hk with hk | hk | hk | hk<;>subst hk<;>rfl
   rw [hz] at hb
   exact of_B (kkKd kd) hb o1 o2 o3 hok hok2 ihl' ihr'
end Ab
end Go.Proofs.YteghhlfmcjmnoaaGreatDoor
