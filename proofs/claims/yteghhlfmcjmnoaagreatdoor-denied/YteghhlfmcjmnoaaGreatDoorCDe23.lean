import Derived.Test.YteghhlfmcjmnoaaGreatDoorCDe22
import Derived.Deep.LoopGhost
set_option linter.unusedSimpArgs false
set_option linter.unusedVariables false
set_option maxRecDepth 100000
set_option maxHeartbeats 2000000
namespace Go.Proofs.YteghhlfmcjmnoaaGreatDoor
open Go.RowKit
theorem take_any (w:World)(rb g cap:Nat)(ws:List Rd.Wd)(st:Rd.St)(c:ByteArray)(h:Rdr w rb g cap ws st)(hn:st.next<1000):
  Calls Tryz.prog 99 #[.pointer (some ⟨rb,0,none⟩),.string c] w fun e w'=>e=.returned (.bool (Rd.tk ws st c))/\Rdr w' rb g cap ws (bif Rd.tk ws st c then {st with next:=st.next+1} else st)/\Keep rb w w':=by
 have key:=word_any w rb g cap ws st h
 unfold wagg at key
 have HT:Hid (Rd.tk ws st c=((!((Rd.wordAt ws st.next).kind==0))&&((Rd.wordAt ws st.next).text.toList==c.toList))):=by
  show _=_
  rw [Rd.isT_eq,ByteArray.toList_eq];rfl
 generalize Rd.wordAt ws st.next=x at*
 have KEY:Hid (Calls Tryz.prog 65 #[.pointer (some ⟨rb,0,none⟩)] w fun e w'=>e=.returned (.agg #[.int .i64 x.kind,.string x.text,.int .i64 x.pos])/\Below w.heap.size w w'):=key
 clear key
 cases t1:(x.kind==0)
 all_goals cases t2:(x.text.toList==c.toList)
 all_goals
  go_enter Tryz.func99,Tryz.ntmps99
  go_wp2_with fail
  refine (KEY.out).mono ?_
  rintro e w1 ⟨rfl,hb⟩
  have h1:=h.below hb
  have d1:=h1.c1
  have f1:=h1.fz 1
  have l1:=h1.lt
  go_wp2_with fail
  go_ret
  rw [HT.out,t1,t2]
 ·exact ⟨rfl,h1.alloc _,(Keep.of_below hb).alloc _⟩
 ·exact ⟨rfl,(h1.set1 (st.next+1) (by simp)).alloc _,((Keep.of_below hb).setCell 1 _).alloc _⟩
 ·exact ⟨rfl,h1.alloc _,(Keep.of_below hb).alloc _⟩
 ·exact ⟨rfl,h1.alloc _,(Keep.of_below hb).alloc _⟩
theorem leaf_any (w:World)(rb g cap:Nat)(ws:List Rd.Wd)(st:Rd.St)(v:Value)(h:Rdr w rb g cap ws st)(hn:st.ok):
  Calls Tryz.prog 184 #[.pointer (some ⟨rb,0,none⟩),v] w fun e w'=>e=.returned v/\Rdr w' rb g cap ws st.leaf/\Keep rb w w':=by
 obtain ⟨b1,b2,b3,b4⟩:=hn
 have d2:=h.c2
 have d3:=h.c3
 have d4:=h.c4
 have f3:=h.fz 3
 have f4:=h.fz 4
 have l1:=h.lt
 by_cases t:(st.deepest:Int)<st.around
 ·go_enter Tryz.func184,Tryz.ntmps184
  go_wp2_with fail
  go_quiet (fail)
  go_wp2_with fail
  go_ret
  have e:st.leaf={ {st with nodes:=st.nodes+1} with deepest:=st.around}:=by simp [Rd.St.leaf,show st.deepest<st.around by omega]
  rw [e]
  exact ⟨rfl,((h.set4 (st.nodes+1) (by simp)).drewN _).set3 st.around rfl,(((Keep.refl _ _).setCell 4 _).drewN _).setCell 3 _⟩
 ·go_enter Tryz.func184,Tryz.ntmps184
  go_wp2_with fail
  go_quiet (fail)
  go_wp2_with fail
  go_ret
  have e:st.leaf={st with nodes:=st.nodes+1}:=by simp [Rd.St.leaf,show ¬st.deepest<st.around by omega]
  rw [e]
  exact ⟨rfl,(h.set4 (st.nodes+1) (by simp)).drewN _,((Keep.refl _ _).setCell 4 _).drewN _⟩
theorem unary_nil (w:World)(r:Value)(kd:Int):
  Calls Tryz.prog 171 #[r,.int .i64 kd,.pointer none] w fun e w'=>e=.returned (.pointer none)/\w=w':=by
 go_enter Tryz.func171,Tryz.ntmps171
 go_wp2_with fail
 go_ret
 exact ⟨rfl,rfl⟩
theorem cells_new (w:World)(o:Obj):(w.alloc o).heap[w.heap.size]?=some o:=by
 show (w.heap.push o)[w.heap.size]?=some o
 simp
theorem size_set (w:World)(a:Addr)(u:Value):(w.setCell a u).heap.size=w.heap.size:=by simp [World.setCell]
theorem unary_some (w:World)(rb g cap:Nat)(ws:List Rd.Wd)(st:Rd.St)(kd:Int)(a:Addr)(h:Rdr w rb g cap ws st)(hn:st.ok):
  Calls Tryz.prog 171 #[.pointer (some ⟨rb,0,none⟩),.int .i64 kd,.pointer (some a)] w fun e w'=>e=.returned (.pointer (some ⟨w.heap.size,0,none⟩))/\Rdr w' rb g cap ws st.node/\Keep rb w w'/\
   w'.heap[w.heap.size]?=some (.cells #[.int .i64 kd,.int .i64 0,.slice none 0 0,.pointer (some a),.pointer none] 163 (0,0)):=by
 obtain ⟨b1,b2,b3,b4⟩:=hn
 have d4:=h.c4
 have f4:=h.fz 4
 have l1:=h.lt
 go_enter Tryz.func171,Tryz.ntmps171
 go_wp2_with fail
 go_ret
 refine ⟨rfl,(h.set4 (st.nodes+1) (by simp)).alloc _,((Keep.refl _ _).setCell 4 _).alloc _,?_⟩
 rw [<-size_set w ⟨rb,4,none⟩ (.int .i64 (st.nodes+1))]
 exact cells_new _ _
theorem operation_nil (w:World)(r l:Value)(kd:Int):
  Calls Tryz.prog 100 #[r,.int .i64 kd,l,.pointer none] w fun e w'=>e=.returned (.pointer none)/\w=w':=by
 go_enter Tryz.func100,Tryz.ntmps100
 go_wp2_with fail
 go_ret
 exact ⟨rfl,rfl⟩
theorem operation_some (w:World)(rb g cap:Nat)(ws:List Rd.Wd)(st:Rd.St)(kd:Int)(a b:Addr)(h:Rdr w rb g cap ws st)(hn:st.ok):
  Calls Tryz.prog 100 #[.pointer (some ⟨rb,0,none⟩),.int .i64 kd,.pointer (some a),.pointer (some b)] w fun e w'=>e=.returned (.pointer (some ⟨w.heap.size,0,none⟩))/\Rdr w' rb g cap ws st.node/\Keep rb w w'/\
   w'.heap[w.heap.size]?=some (.cells #[.int .i64 kd,.int .i64 0,.slice none 0 0,.pointer (some a),.pointer (some b)] 163 (0,0)):=by
 obtain ⟨b1,b2,b3,b4⟩:=hn
 have d4:=h.c4
 have f4:=h.fz 4
 have l1:=h.lt
 go_enter Tryz.func100,Tryz.ntmps100
 go_wp2_with fail
 go_ret
 refine ⟨rfl,(h.set4 (st.nodes+1) (by simp)).alloc _,((Keep.refl _ _).setCell 4 _).alloc _,?_⟩
 rw [<-size_set w ⟨rb,4,none⟩ (.int .i64 (st.nodes+1))]
 exact cells_new _ _
open Go.RowKit
open Go.Deep (BT)
def TermsAt (rb:Nat)(w:World)(ts:List Int)(tv:Value):Prop:=
 (ts=[]/\tv=.slice none 0 0)\/∃ tb cap cur,tv=.slice (some ⟨tb,0,none⟩) ts.length cap/\tb≠rb/\w.heap[tb]?=some (.cells cur 3 (0,0))/\ts.length<=cap/\cur.toList.take ts.length=ts.map (Value.int .i64)
def Enc (rb:Nat)(w:World):Rd.Tr->Value->Prop
 | .nil,v=>v=.pointer none
 | .node _ _ a l r,v=>∃ b tv lv rv,v=.pointer (some ⟨b,0,none⟩)/\b≠rb/\w.heap[b]?=some (.cells #[.int .i64 a.1,.int .i64 a.2.1,tv,lv,rv] 163 (0,0))/\TermsAt rb w a.2.2 tv/\Enc rb w l lv/\Enc rb w r rv
def EncO (rb:Nat)(w:World):Option Rd.Tr->Value->Prop
 | none,v=>v=.pointer none
 | some t,v=>(∃ b,v=.pointer (some ⟨b,0,none⟩))/\Enc rb w t v
theorem TermsAt.keep {rb:Nat}{w w':World}{ts:List Int}{tv:Value}(h:TermsAt rb w ts tv)(hk:Keep rb w w'):TermsAt rb w' ts tv:=by
 rcases h with h | ⟨tb,cap,cur,h1,h2,h3,h4⟩
 ·exact Or.inl h
 ·exact Or.inr ⟨tb,cap,cur,h1,h2,by rw [hk.block tb (heap_lt h3) h2];exact h3,h4⟩
theorem Enc.keep {rb:Nat}{w w':World}(hk:Keep rb w w'):∀ {t:Rd.Tr} {v:Value},Enc rb w t v->Enc rb w' t v:=by
 intro t
 induction t with
 | nil=>intro v h;exact h
 | node _ _ a l r ihl ihr=>
  intro v h
  obtain ⟨b,tv,lv,rv,h1,h2,h3,h4,h5,h6⟩:=h
  exact ⟨b,tv,lv,rv,h1,h2,by rw [hk.block b (heap_lt h3) h2];exact h3,h4.keep hk,ihl h5,ihr h6⟩
theorem enc_node {rb b:Nat}{w:World}{k v:Int}{ts:List Int}{tv lv rv:Value}{l r:Rd.Tr}(hb:b≠rb)(h:w.heap[b]?=some (.cells #[.int .i64 k,.int .i64 v,tv,lv,rv] 163 (0,0)))
  (ht:TermsAt rb w ts tv) (hl:Enc rb w l lv) (hr:Enc rb w r rv):EncO rb w (some (.node 0 0 (k,v,ts) l r)) (.pointer (some ⟨b,0,none⟩)):=
 ⟨⟨b,rfl⟩,b,tv,lv,rv,rfl,hb,h,ht,hl,hr⟩
def WsOk (ws:List Rd.Wd):Prop:=∀ n,(Rd.wordAt ws n).kind=1->(Rd.wordAt ws n).text.size<=9
theorem term_any (w:World)(rb g cap:Nat)(ws:List Rd.Wd)(st:Rd.St)(h:Rdr w rb g cap ws st)(hn:st.next<1000)(hws:WsOk ws):
  Calls Tryz.prog 213 #[.pointer (some ⟨rb,0,none⟩)] w fun e w'=>e=.returned (.int .i64 (Rd.term ws st).1)/\Rdr w' rb g cap ws (Rd.term ws st).2/\Keep rb w w':=by
 have key:=word_any w rb g cap ws st h
 unfold wagg at key
 have hsz:=hws st.next
 have HT:Hid (Rd.term ws st=bif (Rd.wordAt ws st.next).kind==1 then bif Rd.valTo (Rd.wordAt ws st.next).text (Rd.wordAt ws st.next).text.size==0 then (0,st) else (Rd.valTo (Rd.wordAt ws st.next).text (Rd.wordAt ws st.next).text.size,st.adv) else (0,st)):=rfl
 clear hws
 generalize Rd.wordAt ws st.next=x at*
 have KEY:Hid (Calls Tryz.prog 65 #[.pointer (some ⟨rb,0,none⟩)] w fun e w'=>e=.returned (.agg #[.int .i64 x.kind,.string x.text,.int .i64 x.pos])/\Below w.heap.size w w'):=key
 have HSZ:Hid (x.kind=1->x.text.size<=9):=hsz
 clear key hsz
 cases t1:(x.kind==1)
 ·have t1':(x.kind != 1)=true:=by simp [bne,t1]
  go_enter Tryz.func213,Tryz.ntmps213
  go_wp2_with fail
  refine (KEY.out).mono ?_
  rintro e w1 ⟨rfl,hb⟩
  go_wp2_with fail
  go_ret
  rw [HT.out,t1]
  exact ⟨rfl,(h.below hb).alloc _,(Keep.of_below hb).alloc _⟩
 ·have hs9:x.text.size<=9:=HSZ.out (by simpa using t1)
  cases t2:(Rd.valTo x.text x.text.size==0)
  all_goals
   go_enter Tryz.func213,Tryz.ntmps213
   go_wp2_with fail
   refine (KEY.out).mono ?_
   rintro e w1 ⟨rfl,hb⟩
   have h1:=h.below hb
   have d1:=h1.c1
   have f1:=h1.fz 1
   have l1:=h1.lt
   go_wp2_with (go_at_call 183;refine (value_any _ _ _ _ hs9).mono ?_;rintro e w' ⟨rfl,rfl⟩)
   go_ret
   rw [HT.out,t1,t2]
  ·exact ⟨rfl,((h1.set1 (st.next+1) (by simp)).alloc _).alloc _,(((Keep.of_below hb).setCell 1 _).alloc _).alloc _⟩
  ·exact ⟨ret_int (by simpa using t2),(h1.alloc _).alloc _,((Keep.of_below hb).alloc _).alloc _⟩
theorem take_yes (w:World)(rb g cap:Nat)(ws:List Rd.Wd)(st:Rd.St)(c:ByteArray)(h:Rdr w rb g cap ws st)(hn:st.next<1000)(t:Rd.tk ws st c=true):
  Calls Tryz.prog 99 #[.pointer (some ⟨rb,0,none⟩),.string c] w fun e w'=>e=.returned (.bool true)/\Rdr w' rb g cap ws st.adv/\Keep rb w w':=by
 have:=take_any w rb g cap ws st c h hn
 rw [t] at this
 exact this
theorem take_no (w:World)(rb g cap:Nat)(ws:List Rd.Wd)(st:Rd.St)(c:ByteArray)(h:Rdr w rb g cap ws st)(hn:st.next<1000)(t:Rd.tk ws st c=false):
  Calls Tryz.prog 99 #[.pointer (some ⟨rb,0,none⟩),.string c] w fun e w'=>e=.returned (.bool false)/\Rdr w' rb g cap ws st/\Keep rb w w':=by
 have:=take_any w rb g cap ws st c h hn
 rw [t] at this
 exact this
def Post (rb g cap:Nat)(ws:List Rd.Wd)(w:World)(res:Option Rd.Tr)(st':Rd.St)(e:Ending)(w':World):Prop:=
 ∃ v,e=.returned v/\EncO rb w' res v/\Rdr w' rb g cap ws st'/\Keep rb w w'
theorem Post.nil {rb g cap:Nat}{ws:List Rd.Wd}{w w':World}{st':Rd.St}(h:Rdr w' rb g cap ws st')(hk:Keep rb w w'):Post rb g cap ws w none st' (.returned (.pointer none)) w':=
 ⟨_,rfl,rfl,h,hk⟩
theorem own_keep {rb:Nat}{wr w':World}{B e size n:Nat}{v:Value}{xs:List Value}(hown:wr.ownsRow B e size v n xs)(hk:Keep rb wr w')(hrb:rb<B):w'.ownsRow B e size v n xs:=by
 obtain ⟨h1,h2⟩:=hown
 refine ⟨h1,?_⟩
 rcases h2 with h2 | ⟨g,cap,cur,hv,hg,hh,r⟩
 ·exact Or.inl h2
 ·exact Or.inr ⟨g,cap,cur,hv,hg,by rw [hk.block g (heap_lt hh) (by omega)];exact hh,r⟩
theorem keep_own {rb:Nat}{w wr w3:World}{B e size n:Nat}{l:Value}{xs:List Value}(hown:wr.ownsRow B e size l n xs)(hk:Keep rb w wr)(hB:w.heap.size<=B)(o:Obj)(hg:(wr.alloc o).grownBy w3 l.ownBlock):Keep rb w w3:=by
 have ha:=hk.alloc o
 refine ⟨hg.os.trans ha.os,hg.tape.trans ha.tape,hg.output.trans ha.output,Nat.le_trans ha.size hg.size,fun k hk' hn=>?_⟩
 rw [hg.block k (Nat.lt_of_lt_of_le hk' ha.size) ?_]
 ·exact ha.block k hk' hn
 ·intro e
  rcases hown.2 with ⟨h,_⟩ | ⟨g,cap,cur,h,hg',_⟩
  ·rw [h] at e;cases e
  ·rw [h] at e
   simp only [Value.ownBlock,Option.some.injEq] at e
   omega
theorem rdr_own {rb g cap:Nat}{ws:List Rd.Wd}{st:Rd.St}{wr w3:World}{B e size n:Nat}{l:Value}{xs:List Value}(h:Rdr wr rb g cap ws st)(hown:wr.ownsRow B e size l n xs)(hrb:rb<B)(hgB:g<B)(o:Obj)(hg:(wr.alloc o).grownBy w3 l.ownBlock):Rdr w3 rb g cap ws st:=by
 have h':=h.alloc o
 have key:∀ k,k<B->k<(wr.alloc o).heap.size->w3.heap[k]?=(wr.alloc o).heap[k]?:=by
  intro k hk hs
  refine hg.block k hs ?_
  intro e
  rcases hown.2 with ⟨h,_⟩ | ⟨g,cap,cur,h,hg',_⟩
  ·rw [h] at e;cases e
  ·rw [h] at e
   simp only [Value.ownBlock,Option.some.injEq] at e
   omega
 obtain ⟨cur,h1,h2⟩:=h'.row
 exact ⟨by rw [key rb hrb h'.lt];exact h'.rd,⟨cur,by rw [key g hgB (heap_lt h1)];exact h1,h2⟩,h'.ne⟩
theorem terms_own {rb B n:Nat}{w:World}{v:Value}{ts:List Int}(hown:w.ownsRow B 3 1 v n (ts.map (Value.int .i64)))(hrb:rb<B)(hn:n=ts.length)(hp:0<n):TermsAt rb w ts v:=by
 rcases hown.2 with ⟨_,h⟩ | ⟨g,cap,cur,h,hg',h3,h4,_,_,h5⟩
 ·omega
 ·subst hn
  exact Or.inr ⟨g,cap,cur,h,by omega,h3,h4,by simpa using h5⟩
open Go.RowKit
theorem infoInt:(Tryz.prog.info? 3).map (fun i=>(i.zero,i.size,i.bytes))=some (some (.int .i64 0),1,8):=by kernel_rfl
theorem cont_no1 (w:World)(rb g cap:Nat)(ws:List Rd.Wd)(st:Rd.St)(h:Rdr w rb g cap ws st)(hn:st.next<1000)(t1:Rd.tk ws st ⟨#[91]⟩=false):
  Calls Tryz.prog 201 #[.pointer (some ⟨rb,0,none⟩)] w (Post rb g cap ws w none st):=by
 go_enter Tryz.func201,Tryz.ntmps201
 go_wp2_with fail
 refine (take_no _ rb g cap ws st _ h hn t1).mono ?_
 rintro e w1 ⟨rfl,hR1,hK1⟩
 go_wp2_with fail
 go_ret
 exact Post.nil hR1 hK1
theorem cont_no2 (w:World)(rb g cap:Nat)(ws:List Rd.Wd)(st:Rd.St)(h:Rdr w rb g cap ws st)(hn:st.next<900)(t1:Rd.tk ws st ⟨#[91]⟩=true)(t2:((Rd.wordAt ws st.adv.next).kind != 1)=true):
  Calls Tryz.prog 201 #[.pointer (some ⟨rb,0,none⟩)] w (Post rb g cap ws w none st.adv):=by
 go_enter Tryz.func201,Tryz.ntmps201
 go_wp2_with fail
 refine (take_yes _ rb g cap ws st _ h (by omega) t1).mono ?_
 rintro e w1 ⟨rfl,hR1,hK1⟩
 go_wp2_with fail
 refine (word_any _ rb g cap ws _ hR1).mono ?_
 unfold wagg
 rintro e w2 ⟨rfl,hb2⟩
 go_wp2_with fail
 go_ret
 exact Post.nil ((hR1.below hb2).alloc _) ((hK1.trans (Keep.of_below hb2)).alloc _)
theorem cont_no3 (w:World)(rb g cap:Nat)(ws:List Rd.Wd)(st:Rd.St)(h:Rdr w rb g cap ws st)(hn:st.next<900)(t1:Rd.tk ws st ⟨#[91]⟩=true)(t2:((Rd.wordAt ws st.adv.next).kind != 1)=false)(t3:Rd.tk ws st.adv.adv ⟨#[59]⟩=false):
  Calls Tryz.prog 201 #[.pointer (some ⟨rb,0,none⟩)] w (Post rb g cap ws w none st.adv.adv):=by
 have b1:st.adv.next<901:=by show st.next+1<901;omega
 go_enter Tryz.func201,Tryz.ntmps201
 go_wp2_with fail
 refine (take_yes _ rb g cap ws st _ h (by omega) t1).mono ?_
 rintro e w1 ⟨rfl,hR1,hK1⟩
 go_wp2_with fail
 refine (word_any _ rb g cap ws _ hR1).mono ?_
 unfold wagg
 rintro e w2 ⟨rfl,hb2⟩
 have hR2:=hR1.below hb2
 have d1:=hR2.c1
 have f1:=hR2.fz 1
 have l1:=hR2.lt
 go_wp2_with fail
 refine (take_no _ rb g cap ws st.adv.adv _ ((hR2.set1 (st.adv.next+1) (by simp)).alloc _) (by show st.adv.next+1<1000;omega) t3).mono ?_
 rintro e w3 ⟨rfl,hR3,hK3⟩
 go_wp2_with fail
 go_ret
 exact Post.nil hR3 ((((hK1.trans (Keep.of_below hb2)).setCell 1 _).alloc _).trans hK3)
theorem cells_new2 (w:World)(o o':Obj):((w.alloc o).alloc o').heap[w.heap.size+1]?=some o':=by
 have:=cells_new (w.alloc o) o'
 simpa using this
theorem terms_round {ws:List Rd.Wd}{c:Nat}{ts:List Int}{st1 st2:Rd.St}{tv:Int}{R:Option (Option (List Int)×Rd.St)}{x:Option Rd.Tr×Rd.St}(h8:c<=8)(h:Rd.terms ws (9-c) c ts st1=R)(hp:Rd.cfOf R=some x)(ht:Rd.term ws st1=(tv,st2)):
  st1.ok/\st2.ok/\R=bif tv==0 then some (none,st2) else bif Rd.tk ws st2 ⟨#[93]⟩ then some (some (ts++[tv]),st2.adv) else bif c==8 then some (none,st2) else bif Rd.tk ws st2 ⟨#[44]⟩ then Rd.terms ws (9-(c+1)) (c+1) (ts++[tv]) st2.adv else some (none,st2):=by
 obtain ⟨f,hf⟩:∃ f,9-c=f+1:=⟨8-c,by omega⟩
 have hf':9-(c+1)=f:=by omega
 rw [hf,Rd.terms,ht] at h
 rw [hf']
 cases hg:(st1.okB&&st2.okB) with
 | false=>
  simp only [hg,cond_false] at h
  rw [<-h] at hp
  cases hp
 | true=>
  simp only [hg,cond_true] at h
  simp only [Bool.and_eq_true] at hg
  exact ⟨Rd.St.okB_ok hg.1,Rd.St.okB_ok hg.2,h.symm⟩
def contRel (rb g cap:Nat)(ws:List Rd.Wd)(w:World)(R:Option (Option (List Int)×Rd.St))(l i:Value)(wr:World):Prop:=
 ∃ (c:Nat) (ts:List Int) (st:Rd.St),i=.int .i64 c/\1<=c/\c<=8/\ts.length=c/\wr.ownsRow w.heap.size 3 1 l c (ts.map (Value.int .i64))/\Rdr wr rb g cap ws st/\Keep rb w wr/\Rd.terms ws (9-c) c ts st=R
theorem block_new {rb b:Nat}{w w':World}{o:Obj}(hk:Keep rb (w.alloc o) w')(hb:b=w.heap.size)(hn:b≠rb):w'.heap[b]?=some o:=by
 subst hb
 rw [hk.block w.heap.size (by simp) hn]
 exact cells_new _ _
theorem cont_yes (w:World)(rb g cap:Nat)(ws:List Rd.Wd)(st:Rd.St)(h:Rdr w rb g cap ws st)(hn:st.next<900)(hws:WsOk ws)(t1:Rd.tk ws st ⟨#[91]⟩=true)(t2:((Rd.wordAt ws st.adv.next).kind != 1)=false)(t3:Rd.tk ws st.adv.adv ⟨#[59]⟩=true)
  (res:Option Rd.Tr) (st':Rd.St) (hp:Rd.cfOf (Rd.terms ws 8 1 [Rd.valTo (Rd.wordAt ws st.adv.next).text (Rd.wordAt ws st.adv.next).text.size] st.adv.adv.adv)=some (res,st')):
  Calls Tryz.prog 201 #[.pointer (some ⟨rb,0,none⟩)] w (Post rb g cap ws w res st'):=by
 have b1:st.adv.next<901:=by show st.next+1<901;omega
 have hrb:=h.lt
 have hg:g<w.heap.size:=by obtain ⟨cur,h1,_⟩:=h.row;exact heap_lt h1
 have hs9:(Rd.wordAt ws st.adv.next).text.size<=9:=hws _ (by simpa [bne] using t2)
 obtain ⟨i,hi,hz,hsize,hby⟩:=info_parts infoInt
 have HWS:Hid (WsOk ws):=hws
 clear hws
 have HP:Hid (Rd.cfOf (Rd.terms ws 8 1 [Rd.valTo (Rd.wordAt ws st.adv.next).text (Rd.wordAt ws st.adv.next).text.size] st.adv.adv.adv)=some (res,st')):=hp
 clear hp
 have WX:Hid (∀ W,Rdr W rb g cap ws st.adv->Calls Tryz.prog 65 #[.pointer (some ⟨rb,0,none⟩)] W fun e w'=>e=.returned (.agg #[.int .i64 (Rd.wordAt ws st.adv.next).kind,.string (Rd.wordAt ws st.adv.next).text,.int .i64 (Rd.wordAt ws st.adv.next).pos])/\Below W.heap.size W w'):=fun W hW=>word_any W rb g cap ws st.adv hW
 generalize Rd.wordAt ws st.adv.next=x at*
 generalize hR0:Rd.terms ws 8 1 [Rd.valTo x.text x.text.size] st.adv.adv.adv=R at*
 have HR0:Hid (Rd.terms ws 8 1 [Rd.valTo x.text x.text.size] st.adv.adv.adv=R):=hR0
 clear hR0
 go_enter Tryz.func201,Tryz.ntmps201
 go_wp2_with fail
 refine (take_yes _ rb g cap ws st _ h (by omega) t1).mono ?_
 rintro e w1 ⟨rfl,hR1,hK1⟩
 go_wp2_with fail
 refine (WX.out _ hR1).mono ?_
 rintro e w2 ⟨rfl,hb2⟩
 have hR2:=hR1.below hb2
 have d1:=hR2.c1
 have f1:=hR2.fz 1
 have l1:=hR2.lt
 go_wp2_with fail
 refine (take_yes _ rb g cap ws st.adv.adv _ ((hR2.set1 (st.adv.next+1) (by simp)).alloc _) (by show st.adv.next+1<1000;omega) t3).mono ?_
 rintro e w3 ⟨rfl,hR3,hK3⟩
 have hx:=block_new (b:=w2.heap.size) hK3 (size_set _ _ _).symm (by omega)
 have x0:w3.cell? ⟨w2.heap.size,0,none⟩=some (.int .i64 x.kind):=cell_of_block hx rfl
 have x1:w3.cell? ⟨w2.heap.size,1,none⟩=some (.string x.text):=cell_of_block hx rfl
 have x2:w3.cell? ⟨w2.heap.size,2,none⟩=some (.int .i64 x.pos):=cell_of_block hx rfl
 have hK4:Keep rb w w3:=(((hK1.trans (Keep.of_below hb2)).setCell 1 _).alloc _).trans hK3
 clear hx hK3 hR2 d1 f1 l1 hb2 hR1 hK1 WX
 go_wp2_with (go_at_call 183;refine (value_any _ _ _ _ hs9).mono ?_;rintro e w' ⟨rfl,rfl⟩)
 have hsz3:=hK4.size
 go_loopw [4,5] (fun l i wr=>contRel rb g cap ws w R l i wr) (fun _ i _=>9-(intOf i).toNat)
 case atStart=>
  refine ⟨1,[Rd.valTo x.text x.text.size],st.adv.adv.adv,rfl,Nat.le_refl _,by omega,rfl,?_,(hR3.alloc _).alloc _,(hK4.alloc _).alloc _,HR0.out⟩
  refine ⟨rfl,Or.inr ⟨w3.heap.size+1,1,#[.int .i64 (Rd.valTo x.text x.text.size)],rfl,by omega,?_,Nat.le_refl _,by decide,rfl,rfl⟩⟩
  exact cells_new2 _ _ _
 case round=>
  obtain ⟨c,ts,st1,rfl,c1,c8,hts,hown,hR,hK,hR'⟩:=hrel
  generalize hT:Rd.term ws st1=T
  obtain ⟨tv,st2⟩:=T
  obtain ⟨o1,o2,hRR⟩:=terms_round c8 hR' HP.out hT
  have TM:Hid (Calls Tryz.prog 213 #[.pointer (some ⟨rb,0,none⟩)] wr fun e w'=>e=.returned (.int .i64 tv)/\Rdr w' rb g cap ws st2/\Keep rb wr w'):=by
   have:=term_any wr rb g cap ws st1 hR o1.1 HWS.out
   rw [hT] at this
   exact this
  have HRR:Hid (R=bif tv==0 then some (none,st2) else bif Rd.tk ws st2 ⟨#[93]⟩ then some (some (ts++[tv]),st2.adv) else bif c==8 then some (none,st2) else bif Rd.tk ws st2 ⟨#[44]⟩ then Rd.terms ws (9-(c+1)) (c+1) (ts++[tv]) st2.adv else some (none,st2)):=hRR
  have HTS:Hid (ts.length=c):=hts
  have b2:st2.next<1000:=o2.1
  have hsz:=hK.size
  clear hR' hts hRR hT o1 HWS HR0 x0 x1 x2 hR3 hK4 h
  cases u1:(tv==0)
  ·cases u2:Rd.tk ws st2 ⟨#[93]⟩
   ·cases u3:((c:Int)==8)
    ·have u3':(c==8)=false:=by simp at u3;simp;omega
     cases u4:Rd.tk ws st2 ⟨#[44]⟩
     ·go_wp2_with fail
      refine (TM.out).mono ?_
      rintro e w5 ⟨rfl,hR5,hK5⟩
      have hsz5:=hK5.size
      go_wp2_with (at_builtin;refine wpList_append_own _ rfl _ _ 91 rfl w.heap.size 3 i (.int .i64 0) 1 8 Tryz.underlying91 hi hz hsize hby rfl (by decide) _ _ _ rfl ((own_keep hown hK5 hrb).alloc _) ⟨w5.heap.size,0,none⟩ 1 1 [.int .i64 tv] rfl rfl (cell_one_new _ _ _) (fun u hu=>by simp at hu;subst hu;rfl) (by unfold maxLen;omega) (by omega) (by simp;omega) ?_;intro v' w6 hown6 hgrow6 hnil6)
      have hR6:=rdr_own hR5 (own_keep hown hK5 hrb) hrb hg _ hgrow6
      have hK6:=keep_own (own_keep hown hK5 hrb) (hK.trans hK5) (Nat.le_refl _) _ hgrow6
      clear hnil6 hgrow6 hR5 hK5 hown hR hK
      refine (take_no _ rb g cap ws st2 _ hR6 b2 u2).mono ?_
      rintro e w7 ⟨rfl,hR7,hK7⟩
      go_wp2_with fail
      refine (take_no _ rb g cap ws st2 _ hR7 b2 u4).mono ?_
      rintro e w8 ⟨rfl,hR8,hK8⟩
      go_wp2_with fail
      go_ret
      have e:=HP.out
      rw [HRR.out,u1,u2,u3',u4] at e
      simp only [cond_true,cond_false,Rd.cfOf,Option.some.injEq,Prod.mk.injEq] at e
      obtain ⟨rfl,rfl⟩:=e
      exact Post.nil hR8 ((hK6.trans hK7).trans hK8)
     ·go_wp2_with fail
      refine (TM.out).mono ?_
      rintro e w5 ⟨rfl,hR5,hK5⟩
      have hsz5:=hK5.size
      go_wp2_with (at_builtin;refine wpList_append_own _ rfl _ _ 91 rfl w.heap.size 3 i (.int .i64 0) 1 8 Tryz.underlying91 hi hz hsize hby rfl (by decide) _ _ _ rfl ((own_keep hown hK5 hrb).alloc _) ⟨w5.heap.size,0,none⟩ 1 1 [.int .i64 tv] rfl rfl (cell_one_new _ _ _) (fun u hu=>by simp at hu;subst hu;rfl) (by unfold maxLen;omega) (by omega) (by simp;omega) ?_;intro v' w6 hown6 hgrow6 hnil6)
      have hR6:=rdr_own hR5 (own_keep hown hK5 hrb) hrb hg _ hgrow6
      have hK6:=keep_own (own_keep hown hK5 hrb) (hK.trans hK5) (Nat.le_refl _) _ hgrow6
      clear hnil6 hgrow6 hR5 hK5 hown hR hK
      refine (take_no _ rb g cap ws st2 _ hR6 b2 u2).mono ?_
      rintro e w7 ⟨rfl,hR7,hK7⟩
      go_wp2_with fail
      refine (take_yes _ rb g cap ws st2 _ hR7 b2 u4).mono ?_
      rintro e w8 ⟨rfl,hR8,hK8⟩
      go_wp2_with fail
      go_roundw
      case rel=>
       refine ⟨c+1,ts++[tv],st2.adv,by go_num,by omega,by have:=u3';simp at this;omega,by simp [HTS.out],?_,hR8,(hK6.trans hK7).trans hK8,?_⟩
       ·have:=own_keep (own_keep hown6 hK7 hrb) hK8 hrb
        simpa using this
       ·have e:=HRR.out
        rw [u1,u2,u3',u4] at e
        exact e.symm
      case measure=>simp [intOf];omega
    ·have u3':(c==8)=true:=by simp at u3;simp;omega
     go_wp2_with fail
     refine (TM.out).mono ?_
     rintro e w5 ⟨rfl,hR5,hK5⟩
     have hsz5:=hK5.size
     go_wp2_with (at_builtin;refine wpList_append_own _ rfl _ _ 91 rfl w.heap.size 3 i (.int .i64 0) 1 8 Tryz.underlying91 hi hz hsize hby rfl (by decide) _ _ _ rfl ((own_keep hown hK5 hrb).alloc _) ⟨w5.heap.size,0,none⟩ 1 1 [.int .i64 tv] rfl rfl (cell_one_new _ _ _) (fun u hu=>by simp at hu;subst hu;rfl) (by unfold maxLen;omega) (by omega) (by simp;omega) ?_;intro v' w6 hown6 hgrow6 hnil6)
     have hR6:=rdr_own hR5 (own_keep hown hK5 hrb) hrb hg _ hgrow6
     have hK6:=keep_own (own_keep hown hK5 hrb) (hK.trans hK5) (Nat.le_refl _) _ hgrow6
     clear hnil6 hgrow6 hR5 hK5 hown hR hK
     refine (take_no _ rb g cap ws st2 _ hR6 b2 u2).mono ?_
     rintro e w7 ⟨rfl,hR7,hK7⟩
     go_wp2_with fail
     go_ret
     have e:=HP.out
     rw [HRR.out,u1,u2,u3'] at e
     simp only [cond_true,cond_false,Rd.cfOf,Option.some.injEq,Prod.mk.injEq] at e
     obtain ⟨rfl,rfl⟩:=e
     exact Post.nil hR7 (hK6.trans hK7)
   ·go_wp2_with fail
    refine (TM.out).mono ?_
    rintro e w5 ⟨rfl,hR5,hK5⟩
    have hsz5:=hK5.size
    go_wp2_with (at_builtin;refine wpList_append_own _ rfl _ _ 91 rfl w.heap.size 3 i (.int .i64 0) 1 8 Tryz.underlying91 hi hz hsize hby rfl (by decide) _ _ _ rfl ((own_keep hown hK5 hrb).alloc _) ⟨w5.heap.size,0,none⟩ 1 1 [.int .i64 tv] rfl rfl (cell_one_new _ _ _) (fun u hu=>by simp at hu;subst hu;rfl) (by unfold maxLen;omega) (by omega) (by simp;omega) ?_;intro v' w6 hown6 hgrow6 hnil6)
    have hR6:=rdr_own hR5 (own_keep hown hK5 hrb) hrb hg _ hgrow6
    have hK6:=keep_own (own_keep hown hK5 hrb) (hK.trans hK5) (Nat.le_refl _) _ hgrow6
    clear hnil6 hgrow6 hR5 hK5 hown hR hK
    refine (take_yes _ rb g cap ws st2 _ hR6 b2 u2).mono ?_
    rintro e w7 ⟨rfl,hR7,hK7⟩
    have hown7:=own_keep hown6 hK7 hrb
    obtain ⟨g6,cap6,hv6⟩:∃ g6 cap6,v'=.slice (some ⟨g6,0,none⟩) (c+1) cap6:=by
     rcases hown7.2 with ⟨_,hh⟩ | ⟨g6,cap6,cur,hv,_⟩
     ·omega
     ·exact ⟨g6,cap6,hv⟩
    have HV:Hid (v'=.slice (some ⟨g6,0,none⟩) (c+1) cap6):=hv6
    rw [hv6]
    clear hv6
    have e:=HP.out
    rw [HRR.out,u1,u2] at e
    simp only [cond_true,cond_false,Rd.cfOf] at e
    have o3:st2.adv.okB=true:=by
     cases ho:st2.adv.okB with
     | true=>rfl
     | false=>rw [ho] at e;cases e
    have HE:Hid ((bif st2.adv.okB then some (some (Rd.leafT 4 0 (ts++[tv])),st2.adv.leaf) else none)=some (res,st')):=e
    have HO:Hid (st2.adv.okB=true):=o3
    clear e o3
    go_wp2_with fail
    refine (leaf_any _ rb g cap ws st2.adv _ (hR7.alloc _) (Rd.St.okB_ok HO.out)).mono ?_
    rintro e w8 ⟨rfl,hR8,hK8⟩
    go_wp2_with fail
    go_ret
    have e:=HE.out
    rw [HO.out] at e
    simp only [cond_true,Option.some.injEq,Prod.mk.injEq] at e
    obtain ⟨rfl,rfl⟩:=e
    have hne:w7.heap.size≠rb:=by have:=hR7.lt;omega
    refine ⟨_,rfl,?_,hR8,((hK6.trans hK7).alloc _).trans hK8⟩
    refine enc_node (ts:=ts++[tv]) (l:=.nil) (r:=.nil) hne (block_new hK8 rfl hne) ?_ rfl rfl
    rw [<-HV.out]
    refine terms_own (B:=w.heap.size) (n:=c+1) ?_ hrb (by simp [HTS.out]) (by omega)
    have:=own_keep (hown7.alloc _) hK8 hrb
    simpa using this
  ·go_wp2_with fail
   refine (TM.out).mono ?_
   rintro e w5 ⟨rfl,hR5,hK5⟩
   go_wp2_with fail
   go_ret
   have e:=HP.out
   rw [HRR.out,u1] at e
   simp only [cond_true,Rd.cfOf,Option.some.injEq,Prod.mk.injEq] at e
   obtain ⟨rfl,rfl⟩:=e
   exact Post.nil hR5 (hK.trans hK5)
theorem continued_any (w:World)(rb g cap:Nat)(ws:List Rd.Wd)(st:Rd.St)(h:Rdr w rb g cap ws st)(hws:WsOk ws)(res:Option Rd.Tr)(st':Rd.St)(hp:Rd.continued ws st=some (res,st')):
  Calls Tryz.prog 201 #[.pointer (some ⟨rb,0,none⟩)] w (Post rb g cap ws w res st'):=by
 unfold Rd.continued at hp
 cases ho:(decide (st.next<900)&&st.okB) with
 | false=>rw [ho] at hp;cases hp
 | true=>
  rw [ho] at hp
  simp only [Bool.and_eq_true,decide_eq_true_eq] at ho
  have hn:=ho.1
  cases t1:Rd.tk ws st ⟨#[91]⟩ with
  | false=>
   rw [t1] at hp
   simp only [cond_true,cond_false,Option.some.injEq,Prod.mk.injEq] at hp
   obtain ⟨rfl,rfl⟩:=hp
   exact cont_no1 w rb g cap ws st h (by omega) t1
  | true=>
   cases t2:((Rd.wordAt ws st.adv.next).kind==1) with
   | false=>
    rw [t1,t2] at hp
    simp only [cond_true,cond_false,Option.some.injEq,Prod.mk.injEq] at hp
    obtain ⟨rfl,rfl⟩:=hp
    exact cont_no2 w rb g cap ws st h hn t1 (by simp [bne,t2])
   | true=>
    cases t3:Rd.tk ws st.adv.adv ⟨#[59]⟩ with
    | false=>
     rw [t1,t2,t3] at hp
     simp only [cond_true,cond_false,Option.some.injEq,Prod.mk.injEq] at hp
     obtain ⟨rfl,rfl⟩:=hp
     exact cont_no3 w rb g cap ws st h hn t1 (by simp [bne,t2]) t3
    | true=>
     rw [t1,t2,t3] at hp
     exact cont_yes w rb g cap ws st h hn hws t1 (by simp [bne,t2]) t3 res st' hp
def Said (rb g cap:Nat)(ws:List Rd.Wd)(fn:FuncId)(tag f:Nat):Prop:=
 ∀ (w:World) (st:Rd.St) (res:Option Rd.Tr) (st':Rd.St),Rdr w rb g cap ws st->Rd.parse ws f tag none st=some (res,st')->Calls Tryz.prog fn #[.pointer (some ⟨rb,0,none⟩)] w (Post rb g cap ws w res st')
theorem next_some {a:Rd.Ans}{F:Option Rd.Tr->Rd.St->Rd.Ans}{y:Option Rd.Tr×Rd.St}(h:Rd.Ans.next a F=some y):∃ l st,a=some (l,st)/\F l st=some y:=by
 cases a with
 | none=>cases h
 | some x=>exact ⟨x.1,x.2,rfl,h⟩
theorem hideq {p:Prop}(h:p):Hid p:=h
theorem oper_some {k:Int}{l r:Rd.Tr}{st:Rd.St}{F:Option Rd.Tr->Rd.St->Rd.Ans}{y:Option Rd.Tr×Rd.St}(h:Rd.Ans.next (Rd.operOf k l (some r) st) F=some y):st.ok/\F (some (Rd.opT k l r)) st.node=some y:=by
 simp only [Rd.operOf] at h
 cases ho:st.okB with
 | false=>rw [ho] at h;cases h
 | true=>
  rw [ho] at h
  exact ⟨Rd.St.okB_ok ho,h⟩
open Go.RowKit
theorem sum_step (rb g cap:Nat)(ws:List Rd.Wd)(f:Nat)(IH:Hid (∀ k,k<f->Said rb g cap ws 98 2 k)):Said rb g cap ws 64 0 f:=by
 intro w st res st' hR hp
 obtain ⟨f0,rfl⟩:∃ f0,f=f0+1:=by
  cases f with
  | zero=>cases hp
  | succ f0=>exact ⟨f0,rfl⟩
 obtain ⟨l0,st1,hp1,hp2⟩:=next_some hp
 have HP1:Hid (Rd.parse ws f0 2 none st=some (l0,st1)):=hp1
 have HP2:Hid (Rd.parse ws f0 1 l0 st1=some (res,st')):=hp2
 clear hp hp1 hp2
 go_enter Tryz.func64,Tryz.ntmps64
 go_wp2_with fail
 refine (IH.out f0 (by omega) _ st l0 st1 hR HP1.out).mono ?_
 rintro e w1 ⟨v1,rfl,hE1,hR1,hK1⟩
 clear hR HP1
 go_wp2_with fail
 go_loopg [3] f0 (fun k l wr=>∃ lt st2,k<=f0/\EncO rb wr lt l/\Rdr wr rb g cap ws st2/\Keep rb w wr/\Rd.parse ws k 1 lt st2=some (res,st'))
 case atStart=>exact ⟨l0,st1,Nat.le_refl _,hE1,hR1,hK1,HP2.out⟩
 case round=>
  obtain ⟨lt,st2,hk,hE,hR,hK,hp⟩:=hrel
  clear HP2 hE1 hR1 hK1
  obtain ⟨k,hgk⟩:∃ k,gk=k+1:=by
   cases gk with
   | zero=>cases hp
   | succ k=>exact ⟨k,rfl⟩
  rw [hgk] at hp
  have HGK:Hid (gk=k+1):=hgk
  have hkf:k<f0+1:=by omega
  clear hgk
  cases lt with
  | none=>
   simp only [Rd.parse,Option.some.injEq,Prod.mk.injEq] at hp
   obtain ⟨rfl,rfl⟩:=hp
   rw [show _=Value.pointer none from hE]
   clear hE
   go_wp2_with fail
   go_ret
   exact Post.nil hR hK
  | some t=>
   obtain ⟨⟨b,hb⟩,hE2⟩:=hE
   rw [hb]
   rw [hb] at hE2
   clear hb
   rw [Rd.parse] at hp
   cases ho:st2.okB with
   | false=>rw [ho] at hp;cases hp
   | true=>
    rw [ho] at hp
    simp only [cond_true] at hp
    have ok:=Rd.St.okB_ok ho
    have b2:st2.next<1000:=ok.1
    clear ho ok
    cases u1:Rd.tk ws st2 ⟨#[43]⟩
    ·cases u2:Rd.tk ws st2 ⟨#[45]⟩
     ·rw [u1,u2] at hp
      simp only [cond_false,Option.some.injEq,Prod.mk.injEq] at hp
      obtain ⟨rfl,rfl⟩:=hp
      go_wp2_with fail
      refine (take_no _ rb g cap ws st2 _ hR b2 u1).mono ?_
      rintro e w2 ⟨rfl,hR2,hK2⟩
      go_wp2_with fail
      refine (take_no _ rb g cap ws st2 _ hR2 b2 u2).mono ?_
      rintro e w3 ⟨rfl,hR3,hK3⟩
      go_wp2_with fail
      go_ret
      exact ⟨_,rfl,⟨⟨b,rfl⟩,Enc.keep (hK2.trans hK3) hE2⟩,hR3,(hK.trans hK2).trans hK3⟩
     ·rw [u1,u2] at hp
      simp only [cond_true,cond_false] at hp
      obtain ⟨r,st3,hp1,hp2⟩:=next_some hp
      have HP1:Hid (Rd.parse ws k 2 none st2.adv=some (r,st3)):=hp1
      have HP2:=hideq hp2
      clear hp hp1 hp2
      go_wp2_with fail
      refine (take_no _ rb g cap ws st2 _ hR b2 u1).mono ?_
      rintro e w2 ⟨rfl,hR2,hK2⟩
      go_wp2_with fail
      refine (take_yes _ rb g cap ws st2 _ hR2 b2 u2).mono ?_
      rintro e w3 ⟨rfl,hR3,hK3⟩
      go_wp2_with fail
      refine (IH.out k hkf _ st2.adv r st3 hR3 HP1.out).mono ?_
      rintro e w4 ⟨v4,rfl,hE4,hR4,hK4⟩
      have hE5:Enc rb w4 t (.pointer (some ⟨b,0,none⟩)):=Enc.keep ((hK2.trans hK3).trans hK4) hE2
      have hK5:Keep rb w w4:=((hK.trans hK2).trans hK3).trans hK4
      clear hK hK2 hK3 hK4 hR hR2 hR3 hE2 HP1
      cases r with
      | none=>
       rw [show v4=Value.pointer none from hE4]
       clear hE4
       go_wp2_with fail
       refine (operation_nil _ _ _ _).mono ?_
       rintro e w5 ⟨rfl,rfl⟩
       go_wp2_with fail
       go_roundg k
       case measure=>have:=HGK.out;omega
       case rel=>exact ⟨none,st3,by omega,rfl,hR4,hK5,HP2.out⟩
      | some r=>
       obtain ⟨⟨b4,hb4⟩,hE6⟩:=hE4
       rw [hb4]
       rw [hb4] at hE6
       clear hb4
       obtain ⟨ok3,hp3⟩:=oper_some HP2.out
       clear HP2
       have HP3:=hideq hp3
       have hlt:=hR4.lt
       clear hp3
       go_wp2_with fail
       refine (operation_some _ rb g cap ws st3 _ _ _ hR4 ok3).mono ?_
       rintro e w5 ⟨rfl,hR5,hK6,hnew⟩
       clear hR4
       go_wp2_with fail
       go_roundg k
       case measure=>have:=HGK.out;omega
       case rel=>exact ⟨some (Rd.opT 7 t r),st3.node,by omega,enc_node (by omega) hnew (Or.inl ⟨rfl,rfl⟩) (Enc.keep hK6 hE5) (Enc.keep hK6 hE6),hR5,hK5.trans hK6,HP3.out⟩
    ·rw [u1] at hp
     simp only [cond_true,cond_false] at hp
     obtain ⟨r,st3,hp1,hp2⟩:=next_some hp
     have HP1:Hid (Rd.parse ws k 2 none st2.adv=some (r,st3)):=hp1
     have HP2:=hideq hp2
     clear hp hp1 hp2
     go_wp2_with fail
     refine (take_yes _ rb g cap ws st2 _ hR b2 u1).mono ?_
     rintro e w3 ⟨rfl,hR3,hK3⟩
     go_wp2_with fail
     refine (IH.out k hkf _ st2.adv r st3 hR3 HP1.out).mono ?_
     rintro e w4 ⟨v4,rfl,hE4,hR4,hK4⟩
     have hE5:Enc rb w4 t (.pointer (some ⟨b,0,none⟩)):=Enc.keep (hK3.trans hK4) hE2
     have hK5:Keep rb w w4:=(hK.trans hK3).trans hK4
     clear hK hK3 hK4 hR hR3 hE2 HP1
     cases r with
     | none=>
      rw [show v4=Value.pointer none from hE4]
      clear hE4
      go_wp2_with fail
      refine (operation_nil _ _ _ _).mono ?_
      rintro e w5 ⟨rfl,rfl⟩
      go_wp2_with fail
      go_roundg k
      case measure=>have:=HGK.out;omega
      case rel=>exact ⟨none,st3,by omega,rfl,hR4,hK5,HP2.out⟩
     | some r=>
      obtain ⟨⟨b4,hb4⟩,hE6⟩:=hE4
      rw [hb4]
      rw [hb4] at hE6
      clear hb4
      obtain ⟨ok3,hp3⟩:=oper_some HP2.out
      clear HP2
      have HP3:=hideq hp3
      have hlt:=hR4.lt
      clear hp3
      go_wp2_with fail
      refine (operation_some _ rb g cap ws st3 _ _ _ hR4 ok3).mono ?_
      rintro e w5 ⟨rfl,hR5,hK6,hnew⟩
      clear hR4
      go_wp2_with fail
      go_roundg k
      case measure=>have:=HGK.out;omega
      case rel=>exact ⟨some (Rd.opT 6 t r),st3.node,by omega,enc_node (by omega) hnew (Or.inl ⟨rfl,rfl⟩) (Enc.keep hK6 hE5) (Enc.keep hK6 hE6),hR5,hK5.trans hK6,HP3.out⟩
open Go.RowKit
theorem product_step (rb g cap:Nat)(ws:List Rd.Wd)(f:Nat)(IH:Hid (∀ k,k<f->Said rb g cap ws 142 4 k)):Said rb g cap ws 98 2 f:=by
 intro w st res st' hR hp
 obtain ⟨f0,rfl⟩:∃ f0,f=f0+1:=by
  cases f with
  | zero=>cases hp
  | succ f0=>exact ⟨f0,rfl⟩
 obtain ⟨l0,st1,hp1,hp2⟩:=next_some hp
 have HP1:Hid (Rd.parse ws f0 4 none st=some (l0,st1)):=hp1
 have HP2:Hid (Rd.parse ws f0 3 l0 st1=some (res,st')):=hp2
 clear hp hp1 hp2
 go_enter Tryz.func98,Tryz.ntmps98
 go_wp2_with fail
 refine (IH.out f0 (by omega) _ st l0 st1 hR HP1.out).mono ?_
 rintro e w1 ⟨v1,rfl,hE1,hR1,hK1⟩
 clear hR HP1
 go_wp2_with fail
 go_loopg [3] f0 (fun k l wr=>∃ lt st2,k<=f0/\EncO rb wr lt l/\Rdr wr rb g cap ws st2/\Keep rb w wr/\Rd.parse ws k 3 lt st2=some (res,st'))
 case atStart=>exact ⟨l0,st1,Nat.le_refl _,hE1,hR1,hK1,HP2.out⟩
 case round=>
  obtain ⟨lt,st2,hk,hE,hR,hK,hp⟩:=hrel
  clear HP2 hE1 hR1 hK1
  obtain ⟨k,hgk⟩:∃ k,gk=k+1:=by
   cases gk with
   | zero=>cases hp
   | succ k=>exact ⟨k,rfl⟩
  rw [hgk] at hp
  have HGK:Hid (gk=k+1):=hgk
  have hkf:k<f0+1:=by omega
  clear hgk
  cases lt with
  | none=>
   simp only [Rd.parse,Option.some.injEq,Prod.mk.injEq] at hp
   obtain ⟨rfl,rfl⟩:=hp
   rw [show _=Value.pointer none from hE]
   clear hE
   go_wp2_with fail
   go_ret
   exact Post.nil hR hK
  | some t=>
   obtain ⟨⟨b,hb⟩,hE2⟩:=hE
   rw [hb]
   rw [hb] at hE2
   clear hb
   rw [Rd.parse] at hp
   cases ho:st2.okB with
   | false=>rw [ho] at hp;cases hp
   | true=>
    rw [ho] at hp
    simp only [cond_true] at hp
    have ok:=Rd.St.okB_ok ho
    have b2:st2.next<1000:=ok.1
    clear ho ok
    cases u1:Rd.tk ws st2 ⟨#[42]⟩
    ·cases u2:Rd.tk ws st2 ⟨#[47]⟩
     ·rw [u1,u2] at hp
      simp only [cond_false,Option.some.injEq,Prod.mk.injEq] at hp
      obtain ⟨rfl,rfl⟩:=hp
      go_wp2_with fail
      refine (take_no _ rb g cap ws st2 _ hR b2 u1).mono ?_
      rintro e w2 ⟨rfl,hR2,hK2⟩
      go_wp2_with fail
      refine (take_no _ rb g cap ws st2 _ hR2 b2 u2).mono ?_
      rintro e w3 ⟨rfl,hR3,hK3⟩
      go_wp2_with fail
      go_ret
      exact ⟨_,rfl,⟨⟨b,rfl⟩,Enc.keep (hK2.trans hK3) hE2⟩,hR3,(hK.trans hK2).trans hK3⟩
     ·rw [u1,u2] at hp
      simp only [cond_true,cond_false] at hp
      obtain ⟨r,st3,hp1,hp2⟩:=next_some hp
      have HP1:Hid (Rd.parse ws k 4 none st2.adv=some (r,st3)):=hp1
      have HP2:=hideq hp2
      clear hp hp1 hp2
      go_wp2_with fail
      refine (take_no _ rb g cap ws st2 _ hR b2 u1).mono ?_
      rintro e w2 ⟨rfl,hR2,hK2⟩
      go_wp2_with fail
      refine (take_yes _ rb g cap ws st2 _ hR2 b2 u2).mono ?_
      rintro e w3 ⟨rfl,hR3,hK3⟩
      go_wp2_with fail
      refine (IH.out k hkf _ st2.adv r st3 hR3 HP1.out).mono ?_
      rintro e w4 ⟨v4,rfl,hE4,hR4,hK4⟩
      have hE5:Enc rb w4 t (.pointer (some ⟨b,0,none⟩)):=Enc.keep ((hK2.trans hK3).trans hK4) hE2
      have hK5:Keep rb w w4:=((hK.trans hK2).trans hK3).trans hK4
      clear hK hK2 hK3 hK4 hR hR2 hR3 hE2 HP1
      cases r with
      | none=>
       rw [show v4=Value.pointer none from hE4]
       clear hE4
       go_wp2_with fail
       refine (operation_nil _ _ _ _).mono ?_
       rintro e w5 ⟨rfl,rfl⟩
       go_wp2_with fail
       go_roundg k
       case measure=>have:=HGK.out;omega
       case rel=>exact ⟨none,st3,by omega,rfl,hR4,hK5,HP2.out⟩
      | some r=>
       obtain ⟨⟨b4,hb4⟩,hE6⟩:=hE4
       rw [hb4]
       rw [hb4] at hE6
       clear hb4
       obtain ⟨ok3,hp3⟩:=oper_some HP2.out
       clear HP2
       have HP3:=hideq hp3
       have hlt:=hR4.lt
       clear hp3
       go_wp2_with fail
       refine (operation_some _ rb g cap ws st3 _ _ _ hR4 ok3).mono ?_
       rintro e w5 ⟨rfl,hR5,hK6,hnew⟩
       clear hR4
       go_wp2_with fail
       go_roundg k
       case measure=>have:=HGK.out;omega
       case rel=>exact ⟨some (Rd.opT 9 t r),st3.node,by omega,enc_node (by omega) hnew (Or.inl ⟨rfl,rfl⟩) (Enc.keep hK6 hE5) (Enc.keep hK6 hE6),hR5,hK5.trans hK6,HP3.out⟩
    ·rw [u1] at hp
     simp only [cond_true,cond_false] at hp
     obtain ⟨r,st3,hp1,hp2⟩:=next_some hp
     have HP1:Hid (Rd.parse ws k 4 none st2.adv=some (r,st3)):=hp1
     have HP2:=hideq hp2
     clear hp hp1 hp2
     go_wp2_with fail
     refine (take_yes _ rb g cap ws st2 _ hR b2 u1).mono ?_
     rintro e w3 ⟨rfl,hR3,hK3⟩
     go_wp2_with fail
     refine (IH.out k hkf _ st2.adv r st3 hR3 HP1.out).mono ?_
     rintro e w4 ⟨v4,rfl,hE4,hR4,hK4⟩
     have hE5:Enc rb w4 t (.pointer (some ⟨b,0,none⟩)):=Enc.keep (hK3.trans hK4) hE2
     have hK5:Keep rb w w4:=(hK.trans hK3).trans hK4
     clear hK hK3 hK4 hR hR3 hE2 HP1
     cases r with
     | none=>
      rw [show v4=Value.pointer none from hE4]
      clear hE4
      go_wp2_with fail
      refine (operation_nil _ _ _ _).mono ?_
      rintro e w5 ⟨rfl,rfl⟩
      go_wp2_with fail
      go_roundg k
      case measure=>have:=HGK.out;omega
      case rel=>exact ⟨none,st3,by omega,rfl,hR4,hK5,HP2.out⟩
     | some r=>
      obtain ⟨⟨b4,hb4⟩,hE6⟩:=hE4
      rw [hb4]
      rw [hb4] at hE6
      clear hb4
      obtain ⟨ok3,hp3⟩:=oper_some HP2.out
      clear HP2
      have HP3:=hideq hp3
      have hlt:=hR4.lt
      clear hp3
      go_wp2_with fail
      refine (operation_some _ rb g cap ws st3 _ _ _ hR4 ok3).mono ?_
      rintro e w5 ⟨rfl,hR5,hK6,hnew⟩
      clear hR4
      go_wp2_with fail
      go_roundg k
      case measure=>have:=HGK.out;omega
      case rel=>exact ⟨some (Rd.opT 8 t r),st3.node,by omega,enc_node (by omega) hnew (Or.inl ⟨rfl,rfl⟩) (Enc.keep hK6 hE5) (Enc.keep hK6 hE6),hR5,hK5.trans hK6,HP3.out⟩
open Go.RowKit
theorem out_cast {st:Rd.St}(h:1<=st.around):(st.around:Int)-1=((st.around-1:Nat):Int):=by omega
theorem okOut_parts {st:Rd.St}(h:st.okOut=true):st.ok/\1<=st.around:=by
 simp only [Rd.St.okOut,Bool.and_eq_true,decide_eq_true_eq] at h
 exact ⟨Rd.St.okB_ok h.1,h.2⟩
theorem unary_ok {k:Int}{x:Rd.Tr}{st:Rd.St}{y:Option Rd.Tr×Rd.St}(h:Rd.unaryOf k (some x) st=some y):st.ok/\y=(some (Rd.unT k x),st.node):=by
 simp only [Rd.unaryOf] at h
 cases ho:st.okB with
 | false=>rw [ho] at h;cases h
 | true=>
  rw [ho] at h
  exact ⟨Rd.St.okB_ok ho,(Option.some.inj h).symm⟩
theorem signed_step (rb g cap:Nat)(ws:List Rd.Wd)(f:Nat)(IH:Hid (∀ k,k<f->Said rb g cap ws 142 4 k))(IA:Hid (∀ k,k<f->Said rb g cap ws 170 5 k)):Said rb g cap ws 142 4 f:=by
 intro w st res st' hR hp
 obtain ⟨f0,rfl⟩:∃ f0,f=f0+1:=by
  cases f with
  | zero=>cases hp
  | succ f0=>exact ⟨f0,rfl⟩
 rw [Rd.parse] at hp
 cases ho:st.okB with
 | false=>rw [ho] at hp;cases hp
 | true=>
  rw [ho] at hp
  simp only [cond_true] at hp
  have ok:=Rd.St.okB_ok ho
  have b1:st.next<1000:=ok.1
  have b2:st.adv.around<1000:=ok.2.1
  clear ho ok
  cases u1:Rd.tk ws st ⟨#[45]⟩
  ·rw [u1] at hp
   simp only [cond_false] at hp
   have HP:=hideq hp
   clear hp
   go_enter Tryz.func142,Tryz.ntmps142
   go_wp2_with fail
   refine (take_no _ rb g cap ws st _ hR b1 u1).mono ?_
   rintro e w1 ⟨rfl,hR1,hK1⟩
   go_wp2_with fail
   refine (IA.out f0 (by omega) _ st res st' hR1 HP.out).mono ?_
   rintro e w2 ⟨v2,rfl,hE2,hR2,hK2⟩
   go_wp2_with fail
   go_ret
   exact ⟨_,rfl,hE2,hR2,hK1.trans hK2⟩
  ·rw [u1] at hp
   simp only [cond_true] at hp
   obtain ⟨x,st2,hp1,hp2⟩:=next_some hp
   cases ho2:st2.okOut with
   | false=>rw [ho2] at hp2;cases hp2
   | true=>
    rw [ho2] at hp2
    simp only [cond_true] at hp2
    obtain ⟨ok2,out2⟩:=okOut_parts ho2
    have b3:st2.around<1000:=ok2.2.1
    have HP1:=hideq hp1
    have HP2:=hideq hp2
    clear hp hp1 hp2 ho2 ok2
    go_enter Tryz.func142,Tryz.ntmps142
    go_wp2_with fail
    refine (take_yes _ rb g cap ws st _ hR b1 u1).mono ?_
    rintro e w1 ⟨rfl,hR1,hK1⟩
    have d2:=hR1.c2
    have f2:=hR1.fz 2
    go_wp2_with fail
    refine (IH.out f0 (by omega) _ st.adv.inn x st2 (hR1.set2 (st.adv.around+1) (by simp)) HP1.out).mono ?_
    rintro e w2 ⟨v2,rfl,hE2,hR2,hK2⟩
    have hK3:Keep rb w w2:=(hK1.setCell 2 _).trans hK2
    clear d2 f2 hK1 hK2 hR1 hR HP1
    have d2:=hR2.c2
    have f2:=hR2.fz 2
    have hR3:=hR2.set2 (st2.around-1) (out_cast out2)
    have hlt:=hR2.lt
    cases x with
    | none=>
     rw [show v2=Value.pointer none from hE2]
     clear hE2
     have e:=HP2.out
     simp only [Rd.unaryOf,Option.some.injEq,Prod.mk.injEq] at e
     obtain ⟨rfl,rfl⟩:=e
     go_wp2_with fail
     refine (unary_nil _ _ _).mono ?_
     rintro e w5 ⟨rfl,rfl⟩
     go_wp2_with fail
     go_ret
     exact Post.nil hR3 (hK3.setCell 2 _)
    | some x=>
     obtain ⟨⟨b4,hb4⟩,hE6⟩:=hE2
     rw [hb4]
     rw [hb4] at hE6
     clear hb4
     obtain ⟨ok3,hy⟩:=unary_ok HP2.out
     simp only [Prod.mk.injEq] at hy
     obtain ⟨rfl,rfl⟩:=hy
     have hK4:Keep rb w2 (w2.setCell ⟨rb,2,none⟩ (.int .i64 ((st2.around:Int)-1))):=(Keep.refl _ _).setCell 2 _
     clear HP2
     go_wp2_with fail
     refine (unary_some _ rb g cap ws st2.out _ _ hR3 ok3).mono ?_
     rintro e w5 ⟨rfl,hR5,hK6,hnew⟩
     rw [size_set] at hnew
     have hne:w2.heap.size≠rb:=by omega
     go_wp2_with fail
     go_ret
     refine ⟨_,rfl,enc_node hne hnew (Or.inl ⟨rfl,rfl⟩) (Enc.keep (hK4.trans hK6) hE6) rfl,hR5,(hK3.setCell 2 _).trans hK6⟩
theorem brackets_step (rb g cap:Nat)(ws:List Rd.Wd)(f:Nat)(IH:Hid (∀ k,k<f->Said rb g cap ws 64 0 k)):Said rb g cap ws 187 6 f:=by
 intro w st res st' hR hp
 obtain ⟨f0,rfl⟩:∃ f0,f=f0+1:=by
  cases f with
  | zero=>cases hp
  | succ f0=>exact ⟨f0,rfl⟩
 rw [Rd.parse] at hp
 ·cases ho:st.okB with
  | false=>rw [ho] at hp;cases hp
  | true=>
   rw [ho] at hp
   simp only [cond_true] at hp
   have ok:=Rd.St.okB_ok ho
   have b1:st.next<1000:=ok.1
   have b2:st.adv.around<1000:=ok.2.1
   clear ho ok
   cases u1:Rd.tk ws st ⟨#[40]⟩
   ·rw [u1] at hp
    simp only [cond_false,Option.some.injEq,Prod.mk.injEq] at hp
    obtain ⟨rfl,rfl⟩:=hp
    go_enter Tryz.func187,Tryz.ntmps187
    go_wp2_with fail
    refine (take_no _ rb g cap ws st _ hR b1 u1).mono ?_
    rintro e w1 ⟨rfl,hR1,hK1⟩
    go_wp2_with fail
    go_ret
    exact Post.nil hR1 hK1
   ·rw [u1] at hp
    simp only [cond_true] at hp
    obtain ⟨x,st2,hp1,hp2⟩:=next_some hp
    unfold Rd.closeOf at hp2
    cases ho2:st2.okOut with
    | false=>rw [ho2] at hp2;cases hp2
    | true=>
     rw [ho2] at hp2
     simp only [cond_true] at hp2
     obtain ⟨ok2,out2⟩:=okOut_parts ho2
     have b3:st2.around<1000:=ok2.2.1
     have b4:st2.out.next<1000:=ok2.1
     have HP1:=hideq hp1
     have HP2:=hideq hp2
     clear hp hp1 hp2 ho2 ok2
     go_enter Tryz.func187,Tryz.ntmps187
     go_wp2_with fail
     refine (take_yes _ rb g cap ws st _ hR b1 u1).mono ?_
     rintro e w1 ⟨rfl,hR1,hK1⟩
     have d2:=hR1.c2
     have f2:=hR1.fz 2
     go_wp2_with fail
     refine (IH.out f0 (by omega) _ st.adv.inn x st2 (hR1.set2 (st.adv.around+1) (by simp)) HP1.out).mono ?_
     rintro e w2 ⟨v2,rfl,hE2,hR2,hK2⟩
     have hK3:Keep rb w w2:=(hK1.setCell 2 _).trans hK2
     clear d2 f2 hK1 hK2 hR1 hR HP1
     have d2:=hR2.c2
     have f2:=hR2.fz 2
     have hR3:=hR2.set2 (st2.around-1) (out_cast out2)
     have hlt:=hR2.lt
     cases x with
     | none=>
      rw [show v2=Value.pointer none from hE2]
      clear hE2
      have e:=HP2.out
      simp only [Option.some.injEq,Prod.mk.injEq] at e
      obtain ⟨rfl,rfl⟩:=e
      go_wp2_with fail
      go_ret
      exact Post.nil hR3 (hK3.setCell 2 _)
     | some x=>
      obtain ⟨⟨b5,hb5⟩,hE6⟩:=hE2
      rw [hb5]
      rw [hb5] at hE6
      clear hb5
      have hK4:Keep rb w2 (w2.setCell ⟨rb,2,none⟩ (.int .i64 ((st2.around:Int)-1))):=(Keep.refl _ _).setCell 2 _
      have e:=HP2.out
      clear HP2
      cases u2:Rd.tk ws st2.out ⟨#[41]⟩
      ·simp only [u2,cond_false,Option.some.injEq,Prod.mk.injEq] at e
       obtain ⟨rfl,rfl⟩:=e
       go_wp2_with fail
       refine (take_no _ rb g cap ws st2.out _ hR3 b4 u2).mono ?_
       rintro e w5 ⟨rfl,hR5,hK6⟩
       go_wp2_with fail
       go_ret
       exact Post.nil hR5 ((hK3.setCell 2 _).trans hK6)
      ·simp only [u2,cond_true,Option.some.injEq,Prod.mk.injEq] at e
       obtain ⟨rfl,rfl⟩:=e
       go_wp2_with fail
       refine (take_yes _ rb g cap ws st2.out _ hR3 b4 u2).mono ?_
       rintro e w5 ⟨rfl,hR5,hK6⟩
       go_wp2_with fail
       go_ret
       exact ⟨_,rfl,⟨⟨b5,rfl⟩,Enc.keep (hK4.trans hK6) hE6⟩,hR5,(hK3.setCell 2 _).trans hK6⟩
 all_goals omega
open Go.RowKit
theorem leaf_ok {t:Rd.Tr}{st st1:Rd.St}{y:Option Rd.Tr×Rd.St}(h:(bif st.okB then some (some t,st1) else none)=some y):st.ok/\y=(some t,st1):=by
 cases ho:st.okB with
 | false=>rw [ho] at h;cases h
 | true=>
  rw [ho] at h
  exact ⟨Rd.St.okB_ok ho,(Option.some.inj h).symm⟩
theorem name_step (rb g cap:Nat)(ws:List Rd.Wd)(f:Nat)(hws:WsOk ws)(IH:Hid (Said rb g cap ws 187 6 f))(w:World)(k:Int)(st:Rd.St)(res:Option Rd.Tr)(st':Rd.St)(hR:Rdr w rb g cap ws st)(b1:st.next<1000)
  (hp:Rd.nameOf ws k st (fun s=>Rd.parse ws f 6 none s)=some (res,st')):Calls Tryz.prog 186 #[.pointer (some ⟨rb,0,none⟩),.int .i64 k] w (Post rb g cap ws w res st'):=by
 unfold Rd.nameOf at hp
 have HWS:=hideq hws
 clear hws
 cases u0:(k==0)
 ·have d1:=hR.c1
  have f1:=hR.fz 1
  have hR1:=hR.set1 (st.next+1) (m:=(st.next:Int)+1) (by simp)
  have hK1:Keep rb w (w.setCell ⟨rb,1,none⟩ (.int .i64 ((st.next:Int)+1))):=(Keep.refl _ _).setCell 1 _
  have hlt:=hR1.lt
  cases u2:(k==2)
  ·cases u3:(k==3)
   ·cases u4:(k==4)
    ·rw [u0,u2,u3,u4] at hp
     simp only [cond_false,Bool.or_self] at hp
     obtain ⟨x,st2,hp1,hp2⟩:=next_some hp
     have HP1:=hideq hp1
     have HP2:=hideq hp2
     clear hp hp1 hp2
     go_enter Tryz.func186,Tryz.ntmps186
     go_wp2_with fail
     refine (IH.out _ st.adv x st2 hR1 HP1.out).mono ?_
     rintro e w2 ⟨v2,rfl,hE2,hR2,hK2⟩
     have hlt2:=hR2.lt
     clear hR hR1 d1 f1
     cases x with
     | none=>
      rw [show v2=Value.pointer none from hE2]
      clear hE2
      have e:=HP2.out
      simp only [Rd.unaryOf,Option.some.injEq,Prod.mk.injEq] at e
      obtain ⟨rfl,rfl⟩:=e
      go_wp2_with fail
      refine (unary_nil _ _ _).mono ?_
      rintro e w5 ⟨rfl,rfl⟩
      go_wp2_with fail
      go_ret
      exact Post.nil hR2 (hK1.trans hK2)
     | some x=>
      obtain ⟨⟨b4,hb4⟩,hE6⟩:=hE2
      rw [hb4]
      rw [hb4] at hE6
      clear hb4
      obtain ⟨ok3,hy⟩:=unary_ok HP2.out
      simp only [Prod.mk.injEq] at hy
      obtain ⟨rfl,rfl⟩:=hy
      clear HP2
      go_wp2_with fail
      refine (unary_some _ rb g cap ws st2 _ _ hR2 ok3).mono ?_
      rintro e w5 ⟨rfl,hR5,hK6,hnew⟩
      go_wp2_with fail
      go_ret
      exact ⟨_,rfl,enc_node (by omega) hnew (Or.inl ⟨rfl,rfl⟩) (Enc.keep hK6 hE6) rfl,hR5,(hK1.trans hK2).trans hK6⟩
    ·rw [u0,u2,u3,u4] at hp
     simp only [cond_true,cond_false,Bool.or_self] at hp
     have HP:=hideq hp
     clear hp
     go_enter Tryz.func186,Tryz.ntmps186
     go_wp2_with fail
     refine (continued_any _ rb g cap ws st.adv hR1 HWS.out res st' HP.out).mono ?_
     rintro e w2 ⟨v2,rfl,hE2,hR2,hK2⟩
     go_wp2_with fail
     go_ret
     exact ⟨_,rfl,hE2,hR2,hK1.trans hK2⟩
   ·rw [u0,u2,u3] at hp
    simp only [cond_true,cond_false,Bool.or_true] at hp
    obtain ⟨ok,hy⟩:=leaf_ok hp
    simp only [Prod.mk.injEq] at hy
    obtain ⟨rfl,rfl⟩:=hy
    clear hp
    go_enter Tryz.func186,Tryz.ntmps186
    go_wp2_with fail
    refine (leaf_any _ rb g cap ws st.adv _ (hR1.alloc _) ok).mono ?_
    rintro e w2 ⟨rfl,hR2,hK2⟩
    have hnew:=block_new (b:=w.heap.size) hK2 (size_set _ _ _).symm (by have:=hR.lt;omega)
    go_wp2_with fail
    go_ret
    exact ⟨_,rfl,enc_node (by have:=hR.lt;omega) hnew (Or.inl ⟨rfl,rfl⟩) rfl rfl,hR2,(hK1.alloc _).trans hK2⟩
  ·rw [u0,u2] at hp
   simp only [cond_true,cond_false,Bool.true_or] at hp
   obtain ⟨ok,hy⟩:=leaf_ok hp
   simp only [Prod.mk.injEq] at hy
   obtain ⟨rfl,rfl⟩:=hy
   clear hp
   go_enter Tryz.func186,Tryz.ntmps186
   go_wp2_with fail
   refine (leaf_any _ rb g cap ws st.adv _ (hR1.alloc _) ok).mono ?_
   rintro e w2 ⟨rfl,hR2,hK2⟩
   have hnew:=block_new (b:=w.heap.size) hK2 (size_set _ _ _).symm (by have:=hR.lt;omega)
   go_wp2_with fail
   go_ret
   exact ⟨_,rfl,enc_node (by have:=hR.lt;omega) hnew (Or.inl ⟨rfl,rfl⟩) rfl rfl,hR2,(hK1.alloc _).trans hK2⟩
 ·rw [u0] at hp
  simp only [cond_true,Option.some.injEq,Prod.mk.injEq] at hp
  obtain ⟨rfl,rfl⟩:=hp
  go_enter Tryz.func186,Tryz.ntmps186
  go_wp2_with fail
  go_ret
  exact Post.nil hR (Keep.refl _ _)
theorem atom_step (rb g cap:Nat)(ws:List Rd.Wd)(f:Nat)(hws:WsOk ws)(IH:Hid (∀ k,k<f->Said rb g cap ws 187 6 k)):Said rb g cap ws 170 5 f:=by
 intro w st res st' hR hp
 obtain ⟨f0,rfl⟩:∃ f0,f=f0+1:=by
  cases f with
  | zero=>cases hp
  | succ f0=>exact ⟨f0,rfl⟩
 rw [Rd.parse] at hp
 cases ho:st.okB with
 | false=>rw [ho] at hp;cases hp
 | true=>
  rw [ho] at hp
  simp only [cond_true] at hp
  have ok:=Rd.St.okB_ok ho
  have b1:st.next<1000:=ok.1
  clear ho ok
  have hs9:=hws st.next
  have HWS:=hideq hws
  clear hws
  have WX:Hid (∀ W,Rdr W rb g cap ws st->Calls Tryz.prog 65 #[.pointer (some ⟨rb,0,none⟩)] W fun e w'=>e=.returned (.agg #[.int .i64 (Rd.wordAt ws st.next).kind,.string (Rd.wordAt ws st.next).text,.int .i64 (Rd.wordAt ws st.next).pos])/\Below W.heap.size W w'):=fun W hW=>word_any W rb g cap ws st hW
  generalize Rd.wordAt ws st.next=x at*
  have HS9:=hideq hs9
  clear hs9
  cases u1:(x.kind==1)
  ·cases u2:(x.kind==2)
   ·rw [u1,u2] at hp
    simp only [cond_false] at hp
    have HP:=hideq hp
    clear hp
    go_enter Tryz.func170,Tryz.ntmps170
    go_wp2_with fail
    refine (WX.out _ hR).mono ?_
    rintro e w1 ⟨rfl,hb1⟩
    have hR1:=hR.below hb1
    go_wp2_with fail
    refine (IH.out f0 (by omega) _ st res st' (hR1.alloc _) HP.out).mono ?_
    rintro e w2 ⟨v2,rfl,hE2,hR2,hK2⟩
    go_wp2_with fail
    go_ret
    exact ⟨_,rfl,hE2,hR2,((Keep.of_below hb1).alloc _).trans hK2⟩
   ·rw [u1,u2] at hp
    simp only [cond_true,cond_false] at hp
    have HP:=hideq hp
    clear hp
    have IB:=hideq (IH.out f0 (by omega))
    go_enter Tryz.func170,Tryz.ntmps170
    go_wp2_with fail
    refine (WX.out _ hR).mono ?_
    rintro e w1 ⟨rfl,hb1⟩
    have hR1:=hR.below hb1
    go_wp2_with (go_at_call 185;refine (named_any _ _).mono ?_;rintro e w' ⟨rfl,rfl⟩)
    refine (name_step rb g cap ws f0 HWS.out IB _ _ st res st' (hR1.alloc _) b1 HP.out).mono ?_
    rintro e w2 ⟨v2,rfl,hE2,hR2,hK2⟩
    go_wp2_with fail
    go_ret
    exact ⟨_,rfl,hE2,hR2,((Keep.of_below hb1).alloc _).trans hK2⟩
  ·have hs:x.text.size<=9:=HS9.out (by simpa using u1)
   rw [u1] at hp
   simp only [cond_true] at hp
   obtain ⟨ok,hy⟩:=leaf_ok hp
   simp only [Prod.mk.injEq] at hy
   obtain ⟨rfl,rfl⟩:=hy
   clear hp
   go_enter Tryz.func170,Tryz.ntmps170
   go_wp2_with fail
   refine (WX.out _ hR).mono ?_
   rintro e w1 ⟨rfl,hb1⟩
   have hR1:=hR.below hb1
   have d1:=hR1.c1
   have f1:=hR1.fz 1
   have l1:=hR1.lt
   go_wp2_with (go_at_call 183;refine (value_any _ _ _ _ hs).mono ?_;rintro e w' ⟨rfl,rfl⟩)
   refine (leaf_any _ rb g cap ws st.adv _ ((((hR1.set1 (st.next+1) (by simp)).alloc _).alloc _).alloc _) ok).mono ?_
   rintro e w2 ⟨rfl,hR2,hK2⟩
   have hnew:=block_new (b:=w1.heap.size+1+1) hK2 (by simp [size_set]) (by omega)
   go_wp2_with fail
   go_ret
   exact ⟨_,rfl,enc_node (by omega) hnew (Or.inl ⟨rfl,rfl⟩) rfl rfl,hR2,(((((Keep.of_below hb1).setCell 1 _).alloc _).alloc _).alloc _).trans hK2⟩
end Go.Proofs.YteghhlfmcjmnoaaGreatDoor
