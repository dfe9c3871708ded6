/-
  TREES IN MEMORY; the walk of the reader's term.
-/
import Derived.Test.YtmepffenlgedbaaDoorMethods
namespace Go.Proofs.YtmepffenlgedbaaDoor
open Go.RowKit
open Go.Deep (BT)

/-- The terms of a cf lie at the slice tv (none: the nil slice). -/
def TermsAt (rb : Nat) (w : World) (ts : List Int) (tv : Value) : Prop :=
  (ts = [] ∧ tv = .slice none 0 0) ∨ ∃ tb cap cur, tv = .slice (some ⟨tb, 0, none⟩) ts.length cap ∧ tb ≠ rb ∧ w.heap[tb]? = some (.cells cur 3 (0, 0)) ∧ ts.length ≤ cap ∧ cur.toList.take ts.length = ts.map (Value.int .i64)

/-- The tree lies at the pointer v, apart from block rb. -/
def Enc (rb : Nat) (w : World) : Rd.Tr → Value → Prop
  | .nil, v => v = .pointer none
  | .node _ _ a l r, v => ∃ b tv lv rv, v = .pointer (some ⟨b, 0, none⟩) ∧ b ≠ rb ∧ w.heap[b]? = some (.cells #[.int .i64 a.1, .int .i64 a.2.1, tv, lv, rv] 74 (0, 0)) ∧ TermsAt rb w a.2.2 tv ∧ Enc rb w l lv ∧ Enc rb w r rv

def EncO (rb : Nat) (w : World) : Option Rd.Tr → Value → Prop
  | none, v => v = .pointer none
  | some t, v => (∃ b, v = .pointer (some ⟨b, 0, none⟩)) ∧ Enc rb w t v

theorem TermsAt.keep {rb : Nat} {w w' : World} {ts : List Int} {tv : Value} (h : TermsAt rb w ts tv) (hk : Keep rb w w') : TermsAt rb w' ts tv := by
  rcases h with h | ⟨tb, cap, cur, h1, h2, h3, h4⟩
  · exact Or.inl h
  · exact Or.inr ⟨tb, cap, cur, h1, h2, by rw [hk.block tb (heap_lt h3) h2]; exact h3, h4⟩

theorem Enc.keep {rb : Nat} {w w' : World} (hk : Keep rb w w') : ∀ {t : Rd.Tr} {v : Value}, Enc rb w t v → Enc rb w' t v := by
  intro t
  induction t with
  | nil => intro v h; exact h
  | node _ _ a l r ihl ihr =>
    intro v h
    obtain ⟨b, tv, lv, rv, h1, h2, h3, h4, h5, h6⟩ := h
    exact ⟨b, tv, lv, rv, h1, h2, by rw [hk.block b (heap_lt h3) h2]; exact h3, h4.keep hk, ihl h5, ihr h6⟩

theorem EncO.keep {rb : Nat} {w w' : World} (hk : Keep rb w w') {t : Option Rd.Tr} {v : Value} (h : EncO rb w t v) : EncO rb w' t v := by
  cases t with
  | none => exact h
  | some t => exact ⟨h.1, Enc.keep hk h.2⟩

/-- A new node that is none of the reader's. -/
theorem enc_node {rb b : Nat} {w : World} {k v : Int} {ts : List Int} {tv lv rv : Value} {l r : Rd.Tr} (hb : b ≠ rb) (h : w.heap[b]? = some (.cells #[.int .i64 k, .int .i64 v, tv, lv, rv] 74 (0, 0)))
    (ht : TermsAt rb w ts tv) (hl : Enc rb w l lv) (hr : Enc rb w r rv) : EncO rb w (some (.node 0 0 (k, v, ts) l r)) (.pointer (some ⟨b, 0, none⟩)) :=
  ⟨⟨b, rfl⟩, b, tv, lv, rv, rfl, hb, h, ht, hl, hr⟩

/-- Words that are numbers have nine digits at most. -/
def WsOk (ws : List Rd.Wd) : Prop := ∀ n, (Rd.wordAt ws n).kind = 1 → (Rd.wordAt ws n).text.size ≤ 9

set_option maxHeartbeats 400000 in
theorem term_any (w : World) (rb g cap : Nat) (ws : List Rd.Wd) (st : Rd.St) (h : Rdr w rb g cap ws st) (hn : st.next < 1000) (hws : WsOk ws) :
    Calls Tryd.prog 75 #[.pointer (some ⟨rb, 0, none⟩)] w fun e w' => e = .returned (.int .i64 (Rd.term ws st).1) ∧ Rdr w' rb g cap ws (Rd.term ws st).2 ∧ Keep rb w w' := by
  have key := word_any w rb g cap ws st h
  unfold wagg at key
  have hsz := hws st.next
  have HT : Hid (Rd.term ws st = bif (Rd.wordAt ws st.next).kind == 1 then bif Rd.valTo (Rd.wordAt ws st.next).text (Rd.wordAt ws st.next).text.size == 0 then (0, st) else (Rd.valTo (Rd.wordAt ws st.next).text (Rd.wordAt ws st.next).text.size, st.adv) else (0, st)) := rfl
  clear hws
  generalize Rd.wordAt ws st.next = x at *
  have KEY : Hid (Calls Tryd.prog 37 #[.pointer (some ⟨rb, 0, none⟩)] w fun e w' => e = .returned (.agg #[.int .i64 x.kind, .string x.text, .int .i64 x.pos]) ∧ Below w.heap.size w w') := key
  have HSZ : Hid (x.kind = 1 → x.text.size ≤ 9) := hsz
  clear key hsz
  cases t1 : (x.kind == 1)
  · have t1' : (x.kind != 1) = true := by simp [bne, t1]
    go_enter Tryd.func75, Tryd.ntmps75
    go_wp2_with fail
    refine (KEY.out).mono ?_
    rintro e w1 ⟨rfl, hb⟩
    go_wp2_with fail
    go_ret
    rw [HT.out, t1]
    exact ⟨rfl, (h.below hb).alloc _, (Keep.of_below hb).alloc _⟩
  · have hs9 : x.text.size ≤ 9 := HSZ.out (by simpa using t1)
    cases t2 : (Rd.valTo x.text x.text.size == 0)
    all_goals
      go_enter Tryd.func75, Tryd.ntmps75
      go_wp2_with fail
      refine (KEY.out).mono ?_
      rintro e w1 ⟨rfl, hb⟩
      have h1 := h.below hb
      have d1 := h1.c1
      have f1 := h1.fz 1
      have l1 := h1.lt
      go_wp2_with (go_at_call 62; refine (value_any _ _ _ _ hs9).mono ?_; rintro e w' ⟨rfl, rfl⟩)
      go_ret
      rw [HT.out, t1, t2]
    · exact ⟨rfl, ((h1.set1 (st.next + 1) (by simp)).alloc _).alloc _, (((Keep.of_below hb).setCell 1 _).alloc _).alloc _⟩
    · exact ⟨ret_int (by simpa using t2), (h1.alloc _).alloc _, ((Keep.of_below hb).alloc _).alloc _⟩

theorem take_yes (w : World) (rb g cap : Nat) (ws : List Rd.Wd) (st : Rd.St) (c : ByteArray) (h : Rdr w rb g cap ws st) (hn : st.next < 1000) (t : Rd.tk ws st c = true) :
    Calls Tryd.prog 46 #[.pointer (some ⟨rb, 0, none⟩), .string c] w fun e w' => e = .returned (.bool true) ∧ Rdr w' rb g cap ws st.adv ∧ Keep rb w w' := by
  have := take_any w rb g cap ws st c h hn
  rw [t] at this
  exact this

theorem take_no (w : World) (rb g cap : Nat) (ws : List Rd.Wd) (st : Rd.St) (c : ByteArray) (h : Rdr w rb g cap ws st) (hn : st.next < 1000) (t : Rd.tk ws st c = false) :
    Calls Tryd.prog 46 #[.pointer (some ⟨rb, 0, none⟩), .string c] w fun e w' => e = .returned (.bool false) ∧ Rdr w' rb g cap ws st ∧ Keep rb w w' := by
  have := take_any w rb g cap ws st c h hn
  rw [t] at this
  exact this

/-- What a method of the reader that reads a part answers. -/
def Post (rb g cap : Nat) (ws : List Rd.Wd) (w : World) (res : Option Rd.Tr) (st' : Rd.St) (e : Ending) (w' : World) : Prop :=
  ∃ v, e = .returned v ∧ EncO rb w' res v ∧ Rdr w' rb g cap ws st' ∧ Keep rb w w'

theorem Post.nil {rb g cap : Nat} {ws : List Rd.Wd} {w w' : World} {st' : Rd.St} (h : Rdr w' rb g cap ws st') (hk : Keep rb w w') : Post rb g cap ws w none st' (.returned (.pointer none)) w' :=
  ⟨_, rfl, rfl, h, hk⟩

theorem own_keep {rb : Nat} {wr w' : World} {B e size n : Nat} {v : Value} {xs : List Value} (hown : wr.ownsRow B e size v n xs) (hk : Keep rb wr w') (hrb : rb < B) : w'.ownsRow B e size v n xs := by
  obtain ⟨h1, h2⟩ := hown
  refine ⟨h1, ?_⟩
  rcases h2 with h2 | ⟨g, cap, cur, hv, hg, hh, r⟩
  · exact Or.inl h2
  · exact Or.inr ⟨g, cap, cur, hv, hg, by rw [hk.block g (heap_lt hh) (by omega)]; exact hh, r⟩

theorem keep_own {rb : Nat} {w wr w3 : World} {B e size n : Nat} {l : Value} {xs : List Value} (hown : wr.ownsRow B e size l n xs) (hk : Keep rb w wr) (hB : w.heap.size ≤ B) (o : Obj) (hg : (wr.alloc o).grownBy w3 l.ownBlock) : Keep rb w w3 := by
  have ha := hk.alloc o
  refine ⟨hg.os.trans ha.os, hg.tape.trans ha.tape, hg.output.trans ha.output, Nat.le_trans ha.size hg.size, fun k hk' hn => ?_⟩
  rw [hg.block k (Nat.lt_of_lt_of_le hk' ha.size) ?_]
  · exact ha.block k hk' hn
  · intro e
    rcases hown.2 with ⟨h, _⟩ | ⟨g, cap, cur, h, hg', _⟩
    · rw [h] at e; cases e
    · rw [h] at e
      simp only [Value.ownBlock, Option.some.injEq] at e
      omega

theorem rdr_own {rb g cap : Nat} {ws : List Rd.Wd} {st : Rd.St} {wr w3 : World} {B e size n : Nat} {l : Value} {xs : List Value} (h : Rdr wr rb g cap ws st) (hown : wr.ownsRow B e size l n xs) (hrb : rb < B) (hgB : g < B) (o : Obj) (hg : (wr.alloc o).grownBy w3 l.ownBlock) : Rdr w3 rb g cap ws st := by
  have h' := h.alloc o
  have key : ∀ k, k < B → k < (wr.alloc o).heap.size → w3.heap[k]? = (wr.alloc o).heap[k]? := by
    intro k hk hs
    refine hg.block k hs ?_
    intro e
    rcases hown.2 with ⟨h, _⟩ | ⟨g, cap, cur, h, hg', _⟩
    · rw [h] at e; cases e
    · rw [h] at e
      simp only [Value.ownBlock, Option.some.injEq] at e
      omega
  obtain ⟨cur, h1, h2⟩ := h'.row
  exact ⟨by rw [key rb hrb h'.lt]; exact h'.rd, ⟨cur, by rw [key g hgB (heap_lt h1)]; exact h1, h2⟩, h'.ne⟩

theorem terms_own {rb B n : Nat} {w : World} {v : Value} {ts : List Int} (hown : w.ownsRow B 3 1 v n (ts.map (Value.int .i64))) (hrb : rb < B) (hn : n = ts.length) (hp : 0 < n) : TermsAt rb w ts v := by
  rcases hown.2 with ⟨_, h⟩ | ⟨g, cap, cur, h, hg', h3, h4, _, _, h5⟩
  · omega
  · subst hn
    exact Or.inr ⟨g, cap, cur, h, by omega, h3, h4, by simpa using h5⟩

end Go.Proofs.YtmepffenlgedbaaDoor
