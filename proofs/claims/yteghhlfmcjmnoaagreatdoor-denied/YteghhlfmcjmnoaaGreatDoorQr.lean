import Derived.Test.YteghhlfmcjmnoaaGreatDoorJoin
import Derived.Test.YteghhlfmcjmnoaaGreatDoorQo
import Derived.Test.YteghhlfmcjmnoaaGreatDoorCont
import Derived.Lib.ItoaNum
set_option linter.unusedSimpArgs false
namespace Go.Proofs.YteghhlfmcjmnoaaGreatDoor
open Go.RowKit
def ExprAt (B : Nat) (w : World) (x : Option Rd.Tr) (v : Value) : Prop :=
  match x with
  | none => v = .pointer none
  | some t => ∃ rb xb rv, v = .pointer (some ⟨xb, 0, none⟩) ∧ B ≤ rb ∧ B ≤ xb ∧ w.heap[xb]? = some (.cells #[rv] 74 (0, 0)) ∧ EncO rb w (some t) rv
def ExprPost (w : World) (x : Option Rd.Tr × Int × Int) (e : Ending) (w' : World) : Prop :=
  ∃ v, e = .returned (.tuple #[v, .int .i64 x.2.1, .int .i64 x.2.2]) ∧ ExprAt w.heap.size w' x.1 v ∧ Below w.heap.size w w'
theorem read_ok {f : Nat} {s : ByteArray} {x : Option Rd.Tr × Int × Int} (h : Rd.read f s = some x) : (x.1 = none ∧ (x.2.1 != 0) = true) ∨ (∃ t, x = (some t, 0, 0)) := by
  unfold Rd.read at h
  cases h1 : decide (120 < s.size) with
  | true =>
    rw [h1] at h
    simp only [cond_true, Option.some.injEq] at h
    subst h
    exact Or.inl ⟨rfl, rfl⟩
  | false =>
    rw [h1] at h
    simp only [cond_false] at h
    split at h
    · cases h
    · simp only [Option.some.injEq] at h
      subst h
      exact Or.inl ⟨rfl, rfl⟩
    · rename_i t st _
      generalize ((Rd.wordAt (Rd.split s (s.size + 1) 0) st.next).kind == 0) = b at h
      generalize (decide (12 < st.deepest) || decide (40 < st.nodes)) = c at h
      cases b
      · simp only [cond_false, Option.some.injEq] at h
        subst h
        exact Or.inl ⟨rfl, rfl⟩
      · cases c
        · simp only [cond_true, cond_false, Option.some.injEq] at h
          exact Or.inr ⟨t, h.symm⟩
        · simp only [cond_true, Option.some.injEq] at h
          subst h
          exact Or.inl ⟨rfl, rfl⟩
set_option maxHeartbeats 1000000 in
theorem exprRead_any (f : Nat) (s : ByteArray) (w : World) (x : Option Rd.Tr × Int × Int) (hm : s.size ≤ maxLen) (hp : Rd.read f s = some x) : Calls Tryz.prog 19 #[.string s] w (ExprPost w x) := by
  have TR := hideq (treeRead_any f s w x hm hp)
  rcases read_ok hp with ⟨h1, h2⟩ | ⟨t, rfl⟩
  · obtain ⟨t, er, pl⟩ := x
    simp only at h1 h2
    subst h1
    clear hp hm
    go_enter Tryz.func19, Tryz.ntmps19
    go_wp2_with fail
    refine (TR.out).mono ?_
    rintro e w1 ⟨rb, v, rfl, hrb, hE, hb⟩
    go_wp2_with fail
    go_ret3
    exact ⟨_, rfl, rfl, hb⟩
  · clear hp hm
    go_enter Tryz.func19, Tryz.ntmps19
    go_wp2_with fail
    refine (TR.out).mono ?_
    rintro e w1 ⟨rb, v, rfl, hrb, hE, hb⟩
    obtain ⟨⟨b, hv⟩, hE2⟩ := hE
    rw [hv]
    rw [hv] at hE2
    clear hv
    have hsz := hb.size
    go_wp2_with fail
    go_ret3
    exact ⟨_, rfl, ⟨rb, w1.heap.size, _, rfl, hrb, hsz, cells_new _ _, ⟨b, rfl⟩, Enc.keep ((Keep.refl _ _).alloc _) hE2⟩, hb.alloc hsz _⟩
end Go.Proofs.YteghhlfmcjmnoaaGreatDoor
set_option linter.unusedSimpArgs false
set_option linter.unusedVariables false
namespace Go.Proofs.YteghhlfmcjmnoaaGreatDoor
open Go.RowKit
theorem own_slP {w : World} {B e size n : Nat} {v : Value} {xs : List Value} (h : w.ownsRow B e size v n xs) : ∃ ao ln cp, v = .slice ao ln cp := by
  rcases h.2 with ⟨rfl, _⟩ | ⟨g, cap, cur, rfl, _⟩
  · exact ⟨_, _, _, rfl⟩
  · exact ⟨_, _, _, rfl⟩
theorem cellP_lt {w : World} {a : Addr} {v : Value} (h : w.cell? a = some v) : a.block < w.heap.size := by
  unfold World.cell? at h
  split at h
  · rename_i e
    exact heap_lt e
  · cases h
theorem take_next {ts : List Int} {c : Nat} (h : c < ts.length) : ts.take (c + 1) = ts.take c ++ [ts[c]] := (List.take_append_getElem h).symm
def cstRel (w : World) (ts : List Int) (l i : Value) (wr : World) : Prop :=
  ∃ c : Nat, c ≤ ts.length ∧ i = .int .i64 c ∧ wr.ownsRow w.heap.size 3 1 l c ((ts.take c).map (Value.int .i64)) ∧ Below w.heap.size w wr
set_option maxRecDepth 100000 in
set_option maxHeartbeats 1000000 in
theorem constant_walk (w : World) (b : Nat) (kd x : Int) (ts : List Int) (ao : Option Addr) (cap : Nat) (lv rv : Value) (hn : ts.length ≤ 1000) (hb : w.heap[b]? = some (.cells #[.int .i64 kd, .int .i64 x, .slice ao ts.length cap, lv, rv] 163 (0, 0))) (hc : ∀ k, (h : k < ts.length) → ∃ tb, ao = some ⟨tb, 0, none⟩ ∧ w.cell? ⟨tb, k, none⟩ = some (.int .i64 ts[k])) :
    Calls Tryz.prog 103 #[.pointer (some ⟨b, 0, none⟩)] w fun e w' => ∃ l, ∃ m, e = .returned (.pointer (some ⟨m, 0, none⟩)) ∧ w'.ownsRow w.heap.size 3 1 l ts.length (ts.map (Value.int .i64)) ∧ w'.heap[m]? = some (.cells #[.int .i64 kd, .bool false, .slice none 0 0, .bool false, .slice none 0 0, l, .pointer none, .pointer none] 93 (0, 0)) ∧ Below w.heap.size w w' := by
  obtain ⟨i, hi, hz, hsize, hby⟩ := info_parts infoInt
  have k0 : w.cell? ⟨b, 0, none⟩ = some (.int .i64 kd) := cell_of_block hb rfl
  have k2 : w.cell? ⟨b, 2, none⟩ = some (.slice ao ts.length cap) := cell_of_block hb rfl
  have hbl := heap_lt hb
  clear hb
  go_enter Tryz.func103, Tryz.ntmps103
  go_wp2_with fail
  go_loopw [3, 4] (fun l i wr => cstRel w ts l i wr) (fun _ i _ => ts.length - (intOf i).toNat)
  case atStart =>
    refine ⟨0, Nat.zero_le _, rfl, ⟨rfl, Or.inr ⟨w.heap.size, 0, #[], rfl, Nat.le_refl _, cells_new _ _, Nat.le_refl _, by decide, rfl, rfl⟩⟩, (Below.refl _ _).alloc (Nat.le_refl _) _⟩
  case round =>
    obtain ⟨c, hc1, rfl, hown, hbel⟩ := hrel
    have hbs := hbel.size
    have d0 := (hbel.cell (cellP_lt k0)).trans k0
    have d2 := (hbel.cell (cellP_lt k2)).trans k2
    by_cases hlt : c < ts.length
    · obtain ⟨tb, rfl, ht⟩ := hc c hlt
      have dt := (hbel.cell (cellP_lt ht)).trans ht
      have TK := hid (take_next hlt)
      obtain ⟨ao3, ln3, cp3, rfl⟩ := own_slP hown
      have hci : (c : Int) < ts.length := by omega
      clear ht hc
      generalize ts[c] = x at *
      go_wp2_with (at_builtin; (refine wpList_append_own _ rfl _ _ 91 rfl w.heap.size 3 i (.int .i64 0) 1 8 Tryz.underlying91 hi hz hsize hby rfl (by decide) _ _ _ rfl (hown.alloc _) ⟨wr.heap.size, 0, none⟩ 1 1 [.int .i64 x] rfl rfl (cell_one_new _ _ _) (fun u hu => by simp at hu; subst hu; rfl) (by unfold maxLen; omega) (by omega) (by simp; omega) ?_; intro v' w6 hown6 hgrow6 hnil6; have B6 := hid (below_own hown hbel hbel.size _ hgrow6); have O6 := hid hown6; clear hnil6 hgrow6 hown6))
      go_roundw
      case rel =>
        refine ⟨c + 1, by omega, by go_num, ?_, B6.out⟩
        rw [TK.out, List.map_append]
        exact O6.out
      case measure => simp [intOf]; omega
    · have hc2 : c = ts.length := by omega
      have hci : ¬ (c : Int) < ts.length := by omega
      have O6 := hid hown
      obtain ⟨ao3, ln3, cp3, rfl⟩ := own_slP hown
      clear hown
      go_wp2_with fail
      go_ret
      refine ⟨_, _, rfl, ?_, cells_new _ _, hbel.alloc hbs _⟩
      have := (O6.out).alloc (.cells #[.int .i64 kd, .bool false, .slice none 0 0, .bool false, .slice none 0 0, .slice ao3 ln3 cp3, .pointer none, .pointer none] 93 (0, 0))
      rw [hc2, List.take_length] at this
      exact this
end Go.Proofs.YteghhlfmcjmnoaaGreatDoor
set_option linter.unusedSimpArgs false
set_option linter.unusedVariables false
namespace Go.Proofs.YteghhlfmcjmnoaaGreatDoor
open Go.RowKit
namespace Ab
open Rf (Nd Inv NInv Wt)
def sT (kd x : Int) (tv lv rv : Value) (tm : List AT) : AS := ⟨tm, [(0, ext [.int .i64 kd, .sint .i64 x, .lit tv, .lit lv, .lit rv] 163)], 1, [], []⟩
def sU (tm : List AT) : AS := ⟨tm, [], 0, [], []⟩
def stT (ks : List (K (List AT))) : Bool := atOp (fun o => opCalls 66 o || opCalls 103 o || opCalls 104 o || opCalls 105 o || opCalls 106 o) ks
abbrev ofT : List AT := P0 :: List.replicate 78 .und
noncomputable def tRun (kt : List Nat) (ks : List (K (List AT))) (s : AS) : Option XT := (run Z (tabSp tP) bP (drawA Z (tabSp tP)) stT 400 ks s).bind (outX (nrm [0] [] 1 []) (nrm [0] kt 1 []))
noncomputable def tK' : List (K (List AT)) := [.code (bodyOf Tryz.f66), .top Tryz.f66]
noncomputable def tTail (ks : List (K (List AT))) (s : AS) : Option Tr := run Z (tabSp tP) bP (drawA Z (tabSp tP)) (fun _ => false) 50 ks s
abbrev tuT (v : Value) (e : Int) : AT := tupE (.lit v) e
noncomputable def o1 (x : Int) (tv lv rv : Value) : Option Tr := run Z (tabSp tP) bP (drawA Z (tabSp tP)) (fun _ => false) 400 tK' (sT 1 x tv lv rv ofT)
noncomputable def o1S (x : Int) (tv lv rv : Value) : AS := (((o1 x tv lv rv).bind (leafT [])).map (·.2)).getD ⟨[], [], 0, [], []⟩
section
variable (x kd e : Int) (tv lv rv v v1 v2 : Value)
set_option maxRecDepth 100000 in
theorem u_1 : o1 x tv lv rv = some (.need [x.natAbs < 1000000000000000000] (.ret (tupE (.ptr 2 0) 0) (o1S x tv lv rv))) := by kernel_rfl
set_option maxRecDepth 100000 in
theorem u_1p : IsPt (o1S x tv lv rv) 2 1 [x, 1] (.lit nilP) (.lit nilP) := ⟨by kernel_rfl, by kernel_rfl⟩
set_option maxRecDepth 100000 in
theorem u_1c : clean (o1S x tv lv rv) = true := by kernel_rfl
set_option maxRecDepth 100000 in
theorem u_C {kd : Int} (h : kd = 2 ∨ kd = 3 ∨ kd = 4) : tRun [25] tK' (sT kd x tv lv rv ofT) = some (.stp (bef (pD 26) Tryz.f66) (sT kd x tv lv rv (slot [(25, P0)] 0 79))) := by
  rcases h with rfl | rfl | rfl <;> kernel_rfl
set_option maxRecDepth 100000 in
theorem u_L {kd : Int} (h : kd = 5 ∨ kd = 6 ∨ kd = 7 ∨ kd = 8 ∨ kd = 9 ∨ kd = 10 ∨ kd = 11 ∨ kd = 12 ∨ kd = 13) : tRun [0, 31] tK' (sT kd x tv lv rv ofT) = some (.stp (bef (pD 32) Tryz.f66) (sT kd x tv lv rv (slot [(0, P0), (31, litT lv)] 0 79))) := by
  rcases h with rfl | rfl | rfl | rfl | rfl | rfl | rfl | rfl | rfl <;> kernel_rfl
set_option maxRecDepth 100000 in
theorem u_L5 : (tTail (aft (pD 32) Tryz.f66) (sU (slot [(32, tuT nilP 5)] 0 79))).bind retL = some (tuT nilP 5, true) := by kernel_rfl
set_option maxRecDepth 100000 in
theorem u_M : tRun [44] (aft (pD 32) Tryz.f66) (sT 5 x tv lv rv (slot [(0, P0), (32, tuT v1 0)] 0 79)) = some (.stp (bef (pD 45) Tryz.f66) (sT 5 x tv lv rv (slot [(44, litT v1)] 0 79))) := by kernel_rfl
set_option maxRecDepth 100000 in
theorem u_F {kd : Int} (h : kd = 10 ∨ kd = 11 ∨ kd = 12 ∨ kd = 13) : tRun [54, 55] (aft (pD 32) Tryz.f66) (sT kd x tv lv rv (slot [(0, P0), (32, tuT v1 0)] 0 79)) = some (.stp (bef (pD 56) Tryz.f66) (sT kd x tv lv rv (slot [(54, .val (.one (.int .i64 kd))), (55, litT v1)] 0 79))) := by
  rcases h with rfl | rfl | rfl | rfl <;> kernel_rfl
set_option maxRecDepth 100000 in
theorem u_B (kk : Rf.Kind) : tRun [0, 4, 63] (aft (pD 32) Tryz.f66) (sT (kdK kk) x tv lv rv (slot [(0, P0), (32, tuT v1 0)] 0 79)) = some (.stp (bef (pD 64) Tryz.f66) (sT (kdK kk) x tv lv rv (slot [(0, P0), (4, litT v1), (63, litT rv)] 0 79))) := by
  cases kk <;> kernel_rfl
set_option maxRecDepth 100000 in
theorem u_B5 : (tTail (aft (pD 64) Tryz.f66) (sU (slot [(64, tuT nilP 5)] 0 79))).bind retL = some (tuT nilP 5, true) := by kernel_rfl
set_option maxRecDepth 100000 in
theorem u_B2 (kk : Rf.Kind) : tRun [73, 74, 75] (aft (pD 64) Tryz.f66) (sT (kdK kk) x tv lv rv (slot [(0, P0), (4, litT v1), (64, tuT v2 0)] 0 79)) = some (.stp (bef (pD 76) Tryz.f66) (sT (kdK kk) x tv lv rv (slot [(73, .val (.one (.int .i64 (kdK kk)))), (74, litT v1), (75, litT v2)] 0 79))) := by
  cases kk <;> kernel_rfl
set_option maxRecDepth 100000 in
theorem y_C : (tTail (aft (pD 26) Tryz.f66) (sU (slot [(26, litT v)] 0 79))).bind retL = some (tuT v 0, true) := by kernel_rfl
set_option maxRecDepth 100000 in
theorem y_M : (tTail (aft (pD 45) Tryz.f66) (sU (slot [(45, litT v)] 0 79))).bind retL = some (tuT v 0, true) := by kernel_rfl
set_option maxRecDepth 100000 in
theorem y_F : (tTail (aft (pD 56) Tryz.f66) (sU (slot [(56, tuT v e)] 0 79))).bind retL = some (tuT v e, true) := by kernel_rfl
set_option maxRecDepth 100000 in
theorem y_B : (tTail (aft (pD 76) Tryz.f66) (sU (slot [(76, tuT v e)] 0 79))).bind retL = some (tuT v e, true) := by kernel_rfl
set_option maxRecDepth 100000 in
theorem z_C : callAt Z (sT kd x tv lv rv (slot [(25, P0)] 0 79)) (bef (pD 26) Tryz.f66) = some (103, [.one (.ptr 0 0)], some 26, aft (pD 26) Tryz.f66) := by kernel_rfl
set_option maxRecDepth 100000 in
theorem z_L : callAt Z (sT kd x tv lv rv (slot [(0, P0), (31, litT lv)] 0 79)) (bef (pD 32) Tryz.f66) = some (66, [.one (.lit lv)], some 32, aft (pD 32) Tryz.f66) := by kernel_rfl
set_option maxRecDepth 100000 in
theorem z_M : callAt Z (sT kd x tv lv rv (slot [(44, litT v1)] 0 79)) (bef (pD 45) Tryz.f66) = some (104, [.one (.lit v1)], some 45, aft (pD 45) Tryz.f66) := by kernel_rfl
set_option maxRecDepth 100000 in
theorem z_F : callAt Z (sT kd x tv lv rv (slot [(54, .val (.one (.int .i64 kd))), (55, litT v1)] 0 79)) (bef (pD 56) Tryz.f66) = some (105, [.one (.int .i64 kd), .one (.lit v1)], some 56, aft (pD 56) Tryz.f66) := by kernel_rfl
set_option maxRecDepth 100000 in
theorem z_B : callAt Z (sT kd x tv lv rv (slot [(0, P0), (4, litT v1), (63, litT rv)] 0 79)) (bef (pD 64) Tryz.f66) = some (66, [.one (.lit rv)], some 64, aft (pD 64) Tryz.f66) := by kernel_rfl
set_option maxRecDepth 100000 in
theorem z_B2 : callAt Z (sT kd x tv lv rv (slot [(73, .val (.one (.int .i64 kd))), (74, litT v1), (75, litT v2)] 0 79)) (bef (pD 76) Tryz.f66) = some (106, [.one (.int .i64 kd), .one (.lit v1), .one (.lit v2)], some 76, aft (pD 76) Tryz.f66) := by kernel_rfl
set_option maxRecDepth 100000 in
theorem fr_of : noFr (bef (pD 26) Tryz.f66) = true ∧ noFr (bef (pD 32) Tryz.f66) = true ∧ noFr (bef (pD 45) Tryz.f66) = true ∧ noFr (bef (pD 56) Tryz.f66) = true ∧ noFr (bef (pD 64) Tryz.f66) = true ∧ noFr (bef (pD 76) Tryz.f66) = true := ⟨by kernel_rfl, by kernel_rfl, by kernel_rfl, by kernel_rfl, by kernel_rfl, by kernel_rfl⟩
end
end Ab
end Go.Proofs.YteghhlfmcjmnoaaGreatDoor
set_option linter.unusedSimpArgs false
namespace Go.Proofs.YteghhlfmcjmnoaaGreatDoor
namespace Rd
open Go.Deep (BT)
def rankK (k : Int) : Int := bif k == 6 || k == 7 then 1 else bif k == 8 || k == 9 then 2 else bif k == 5 then 3 else 4
def sym (k : Int) : List UInt8 :=
  bif k == 2 then [112, 105] else bif k == 3 then [101] else bif k == 4 then [99, 102] else bif k == 10 then [115, 113, 114, 116]
  else bif k == 11 then [101, 120, 112] else bif k == 12 then [108, 110, 49, 112] else bif k == 13 then [97, 116, 97, 110]
  else bif k == 6 then [43] else bif k == 5 || k == 7 then [45] else bif k == 8 then [42] else bif k == 9 then [47] else []
def brk (b : Bool) (x : List UInt8) : List UInt8 := bif b then 40 :: (x ++ [41]) else x
def kindT : Tr → Int
  | .nil => 0
  | .node _ _ a _ _ => a.1
def dec (v : Int) : List UInt8 := Lib.decDigits v.toNat
def sep (k : Nat) : List UInt8 := bif k == 0 then [] else bif k == 1 then [59, 32] else [44, 32]
def termsTo (ts : List Int) : Nat → List UInt8
  | 0 => [99, 102, 91]
  | k + 1 => termsTo ts k ++ (sep k ++ dec (ts.getD k 0))
def termsTxt (ts : List Int) : List UInt8 := termsTo ts ts.length ++ [93]
def txtOf (a : Int × Int × List Int) (kl kr : Int) (x y : List UInt8) : List UInt8 :=
  bif a.1 == 1 then dec a.2.1
  else bif a.1 == 4 then termsTxt a.2.2
  else bif a.1 == 5 then 45 :: brk (decide (rankK kl < 3)) x
  else bif decide (10 ≤ a.1 ∧ a.1 ≤ 13) then sym a.1 ++ 40 :: (x ++ [41])
  else bif decide (6 ≤ a.1 ∧ a.1 ≤ 9) then brk (decide (rankK kl < rankK a.1)) x ++ 32 :: (sym a.1 ++ 32 :: brk (decide (rankK kr < rankK a.1 + 1)) y)
  else sym a.1
def text : Tr → List UInt8
  | .nil => []
  | .node _ _ a l r => txtOf a (kindT l) (kindT r) (text l) (text r)
def numOk (v : Int) : Prop := 0 ≤ v ∧ v < 1000000000
def Wf : Tr → Prop
  | .nil => False
  | .node _ _ a l r =>
    (a.1 = 1 ∧ numOk a.2.1 ∧ a.2.2 = [] ∧ l = .nil ∧ r = .nil) ∨
    ((a.1 = 2 ∨ a.1 = 3) ∧ a.2.1 = 0 ∧ a.2.2 = [] ∧ l = .nil ∧ r = .nil) ∨
    (a.1 = 4 ∧ (∀ x ∈ a.2.2, numOk x) ∧ 2 ≤ a.2.2.length ∧ a.2.2.length ≤ 9 ∧ a.2.1 = 0 ∧ l = .nil ∧ r = .nil) ∨
    ((a.1 = 5 ∨ a.1 = 10 ∨ a.1 = 11 ∨ a.1 = 12 ∨ a.1 = 13) ∧ Wf l ∧ a.2.2 = [] ∧ r = .nil) ∨
    ((a.1 = 6 ∨ a.1 = 7 ∨ a.1 = 8 ∨ a.1 = 9) ∧ Wf l ∧ Wf r ∧ a.2.2 = [])
def cnt : Tr → Nat
  | .nil => 0
  | .node _ _ _ l r => cnt l + cnt r + 1
theorem dec_len {v : Int} (h : numOk v) : (dec v).length ≤ 9 := by
  unfold dec
  rw [Lib.decDigits_length]
  have h1 : v.toNat < 1000000000 := by have := h.2; omega
  generalize v.toNat = u at h1
  have key : ∀ k u, u < 10 ^ (k + 1) → Lib.nDigits u ≤ k + 1 := by
    intro k
    induction k with
    | zero => intro u h; rw [Lib.nDigits_small (by simpa using h)]; omega
    | succ k ih =>
      intro u h
      by_cases h2 : u < 10
      · rw [Lib.nDigits_small h2]; omega
      · rw [Lib.nDigits_big h2]
        have := ih (u / 10) (by rw [Nat.pow_succ] at h ⊢; rw [Nat.pow_succ] at h; omega)
        omega
  exact key 8 u h1
theorem sep_len (k : Nat) : (sep k).length ≤ 2 := by
  unfold sep
  cases k == 0 <;> cases k == 1 <;> simp
theorem sym_len (k : Int) : (sym k).length ≤ 4 := by
  unfold sym
  cases k == 2 <;> cases k == 3 <;> cases k == 4 <;> cases k == 10 <;> cases k == 11 <;> cases k == 12 <;> cases k == 13 <;> (try (simp; done)) <;> cases k == 6 <;> (try (simp; done)) <;> cases k == 5 <;> cases k == 7 <;> cases k == 8 <;> cases k == 9 <;> simp
theorem getD_ok {ts : List Int} (h : ∀ x ∈ ts, numOk x) (k : Nat) : numOk (ts.getD k 0) := by
  unfold List.getD
  cases e : ts[k]? with
  | none => exact ⟨by decide, by decide⟩
  | some x => exact h x (List.mem_of_getElem? e)
theorem termsTo_len {ts : List Int} (h : ∀ x ∈ ts, numOk x) : ∀ k, (termsTo ts k).length ≤ 3 + 11 * k := by
  intro k
  induction k with
  | zero => simp [termsTo]
  | succ k ih =>
    have := dec_len (getD_ok h k)
    have := sep_len k
    simp only [termsTo, List.length_append]
    omega
theorem brk_len (b : Bool) (x : List UInt8) : (brk b x).length ≤ x.length + 2 := by
  cases b <;> simp [brk]
theorem text_len : ∀ t, Wf t → (text t).length ≤ 200 * cnt t := by
  intro t
  induction t with
  | nil => intro h; exact h.elim
  | node p q a l r ihl ihr =>
    intro h
    obtain ⟨k, v, ts⟩ := a
    simp only [text, cnt]
    rcases h with ⟨h1, h2, _⟩ | ⟨h1, _⟩ | ⟨h1, h2, _, h3, _⟩ | ⟨h1, h2, _, h3⟩ | ⟨h1, h2, h3, _⟩
    · simp only at h1 h2
      subst h1
      have := dec_len h2
      simp only [txtOf, beq_self_eq_true, cond_true]
      omega
    · simp only at h1
      have := sym_len k
      rcases h1 with rfl | rfl
      · simp only [txtOf, sym]; simp; omega
      · simp only [txtOf, sym]; simp; omega
    · simp only at h1 h2 h3
      subst h1
      have := termsTo_len h2 ts.length
      simp only [txtOf, termsTxt]
      simp
      omega
    · simp only at h1
      have i1 := ihl h2
      have s := sym_len k
      have b1 := brk_len (decide (rankK (kindT l) < 3)) (text l)
      rcases h1 with rfl | rfl | rfl | rfl | rfl <;> (simp only [txtOf]; simp; try omega)
    · simp only at h1
      have i1 := ihl h2
      have i2 := ihr h3
      have s := sym_len k
      have b1 := brk_len (decide (rankK (kindT l) < rankK k)) (text l)
      have b2 := brk_len (decide (rankK (kindT r) < rankK k + 1)) (text r)
      rcases h1 with rfl | rfl | rfl | rfl <;> (simp only [txtOf]; simp at b1 b2 ⊢; omega)
end Rd
end Go.Proofs.YteghhlfmcjmnoaaGreatDoor
set_option linter.unusedSimpArgs false
set_option linter.unusedVariables false
namespace Go.Proofs.YteghhlfmcjmnoaaGreatDoor
open Go.RowKit
theorem rb_mono {n m : Nat} {z : Int} (h : Bits n z) (hl : n ≤ m) : Bits m z := bits_mono h hl
theorem rb_neg {n : Nat} {z : Int} (h : Bits n z) : Bits n (-z) := bits_neg h
theorem rb_mul {n m : Nat} {x y : Int} (h : Bits n x) (h2 : Bits m y) : Bits (n + m) (x * y) := bits_mul h h2
theorem rb_add {n : Nat} {x y : Int} (h : Bits n x) (h2 : Bits n y) : Bits (n + 1) (x + y) := bits_add h h2
namespace Ab
open Rf (Nd Inv NInv Wt)
def opKd (k : Int) : Rf.Op := if k = 2 then .pi else if k = 3 then .e else if k = 4 then .cf else if k = 10 then .sqrt else if k = 11 then .exp else if k = 12 then .ln1p else .atan
def kkKd (k : Int) : Rf.Kind := if k = 6 then .add else if k = 7 then .sub else if k = 8 then .mul else .div
def planT : Rd.Tr → Option Wt
  | .nil => none
  | .node _ _ a l r =>
    if a.1 = 1 then some (.fr a.2.1 1)
    else if a.1 ≤ 4 then some (.con (opKd a.1) a.2.2)
    else if a.1 = 5 then (planT l).map negW
    else if a.1 ≤ 9 then (planT l).bind fun u => (planT r).bind fun v => opW (kkKd a.1) u v
    else (planT l).bind fun u => fnW (opKd a.1) u
def OkB (n : Nat) (u : Wt) : Prop := u.Ok ∧ ∀ p q, u = .fr p q → 0 < q ∧ RB n p ∧ RB n q
theorem rb_num {v : Int} (h : Rd.numOk v) : RB 30 v := by
  have h1 := h.1
  have h2 := h.2
  show v.natAbs < 2 ^ 30
  have : (2 : Nat) ^ 30 = 1073741824 := by decide
  omega
theorem rb_up {n m : Nat} {z : Int} (h : RB n z) (hl : n ≤ m) : RB m z := rb_mono h hl
theorem okb_fr {n : Nat} {p q : Int} (hq : 0 < q) (h1 : RB n p) (h2 : RB n q) (hn : n ≤ 6100) : OkB n (.fr p q) := by
  refine ⟨⟨hq, rb_up h1 hn, rb_up h2 hn⟩, ?_⟩
  intro p' q' e
  cases e
  exact ⟨hq, h1, h2⟩
theorem okb_no {n : Nat} {u : Wt} (h : u.Ok) (hn : ∀ p q, u ≠ .fr p q) : OkB n u := ⟨h, fun p q e => absurd e (hn p q)⟩
theorem okb_neg {n m : Nat} {u : Wt} (h : OkB n u) (hl : n ≤ m) (hm : m ≤ 6100) : OkB m (negW u) := by
  cases u with
  | fr p q =>
    obtain ⟨h1, h2, h3⟩ := h.2 p q rfl
    exact okb_fr h1 (rb_up (rb_neg h2) hl) (rb_up h3 hl) hm
  | con op ts => exact okb_no (show (Wt.con op ts).Ok from h.1) (fun _ _ e => by cases e)
  | neg t => exact okb_no (show (Wt.neg t).Ok from h.1) (fun _ _ e => by cases e)
  | two k a b => exact okb_no (show (Wt.two k a b).Ok from h.1) (fun _ _ e => by cases e)
  | fn op t => exact okb_no (show (Wt.fn op t).Ok from h.1) (fun _ _ e => by cases e)
theorem okb_fn {n m : Nat} {op : Rf.Op} (hop : Rf.fn op) {u u2 : Wt} (h : OkB n u) (hm : m ≤ 6100) (h1m : 1 ≤ m) (he : fnW op u = some u2) : OkB m u2 := by
  have key : ∀ {t : Wt}, t.Ok → (∀ p q, t = .fr p q → 0 < p) → OkB m (.fn op t) := fun ht hp => okb_no ⟨hop, ht, hp⟩ (fun _ _ e => by cases e)
  cases u with
  | fr p q =>
    simp only [fnW] at he
    split at he
    · cases he
    · split at he
      · cases he
        refine okb_fr (by decide) ?_ (Rf.bits1 h1m) hm
        split
        · exact Rf.bits1 h1m
        · exact Rf.bits0
      · cases he
        refine key h.1 ?_
        intro p' q' e
        cases e
        omega
  | con op ts => cases he; exact key h.1 (fun _ _ e => by cases e)
  | neg t => cases he; exact key h.1 (fun _ _ e => by cases e)
  | two k a b => cases he; exact key h.1 (fun _ _ e => by cases e)
  | fn op t => cases he; exact key h.1 (fun _ _ e => by cases e)
theorem wo_bits {n m : Nat} {kk : Rf.Kind} {p q a b : Int} (h1 : RB n p) (h2 : RB n q) (h3 : RB m a) (h4 : RB m b) : RB (n + m + 1) (woN (kdK kk) p q a b) ∧ RB (n + m + 1) (woD (kdK kk) p q a b) := by
  have s : n + m ≤ n + m + 1 := by omega
  have e : m + n = n + m := by omega
  cases kk with
  | add => exact ⟨rb_add (rb_mul h1 h4) (e ▸ rb_mul h3 h2), rb_up (rb_mul h2 h4) s⟩
  | sub => exact ⟨rb_add (rb_mul h1 h4) (e ▸ rb_mul (rb_neg h3) h2), rb_up (rb_mul h2 h4) s⟩
  | mul => exact ⟨rb_up (rb_mul h1 h3) s, rb_up (rb_mul h2 h4) s⟩
  | div => exact ⟨rb_up (rb_mul h1 h4) s, rb_up (rb_mul h2 h3) s⟩
theorem okb_op {n m l : Nat} {kk : Rf.Kind} {u v x : Wt} (h : OkB n u) (h2 : OkB m v) (hl : n + m + 1 ≤ l) (hm : l ≤ 6100) (he : opW kk u v = some x) : OkB l x := by
  have key : ∀ {t t2 : Wt}, t.Ok → t2.Ok → OkB l (.two kk t t2) := fun ht ht2 => okb_no ⟨ht, ht2⟩ (fun _ _ e => by cases e)
  by_cases hv : ∃ a b, v = .fr a b
  · obtain ⟨a, b, rfl⟩ := hv
    obtain ⟨g1, g2, g3⟩ := h2.2 a b rfl
    by_cases hu : ∃ p q, u = .fr p q
    · obtain ⟨p, q, rfl⟩ := hu
      obtain ⟨f1, f2, f3⟩ := h.2 p q rfl
      simp only [opW] at he
      split at he
      · cases he
      · rename_i hna
        cases he
        have hne := woD_ne (p := p) f1 g1 hna
        obtain ⟨w1, w2⟩ := wo_bits (kk := kk) f2 f3 g2 g3
        obtain ⟨l1, l2⟩ := low_abs (gcd_pos_of (t := woN (kdK kk) p q a b) hne)
        refine okb_fr (lowB_pos hne) (rb_up (Nat.lt_of_le_of_lt l1 w1) hl) (rb_up (Nat.lt_of_le_of_lt l2 w2) hl) hm
    · have : opW kk u (.fr a b) = if kk = .div ∧ a = 0 then none else some (.two kk u (.fr a b)) := by
        cases u with
        | fr p q => exact absurd ⟨p, q, rfl⟩ hu
        | _ => rfl
      rw [this] at he
      split at he
      · cases he
      · cases he
        exact key h.1 h2.1
  · have : opW kk u v = some (.two kk u v) := by
      cases v with
      | fr p q => exact absurd ⟨p, q, rfl⟩ hv
      | _ => cases u <;> rfl
    rw [this] at he
    cases he
    exact key h.1 h2.1
theorem plan_ok : ∀ (t : Rd.Tr) (u : Wt), Rd.Wf t → 32 * Rd.cnt t ≤ 6100 → planT t = some u → OkB (32 * Rd.cnt t) u := by
  intro t
  induction t with
  | nil => intro u h; exact h.elim
  | node n1 n2 a l r ihl ihr =>
    intro u h hc he
    have hcn : Rd.cnt (.node n1 n2 a l r) = Rd.cnt l + Rd.cnt r + 1 := rfl
    rw [hcn] at hc ⊢
    rw [planT] at he
    rcases h with ⟨hk, hn, _, rfl, rfl⟩ | ⟨hk, _, _, rfl, rfl⟩ | ⟨hk, hts, h2, h9, _, rfl, rfl⟩ | ⟨hk, hwl, _, rfl⟩ | ⟨hk, hwl, hwr, _⟩
    · rw [if_pos hk] at he
      cases he
      exact okb_fr (by decide) (rb_up (rb_num hn) (by omega)) (Rf.bits1 (by omega)) hc
    · rw [if_neg (by omega), if_pos (by omega)] at he
      cases he
      refine okb_no ?_ (fun _ _ e => by cases e)
      rcases hk with hk | hk <;> rw [hk]
      · exact Or.inl rfl
      · exact Or.inr (Or.inl rfl)
    · rw [if_neg (by omega), if_pos (by omega)] at he
      cases he
      refine okb_no ?_ (fun _ _ e => by cases e)
      rw [hk]
      exact Or.inr (Or.inr ⟨rfl, h2, fun x hx => rb_up (rb_num (hts x hx)) (by decide)⟩)
    · rw [if_neg (by omega), if_neg (by omega)] at he
      rcases hk with hk | hk
      · rw [if_pos hk] at he
        obtain ⟨v, hv, rfl⟩ := Option.map_eq_some_iff.1 he
        exact okb_neg (ihl v hwl (by omega) hv) (by omega) hc
      · rw [if_neg (by omega), if_neg (by omega)] at he
        obtain ⟨v, hv, he2⟩ := Option.bind_eq_some_iff.1 he
        refine okb_fn ?_ (ihl v hwl (by omega) hv) hc (by omega) he2
        rcases hk with hk | hk | hk | hk <;> rw [hk]
        · exact Or.inl rfl
        · exact Or.inr (Or.inl rfl)
        · exact Or.inr (Or.inr (Or.inl rfl))
        · exact Or.inr (Or.inr (Or.inr rfl))
    · rw [if_neg (by omega), if_neg (by omega), if_neg (by omega), if_pos (by omega)] at he
      obtain ⟨v, hv, he1⟩ := Option.bind_eq_some_iff.1 he
      obtain ⟨v2, hv2, he2⟩ := Option.bind_eq_some_iff.1 he1
      exact okb_op (ihl v hwl (by omega) hv) (ihr v2 hwr (by omega) hv2) (by omega) hc he2
end Ab
end Go.Proofs.YteghhlfmcjmnoaaGreatDoor
