import Derived.Test.YteghhlfmcjmnoaaGreatDoorWTimes
set_option linter.unusedSimpArgs false
namespace Go.Proofs.YteghhlfmcjmnoaaGreatDoor
open Go.RowKit
def Nm.dn (a : List Int) (wh p t : Nat) : Int := ((Nm.at' a (t + wh) + Nm.at' a (t + wh + 1) * 4294967296) / 2 ^ p) % 4294967296
theorem Nm.at_ext : ∀ {a b : List Int}, a.length = b.length → (∀ t, t < a.length → Nm.at' a t = Nm.at' b t) → a = b := by
  intro a b hl h
  refine List.ext_getElem hl ?_
  intro t h1 h2
  have := h t h1
  unfold Nm.at' at this
  rw [List.getD_eq_getElem?_getD, List.getD_eq_getElem?_getD, List.getElem?_eq_getElem h1, List.getElem?_eq_getElem h2] at this
  exact this
theorem Nm.at_drop (a : List Int) (n t : Nat) : Nm.at' (a.drop n) t = Nm.at' a (t + n) := by
  unfold Nm.at'
  simp [List.getD, List.getElem?_drop, Nat.add_comm]
def Nm.dl (p : Nat) : List Int → List Int
  | [] => []
  | x :: r => ((x + Nm.at' r 0 * 4294967296) / 2 ^ p) % 4294967296 :: Nm.dl p r
theorem Nm.dl_len (p : Nat) : ∀ l, (Nm.dl p l).length = l.length := by
  intro l
  induction l with
  | nil => rfl
  | cons x r ih => simp [Nm.dl, ih]
theorem Nm.dl_at (p : Nat) : ∀ l t, t < l.length → Nm.at' (Nm.dl p l) t = ((Nm.at' l t + Nm.at' l (t + 1) * 4294967296) / 2 ^ p) % 4294967296 := by
  intro l
  induction l with
  | nil => intro t h; simp at h
  | cons x r ih =>
    intro t h
    cases t with
    | zero => rfl
    | succ t => exact ih t (by simpa using h)
theorem Nm.split_low {l : List Int} (hl : Nm.Dig 4294967296 l) : ∃ V', Nm.val 4294967296 l = Nm.at' l 0 + 4294967296 * V' := by
  cases l with
  | nil => exact ⟨0, rfl⟩
  | cons x r => exact ⟨Nm.val 4294967296 r, rfl⟩
theorem Nm.dl_step {x f V' D E : Int} (hD : 0 < D) (hE : 0 < E) (hW : D * E = 4294967296) (x0 : 0 ≤ x) (x1 : x < 4294967296) :
    (x + f * 4294967296) / D % 4294967296 + 4294967296 * ((f + 4294967296 * V') / D) = (x + 4294967296 * (f + 4294967296 * V')) / D := by
  have e1 : (x + f * 4294967296) / D = x / D + E * f := by
    rw [show f * 4294967296 = (E * f) * D by rw [← hW]; grind, Int.add_mul_ediv_right _ _ (by omega)]
  have e2 : (x + 4294967296 * (f + 4294967296 * V')) / D = x / D + E * (f + 4294967296 * V') := by
    rw [show 4294967296 * (f + 4294967296 * V') = (E * (f + 4294967296 * V')) * D by rw [← hW]; grind, Int.add_mul_ediv_right _ _ (by omega)]
  have e3 : (f + 4294967296 * V') / D = f / D + E * V' := by
    rw [show 4294967296 * V' = (E * V') * D by rw [← hW]; grind, Int.add_mul_ediv_right _ _ (by omega)]
  rw [e1, e2, e3]
  have h1 := Int.emod_add_mul_ediv f D
  have h2 := Int.emod_nonneg f (show D ≠ 0 by omega)
  have h3 := Int.emod_lt_of_pos f hD
  have hx0 : 0 ≤ x / D := Int.ediv_nonneg x0 (by omega)
  have hx1 : x / D < E := Int.ediv_lt_of_lt_mul hD (by rw [Int.mul_comm, hW]; exact x1)
  generalize f % D = h at *
  generalize f / D = g at *
  generalize x / D = q at *
  have e4 : (q + E * f) % 4294967296 = q + E * h := by
    have : q + E * f = (q + E * h) + g * 4294967296 := by rw [← h1, ← hW]; grind
    rw [this, Int.add_mul_emod_self_right]
    refine Int.emod_eq_of_lt (Int.add_nonneg hx0 (Int.mul_nonneg (by omega) h2)) ?_
    have : E * (h + 1) ≤ E * D := Int.mul_le_mul_of_nonneg_left (by omega) (by omega)
    rw [Int.mul_comm E D, hW, Int.mul_add, Int.mul_one] at this
    omega
  rw [e4, ← h1]
  grind
theorem Nm.dl_val {p : Nat} (hp : p < 32) : ∀ l, Nm.Dig 4294967296 l → Nm.val 4294967296 (Nm.dl p l) = Nm.val 4294967296 l / 2 ^ p := by
  have hD : (0 : Int) < 2 ^ p := Nm.pow_pos' (by decide) p
  have hE : (0 : Int) < 2 ^ (32 - p) := Nm.pow_pos' (by decide) _
  have hW : (2 : Int) ^ p * 2 ^ (32 - p) = 4294967296 := by rw [← Int.pow_add, show p + (32 - p) = 32 by omega]; rfl
  intro l
  induction l with
  | nil => intro _; simp [Nm.dl, Nm.val]
  | cons x r ih =>
    intro h
    have hr : Nm.Dig 4294967296 r := fun d hd => h d (List.mem_cons_of_mem _ hd)
    have hx := h x List.mem_cons_self
    obtain ⟨V', hV⟩ := Nm.split_low hr
    rw [Nm.dl, Nm.val, ih hr, Nm.val, hV]
    exact Nm.dl_step hD hE hW hx.1 hx.2
theorem Nm.val_drop_div {B : Int} (hB : 0 < B) (l : List Int) (h : Nm.Dig B l) (n : Nat) : Nm.val B (l.drop n) = Nm.val B l / B ^ n := by
  have hP := Nm.pow_pos' hB n
  by_cases hn : n ≤ l.length
  · have e : Nm.val B l = Nm.val B (l.take n) + Nm.val B (l.drop n) * B ^ n := by
      conv => lhs; rw [← List.take_append_drop n l, Nm.val_append, List.length_take, Nat.min_eq_left hn]
      rw [Int.mul_comm]
    have h1 := Nm.val_lo hB (h.take n)
    have h2 := Nm.val_hi hB (h.take n)
    rw [List.length_take, Nat.min_eq_left hn] at h2
    rw [e, Int.add_mul_ediv_right _ _ (by omega), Int.ediv_eq_zero_of_lt h1 h2]
    omega
  · rw [List.drop_eq_nil_of_le (by omega)]
    have h1 := Nm.val_lo hB h
    have h2 := Nm.val_hi hB h
    have h3 := Nm.pow_mono (B := B) (by omega) (show l.length ≤ n by omega)
    rw [Int.ediv_eq_zero_of_lt h1 (by omega)]
    rfl
theorem Nm.down_val {a out : List Int} {wh p : Nat} (hp : p < 32) (ha : Nm.Dig 4294967296 a) (hl : out.length = a.length - wh) (h : ∀ t, t < a.length - wh → Nm.at' out t = Nm.dn a wh p t) : Nm.val 4294967296 out = Nm.val 4294967296 a / 2 ^ (32 * wh + p) := by
  have e : out = Nm.dl p (a.drop wh) := by
    refine Nm.at_ext (by rw [Nm.dl_len, List.length_drop]; exact hl) ?_
    intro t ht
    rw [Nm.dl_at p _ t (by rw [List.length_drop]; omega), h t (by omega), Nm.at_drop, Nm.at_drop]
    unfold Nm.dn
    rw [show t + 1 + wh = t + wh + 1 by omega]
  have hdd : Nm.Dig 4294967296 (a.drop wh) := fun d hd => ha d (List.mem_of_mem_drop hd)
  rw [e, Nm.dl_val hp _ hdd, Nm.val_drop_div (by decide) a ha, Int.pow_add, Int.pow_mul, show (2 : Int) ^ 32 = 4294967296 from rfl, Int.ediv_ediv_of_nonneg (Int.le_of_lt (Nm.pow_pos' (by decide) _))]
def downRel (w : World) (a : List Int) (wh p : Nat) (i : Value) (wr : World) : Prop :=
  ∃ (k : Nat) (out : List Int), i = .int .i64 k ∧ k ≤ a.length - wh ∧ LBlk wr w.heap.size out ∧ out.length = a.length - wh ∧ Nm.Dig 4294967296 out ∧ Below w.heap.size w wr ∧ ∀ t, t < k → Nm.at' out t = Nm.dn a wh p t
set_option maxRecDepth 100000 in
set_option maxHeartbeats 2000000 in
theorem shiftDown_core (w : World) (a : List Int) (ao : Option Addr) (cap wh p : Nat) (ha : Lims w a (.slice ao a.length cap)) (hal : a.length ≤ 10000000000) (ga : Nm.Dig 4294967296 a) (hp : p < 32) (hwh : wh < a.length) (bits : Int) (hb : bits = 32 * wh + p) :
    Calls Tryz.prog 155 #[.slice ao a.length cap, .int .i64 bits] w (LimPost w fun xs => Nm.Good 4294967296 xs ∧ Nm.val 4294967296 xs = Nm.val 4294967296 a / 2 ^ (32 * wh + p)) := by
  have hmk := run_make_row' (P := Tryz.prog) 78 142 (.int .u32 0) 4 Tryz.underlying78 infoU rfl .i64 .i64 (a.length - wh) (by omega) (by omega)
  rw [show ((a.length - wh : Nat) : Int) = (a.length : Int) - wh by omega] at hmk
  have HA := hid ha
  have GA := hid ga
  have e1 : bits / 32 = wh := by omega
  have e2 : bits % 32 = p := by omega
  have e3 : ¬ bits < 0 := by omega
  have e4 : ¬ (a.length : Int) ≤ wh := by omega
  have e5 : 0 ≤ bits := by omega
  have e6 : bits ≤ 400000000000 := by omega
  clear ha ga hb
  go_enter Tryz.func155, Tryz.ntmps155
  go_wp2_with fail
  go_loopw [8] (fun i wr => downRel w a wh p i wr) (fun i _ => a.length - wh - (intOf i).toNat)
  case atStart => exact ⟨0, List.replicate (a.length - wh) 0, rfl, Nat.zero_le _, LBlk.made w _, by simp, Nm.Dig.zeros (by decide) _, belowW (Below.refl _ _) (Nat.le_refl _) _, fun t h => by omega⟩
  case round =>
    obtain ⟨k, out, rfl, hk, hblk, hlen, hdig, hbel, hval⟩ := hrel
    obtain ⟨g, rfl, _⟩ := HA.out.place (by omega)
    by_cases hkn : (k : Int) < (a.length : Int) - wh
    · have k1 := hblk.cell k (by omega)
      have k2 := hblk.frozen k
      have x1 := (HA.out.below hbel).cellG (k + wh) (by omega)
      have i1 : (k : Int) + wh < (a.length : Int) := by omega
      have i0 : (0 : Int) ≤ (k : Int) + wh := by omega
      have i2 : ((k : Int) + wh).toNat = k + wh := by omega
      have a0 := GA.out.at' (by decide) (k + wh)
      have b0 := GA.out.at' (by decide) (k + wh + 1)
      have REL : Hid (∀ X, X = Nm.dn a wh p k → downRel w a wh p (.int .i64 ((k : Int) + 1)) (wr.setCell ⟨w.heap.size, k, none⟩ (.int .u32 X))) := by
        rintro X rfl
        refine ⟨k + 1, out.set k (Nm.dn a wh p k), by simp, by omega, hblk.set _ _, by simpa using hlen, hdig.set _ (by unfold Nm.dn; omega) (by unfold Nm.dn; omega), hbel.setCell (by simp) _, ?_⟩
        intro t ht
        by_cases htk : t = k
        · subst htk
          unfold Nm.at'
          simp [List.getD, show t < out.length by omega]
        · rw [Nm.at_set_ne (by omega)]
          exact hval t (by omega)
      have HDN : Hid (Nm.dn a wh p k = ((Nm.at' a (k + wh) + Nm.at' a (k + wh + 1) * 4294967296) / 2 ^ p) % 4294967296) := rfl
      by_cases hl : (k : Int) + wh + 1 < a.length
      · have x2 := (HA.out.below hbel).cellG (k + wh + 1) (by omega)
        have i3 : ((k : Int) + wh + 1).toNat = k + wh + 1 := by omega
        clear hblk hlen hdig hbel hval
        generalize Nm.at' a (k + wh) = x at *
        generalize Nm.at' a (k + wh + 1) = y at *
        generalize Nm.at' out k = o at *
        obtain ⟨a1, a2⟩ := a0
        obtain ⟨b1, b2⟩ := b0
        go_wp2_with fail
        go_roundw
        case rel => exact REL.out _ HDN.out.symm
        case measure => simp [intOf]; omega
      · have e0 := Nm.at_noneW (xs := a) (i := k + wh + 1) (by omega)
        rw [e0] at HDN
        have HDN2 : Hid (Nm.dn a wh p k = Nm.at' a (k + wh) / 2 ^ p % 4294967296) := by show _ = _; rw [HDN.out, Int.zero_mul, Int.add_zero]
        clear hblk hlen hdig hbel hval e0 b0 HDN
        generalize Nm.at' a (k + wh) = x at *
        generalize Nm.at' out k = o at *
        obtain ⟨a1, a2⟩ := a0
        go_wp2_with fail
        go_roundw
        case rel => exact REL.out _ HDN2.out.symm
        case measure => simp [intOf]; omega
    · obtain rfl : k = a.length - wh := by omega
      have HE := hid (Nm.down_val hp GA.out hlen hval)
      have US := hid (used_any wr out _ 0 (hblk.lims (by omega)) (by omega))
      rw [hlen] at US
      have hsl := Nm.strip_len out
      rw [hlen] at hsl
      have HL := hid (hblk.used (B := w.heap.size) (by omega) (Nat.le_refl _))
      rw [hlen] at HL
      have HD := hid hdig
      have HBEL := hid hbel
      clear hval hlen hdig hbel hblk
      generalize hn : (Nm.strip out).length = n at *
      clear hn
      go_wp2_with fail
      refine (US.out).mono ?_
      rintro e w1 ⟨rfl, rfl⟩
      go_wp2_with fail
      go_ret
      exact ⟨_, Nm.strip out, rfl, ⟨Nm.good_strip HD.out, by rw [Nm.val_strip, HE.out]⟩, HL.out, HBEL.out⟩
set_option maxRecDepth 100000 in
theorem shiftDown_zero (w : World) (n : Nat) (ao : Option Addr) (cap : Nat) (bits : Int) (h0 : 0 ≤ bits) (h1 : bits ≤ 1000000000000) (hb : (n : Int) ≤ bits / 32) :
    Calls Tryz.prog 155 #[.slice ao n cap, .int .i64 bits] w (LimPost w fun xs => xs = []) := by
  have e3 : ¬ bits < 0 := by omega
  go_enter Tryz.func155, Tryz.ntmps155
  go_wp2_with fail
  go_ret
  exact ⟨_, [], rfl, rfl, ⟨rfl, Or.inr ⟨w.heap.size, 0, #[], rfl, Nat.le_refl _, at_newW _ _, Nat.le_refl _, by decide, rfl, rfl⟩⟩, belowW (Below.refl _ _) (Nat.le_refl _) _⟩
theorem shiftDown_any (w : World) (a : List Int) (v : Value) (bits : Nat) (ha : Lims w a v) (hal : a.length ≤ 10000000000) (ga : Nm.Dig 4294967296 a) (hbb : bits ≤ 1000000000000) :
    Calls Tryz.prog 155 #[v, .int .i64 bits] w (LimPost w fun xs => Nm.Good 4294967296 xs ∧ Nm.val 4294967296 xs = Nm.val 4294967296 a / 2 ^ bits) := by
  obtain ⟨ao, cap, rfl, _⟩ := ha.shape
  by_cases h : bits / 32 < a.length
  · have := shiftDown_core w a ao cap (bits / 32) (bits % 32) ha hal ga (by omega) h bits (by omega)
    rw [show 32 * (bits / 32) + bits % 32 = bits by omega] at this
    exact this
  · refine (shiftDown_zero w a.length ao cap bits (by omega) (by omega) (by omega)).mono ?_
    rintro e w' ⟨v, xs, rfl, rfl, hI, hb⟩
    refine ⟨v, [], rfl, ⟨Nm.Good.nil _, ?_⟩, hI, hb⟩
    have h1 := Nm.val_lo (by decide) ga
    have h2 := Nm.val_hi (by decide) ga
    have h3 : (4294967296 : Int) ^ a.length ≤ 2 ^ bits := by
      rw [show (4294967296 : Int) = 2 ^ 32 from rfl, ← Int.pow_mul]
      exact Nm.pow_mono (by decide) (by omega)
    rw [Int.ediv_eq_zero_of_lt h1 (by omega)]
    rfl
end Go.Proofs.YteghhlfmcjmnoaaGreatDoor
set_option linter.unusedSimpArgs false
namespace Go.Proofs.YteghhlfmcjmnoaaGreatDoor
open Go.RowKit
def Nm.half (z : Int) (n : Nat) : Int := if z < 0 then -((z.natAbs : Int) / 2 ^ n) else (z.natAbs : Int) / 2 ^ n
set_option maxRecDepth 100000 in
set_option maxHeartbeats 1000000 in
theorem halved_core (w : World) (nb : Bool) (ao : Option Addr) (la cap : Nat) (z : Int) (P : List Int → Prop) (times : Int) (ht : 1 ≤ times)
    (hP : ∀ W, Below w.heap.size w W → Calls Tryz.prog 155 #[.slice ao la cap, .int .i64 times] W (LimPost W P))
    (hT : ∀ W xs v, P xs → Lims W xs v → WhoAt W z (.agg #[.bool (nb && decide (0 < xs.length)), v])) :
    Calls Tryz.prog 212 #[.agg #[.bool nb, .slice ao la cap], .int .i64 times] w (WhoPost w z) := by
  have HP := hid hP
  have HT := hid hT
  have hb2 : Below w.heap.size w ((w.alloc (.cells #[.bool nb, .slice ao la cap] 80)).alloc (.cells #[.bool false, .slice none 0 0] 80)) := belowW (belowW (Below.refl _ _) (Nat.le_refl _) _) (by simp) _
  have CT := hid (HP.out _ hb2)
  have HB2 := hid hb2
  have e1 : ¬ times < 1 := by omega
  clear hP hT hb2
  go_enter Tryz.func212, Tryz.ntmps212
  go_wp2_with fail
  refine (CT.out).mono ?_
  rintro e w1 ⟨v1, xs, rfl, hp, hI1, hb1⟩
  have hs1 := hb1.size
  rw [World.size_alloc, World.size_alloc] at hs1
  obtain ⟨o1, c1, rfl, _⟩ := hI1.shape
  have hblk : w1.heap[w.heap.size + 1]? = some (.cells #[.bool false, .slice none 0 0] 80 (0, 0)) := by
    have := newW (by simp) (at_newW (w.alloc (.cells #[.bool nb, .slice ao la cap] 80)) (.cells #[.bool false, .slice none 0 0] 80)) hb1
    rw [World.size_alloc] at this
    exact this
  have b0 : w1.heap[w.heap.size]? = some (.cells #[.bool nb, .slice ao la cap] 80 (0, 0)) := newW (by rw [World.size_alloc, World.size_alloc]; omega) (at_oldW _ (at_newW w _)) hb1
  have x0 := cell_of_block (o := 0) b0 rfl
  have hN := HT.out _ xs _ hp (hI1.weak (Nat.zero_le _))
  have hr := HB2.out.trans (hb1.mono HB2.out.size)
  clear b0
  cases nb
  · have F := finw hblk hN hr (by omega)
    rw [Bool.false_and] at F
    have r0 := frozen_of_block (o := 0) hblk
    have r1 := frozen_of_block (o := 1) hblk
    have s0 := cell_of_block (o := 0) hblk rfl
    have s1 := cell_of_block (o := 1) hblk rfl
    have q0 := F.c0
    have q1 := F.c1
    have FN := hid F.num
    have FB := hid F.below
    clear F hN hr hblk hb1 hI1 hp
    go_wp2_with fail
    refine bodyPost_ret (v := .agg #[.bool false, .slice o1 xs.length c1]) (by simp [results, Tryz.results212, go_sem, q0, q1]) rfl ⟨_, rfl, FN.out, FB.out⟩
  · have F := finw hblk hN hr (by omega)
    by_cases hx : (0 : Int) < xs.length
    · rw [decide_eq_true (show 0 < xs.length by omega), Bool.true_and] at F
      have r0 := frozen_of_block (o := 0) hblk
      have r1 := frozen_of_block (o := 1) hblk
      have s0 := cell_of_block (o := 0) hblk rfl
      have s1 := cell_of_block (o := 1) hblk rfl
      have q0 := F.c0
      have q1 := F.c1
      have FN := hid F.num
      have FB := hid F.below
      have hx' : 0 < xs.length := by omega
      clear F hN hr hblk hb1 hI1 hp
      go_wp2_with fail
      refine bodyPost_ret (v := .agg #[.bool true, .slice o1 xs.length c1]) (by simp [results, Tryz.results212, go_sem, q0, q1, hx']) rfl ⟨_, rfl, ?_, ?_⟩
      · first | exact FN.out | simpa [hx'] using FN.out
      · first | exact FB.out | simpa [hx'] using FB.out
    · have hx' : xs.length = 0 := by omega
      rw [hx'] at F
      rw [hx']
      have r0 := frozen_of_block (o := 0) hblk
      have r1 := frozen_of_block (o := 1) hblk
      have s0 := cell_of_block (o := 0) hblk rfl
      have s1 := cell_of_block (o := 1) hblk rfl
      rw [show (true && decide (0 < 0)) = false from rfl] at F
      have q0 := F.c0
      have q1 := F.c1
      have FN := hid F.num
      have FB := hid F.below
      clear F hN hr hblk hb1 hI1 hp hx
      go_wp2_with fail
      refine bodyPost_ret (v := .agg #[.bool false, .slice o1 0 c1]) (by simp [results, Tryz.results212, go_sem, q0, q1]) rfl ⟨_, rfl, FN.out, FB.out⟩
theorem halved_any (w : World) (z : Int) (v : Value) (times n : Nat) (h : WhoAt w z v) (bz : z.natAbs < 2 ^ n) (hn : n ≤ 1000000000) (ht : 1 ≤ times) (ht2 : times ≤ 1000000000) : Calls Tryz.prog 212 #[v, .int .i64 times] w (WhoPost w (Nm.half z times)) := by
  obtain ⟨ds, ao, cap, rfl, hI, hg, hv⟩ := h.open
  have hl := lims_len hg hv bz
  refine halved_core w _ ao _ cap _ _ times (by omega) (fun W hW => shiftDown_any W ds _ times (hI.below hW) (by omega) hg.dig (by omega)) ?_
  rintro W xs r ⟨h1, h2⟩ hr
  rw [hv] at h2
  have hq : 0 ≤ ((z.natAbs : Nat) : Int) / 2 ^ times := Int.ediv_nonneg (by omega) (Int.le_of_lt (Nm.pow_pos' (by decide) _))
  have h0 := Nm.val_zero (by decide) h1
  rw [h2] at h0
  refine who_of hr h1 (by rw [h2]; unfold Nm.half; split <;> omega) ?_
  unfold Nm.half
  by_cases hz : z < 0
  · rw [if_pos hz, decide_eq_true hz, Bool.true_and]
    by_cases hx : xs = []
    · have := h0.2 hx
      rw [hx, this]; rfl
    · have hp := List.length_pos_iff.2 hx
      have : ((z.natAbs : Nat) : Int) / 2 ^ times ≠ 0 := fun e => hx (h0.1 e)
      rw [decide_eq_true hp, decide_eq_true (by omega)]
  · rw [if_neg hz, decide_eq_false hz, Bool.false_and, decide_eq_false (by omega)]
end Go.Proofs.YteghhlfmcjmnoaaGreatDoor
set_option linter.unusedSimpArgs false
namespace Go.Proofs.YteghhlfmcjmnoaaGreatDoor
open Go.RowKit
theorem Nm.low_zero : ∀ (l : List Int) (k : Nat), (∀ t, t < k → Nm.at' l t = 0) → Nm.val 4294967296 l = 4294967296 ^ k * Nm.val 4294967296 (l.drop k) := by
  intro l k
  induction k generalizing l with
  | zero => intro _; simp
  | succ k ih =>
    intro h
    cases l with
    | nil => simp [Nm.val]
    | cons x r =>
      have hx : x = 0 := h 0 (by omega)
      have := ih r (fun t ht => h (t + 1) (by omega))
      rw [List.drop_succ_cons, Nm.val, this, hx, Int.pow_succ]
      grind
theorem Nm.twos_dvd {l : List Int} {k c : Nat} {L : Int} (hk : k < l.length) (h : ∀ t, t < k → Nm.at' l t = 0) (hL : 1 ≤ L) (hx : Nm.at' l k < 4294967296) (he : Nm.at' l k = L * 2 ^ c) : (2 : Int) ^ (32 * k + c) ∣ Nm.val 4294967296 l := by
  have hc : c < 32 := by
    rcases Nat.lt_or_ge c 32 with h1 | h1
    · exact h1
    · have h2 : (2 : Int) ^ 32 ≤ 2 ^ c := Nm.pow_mono (by decide) h1
      have h3 : 1 * (2 : Int) ^ c ≤ L * 2 ^ c := Int.mul_le_mul_of_nonneg_right hL (Int.le_of_lt (Nm.pow_pos' (by decide) _))
      have h4 : (2 : Int) ^ 32 = 4294967296 := rfl
      omega
  have hW : (4294967296 : Int) = 2 ^ c * 2 ^ (32 - c) := by rw [← Int.pow_add, show c + (32 - c) = 32 by omega]; rfl
  rw [Nm.low_zero l k h, Nm.val_drop _ l k hk, he, Int.pow_add, Int.pow_mul, show (2 : Int) ^ 32 = 4294967296 from rfl]
  refine Int.mul_dvd_mul (Int.dvd_refl _) ?_
  refine Int.dvd_add ⟨L, by rw [Int.mul_comm]⟩ ⟨2 ^ (32 - c) * Nm.val 4294967296 (l.drop (k + 1)), ?_⟩
  rw [← Int.mul_assoc, ← hW]
noncomputable def Nm.tz (z : Int) : Nat := open Classical in if h : ∃ t : Nat, (2 : Int) ^ t ∣ z ∧ ¬ (2 : Int) ^ (t + 1) ∣ z then h.choose else 0
theorem Nm.tz_eq {z : Int} {t : Nat} (h1 : (2 : Int) ^ t ∣ z) (h2 : ¬ (2 : Int) ^ (t + 1) ∣ z) : Nm.tz z = t := by
  have h : ∃ t : Nat, (2 : Int) ^ t ∣ z ∧ ¬ (2 : Int) ^ (t + 1) ∣ z := ⟨t, h1, h2⟩
  unfold Nm.tz
  rw [dif_pos h]
  obtain ⟨g1, g2⟩ := h.choose_spec
  generalize h.choose = s at *
  have key : ∀ {a b : Nat}, a < b → (2 : Int) ^ b ∣ z → (2 : Int) ^ (a + 1) ∣ z := fun {a b} hab hb => Int.dvd_trans ⟨2 ^ (b - (a + 1)), by rw [← Int.pow_add]; congr 1; omega⟩ hb
  rcases Nat.lt_trichotomy s t with h | h | h
  · exact absurd (key h h1) g2
  · exact h
  · exact absurd (key h g1) h2
theorem Nm.tz_zero : Nm.tz 0 = 0 := by
  unfold Nm.tz
  rw [dif_neg]
  rintro ⟨t, _, h⟩
  exact h (Int.dvd_zero _)
theorem Nm.tz_dvd (z : Int) : (2 : Int) ^ Nm.tz z ∣ z := by
  unfold Nm.tz
  split
  · rename_i h; exact h.choose_spec.1
  · simp
theorem Nm.tz_lt {z : Int} {n : Nat} (hz : z ≠ 0) (h : z.natAbs < 2 ^ n) : Nm.tz z < n := by
  have h1 : ((2 : Int) ^ Nm.tz z).natAbs ≤ z.natAbs := Nat.le_of_dvd (by omega) (Int.natAbs_dvd_natAbs.2 (Nm.tz_dvd z))
  rw [Int.natAbs_pow] at h1
  have h2 : 2 ^ Nm.tz z < 2 ^ n := by
    have : (2 : Int).natAbs = 2 := rfl
    rw [this] at h1
    omega
  exact (Nat.pow_lt_pow_iff_right (by decide)).1 h2
theorem Nm.twos_not {l : List Int} {k c : Nat} {L : Int} (hk : k < l.length) (h : ∀ t, t < k → Nm.at' l t = 0) (hL : 1 ≤ L) (ho : ¬ L % 2 = 0) (hx : Nm.at' l k < 4294967296) (he : Nm.at' l k = L * 2 ^ c) : ¬ (2 : Int) ^ (32 * k + c + 1) ∣ Nm.val 4294967296 l := by
  have hc : c < 32 := by
    rcases Nat.lt_or_ge c 32 with h1 | h1
    · exact h1
    · have h2 : (2 : Int) ^ 32 ≤ 2 ^ c := Nm.pow_mono (by decide) h1
      have h3 : 1 * (2 : Int) ^ c ≤ L * 2 ^ c := Int.mul_le_mul_of_nonneg_right hL (Int.le_of_lt (Nm.pow_pos' (by decide) _))
      have h4 : (2 : Int) ^ 32 = 4294967296 := rfl
      omega
  have hW : (4294967296 : Int) = 2 ^ c * (2 * 2 ^ (31 - c)) := by rw [Int.mul_comm 2, ← Int.pow_succ, ← Int.pow_add, show c + (31 - c + 1) = 32 by omega]; rfl
  rw [Nm.low_zero l k h, Nm.val_drop _ l k hk, he]
  generalize Nm.val 4294967296 (l.drop (k + 1)) = R
  have e1 : (4294967296 : Int) ^ k * (L * 2 ^ c + 4294967296 * R) = 2 ^ (32 * k + c) * (L + 2 * (2 ^ (31 - c) * R)) := by
    rw [Int.pow_add, Int.pow_mul, show (2 : Int) ^ 32 = 4294967296 from rfl]
    have : (4294967296 : Int) * R = 2 ^ c * (2 * (2 ^ (31 - c) * R)) := by
      calc (4294967296 : Int) * R = (2 ^ c * (2 * 2 ^ (31 - c))) * R := by rw [← hW]
        _ = 2 ^ c * (2 * (2 ^ (31 - c) * R)) := by simp only [Int.mul_assoc]
    rw [this]
    grind
  rw [e1, Int.pow_succ]
  rintro ⟨q, hq⟩
  have hp : (2 : Int) ^ (32 * k + c) ≠ 0 := by have := Nm.pow_pos' (B := 2) (by decide) (32 * k + c); omega
  have : L + 2 * (2 ^ (31 - c) * R) = 2 * q := Int.eq_of_mul_eq_mul_left hp (by rw [hq, Int.mul_assoc])
  omega
def twosOut (W : World) (l : List Int) (i : Value) (wr : World) : Prop := ∃ k : Nat, i = .int .i64 k ∧ k ≤ l.length ∧ (∀ t, t < k → Nm.at' l t = 0) ∧ wr = W
def twosIn (W : World) (k : Nat) (x : Int) (cv lv : Value) (wr : World) : Prop := ∃ (c : Nat) (L : Int), cv = .int .i64 ((32 * k + c : Nat) : Int) ∧ lv = .int .u32 L ∧ 1 ≤ L ∧ L < 4294967296 ∧ x = L * 2 ^ c ∧ c ≤ 40 ∧ L < 2 ^ (40 - c) ∧ wr = W
theorem twos_half {c : Nat} {L x : Int} (h1 : 1 ≤ L) (h2 : L % 2 = 0) (hx : x = L * 2 ^ c) (hb : L < 2 ^ (40 - c)) : x = L / 2 * 2 ^ (c + 1) ∧ L / 2 < 2 ^ (40 - (c + 1)) ∧ c + 1 ≤ 40 := by
  have hc : c < 40 := by
    rcases Nat.lt_or_ge c 40 with h | h
    · exact h
    · rw [show 40 - c = 0 by omega] at hb; simp at hb; omega
  refine ⟨?_, ?_, by omega⟩
  · rw [hx, Int.pow_succ, ← Int.mul_assoc, Int.mul_comm (L / 2 * 2 ^ c) 2, ← Int.mul_assoc, show 2 * (L / 2) = L by omega]
  · rw [show 40 - c = (40 - (c + 1)) + 1 by omega, Int.pow_succ] at hb
    omega
set_option maxRecDepth 100000 in
set_option maxHeartbeats 2000000 in
theorem twos_core (w : World) (nb : Bool) (a : List Int) (ao : Option Addr) (cap : Nat) (ha : Lims w a (.slice ao a.length cap)) (hal : a.length ≤ 10000000000) (ga : Nm.Good 4294967296 a) :
    Calls Tryz.prog 225 #[.agg #[.bool nb, .slice ao a.length cap]] w fun e w' => e = .returned (.int .i64 (Nm.tz (Nm.val 4294967296 a))) ∧ Below w.heap.size w w' := by
  have HA := hid (ha.alloc (.cells #[.bool nb, .slice ao a.length cap] 80))
  have GA := hid ga
  have BB : Hid (Below w.heap.size w (w.alloc (.cells #[.bool nb, .slice ao a.length cap] 80))) := belowW (Below.refl _ _) (Nat.le_refl _) _
  clear ha ga
  go_enter Tryz.func225, Tryz.ntmps225
  go_wp2_with fail
  go_loopw [3] (fun i wr => twosOut (w.alloc (.cells #[.bool nb, .slice ao a.length cap] 80)) a i wr) (fun i _ => a.length - (intOf i).toNat)
  case atStart => exact ⟨0, rfl, Nat.zero_le _, fun t h => by omega, rfl⟩
  case round =>
    obtain ⟨k, rfl, hk, hz, rfl⟩ := hrel
    have HZ := hid hz
    clear hz
    by_cases hka : (k : Int) < a.length
    · obtain ⟨g, rfl, hc⟩ := HA.out.place (by omega)
      have x1 := hc k (by omega)
      have a0 := GA.out.dig.at' (by decide) k
      clear hc
      by_cases h0 : Nm.at' a k = 0
      · rw [h0] at x1
        go_wp2_with fail
        go_roundw
        case rel =>
          refine ⟨k + 1, by simp, by omega, ?_, rfl⟩
          intro t ht
          by_cases e : t = k
          · rw [e]; exact h0
          · exact HZ.out t (by omega)
        case measure => simp [intOf]; omega
      · have h1 : (Nm.at' a k == 0) = false := by simpa using h0
        have TD := hid (fun (c : Nat) (L : Int) (hL : 1 ≤ L) (ho : ¬ L % 2 = 0) he => Nm.tz_eq (Nm.twos_dvd (c := c) (L := L) (show k < a.length by omega) HZ.out hL a0.2 he) (Nm.twos_not (c := c) (L := L) (show k < a.length by omega) HZ.out hL ho a0.2 he))
        generalize Nm.at' a k = x at *
        obtain ⟨a1, a2⟩ := a0
        go_wp2_with fail
        go_loopw [4, 5] (fun c l wr => twosIn (w.alloc (.cells #[.bool nb, .slice (some ⟨g, 0, none⟩) a.length cap] 80)) k x c l wr) (fun _ l _ => (intOf l).toNat)
        case atStart => exact ⟨0, x, by simp, rfl, by omega, a2, by simp, by omega, by simp; omega, rfl⟩
        case round =>
          obtain ⟨c, L, rfl, rfl, l1, l2, hx, hc40, hb40, rfl⟩ := hrel
          have HX := hid hx
          have HB := hid hb40
          clear hx hb40
          by_cases he : L % 2 = 0
          · obtain ⟨g1, g2, g3⟩ := twos_half l1 he HX.out HB.out
            have G1 := hid g1
            have G2 := hid g2
            clear g1 g2
            go_wp2_with fail
            go_roundw
            case rel => exact ⟨c + 1, L / 2, by simp; omega, rfl, by omega, by omega, G1.out, g3, G2.out, rfl⟩
            case measure => simp [intOf]; omega
          · have he' : (L % 2 == 0) = false := by simpa using he
            go_wp2_with fail
            go_ret
            exact ⟨by rw [TD.out c L l1 he HX.out]; rfl, BB.out⟩
    · obtain rfl : k = a.length := by omega
      go_wp2_with fail
      have hz0 : Nm.val 4294967296 a = 0 := by
        have := Nm.low_zero a a.length HZ.out
        rw [List.drop_length] at this
        rw [this]
        simp [Nm.val]
      go_ret
      exact ⟨by rw [hz0, Nm.tz_zero]; rfl, BB.out⟩
theorem Nm.tz_abs (z : Int) : Nm.tz (z.natAbs : Int) = Nm.tz z := by
  by_cases h : ∃ t : Nat, (2 : Int) ^ t ∣ z ∧ ¬ (2 : Int) ^ (t + 1) ∣ z
  · obtain ⟨t, h1, h2⟩ := h
    rw [Nm.tz_eq h1 h2, Nm.tz_eq (Int.dvd_natAbs.2 h1) (fun g => h2 (Int.dvd_natAbs.1 g))]
  · unfold Nm.tz
    rw [dif_neg h, dif_neg]
    rintro ⟨t, h1, h2⟩
    exact h ⟨t, Int.dvd_natAbs.1 h1, fun g => h2 (Int.dvd_natAbs.2 g)⟩
theorem twos_any (w : World) (z : Int) (v : Value) (n : Nat) (h : WhoAt w z v) (bz : z.natAbs < 2 ^ n) (hn : n ≤ 1000000000) :
    Calls Tryz.prog 225 #[v] w fun e w' => e = .returned (.int .i64 (Nm.tz z)) ∧ Below w.heap.size w w' := by
  obtain ⟨ds, ao, cap, rfl, hI, hg, hv⟩ := h.open
  have hl := lims_len hg hv bz
  refine (twos_core w _ ds ao cap hI (by omega) hg).mono ?_
  rintro e w' ⟨rfl, h3⟩
  rw [hv, Nm.tz_abs]
  exact ⟨rfl, h3⟩
end Go.Proofs.YteghhlfmcjmnoaaGreatDoor
set_option linter.unusedSimpArgs false
namespace Go.Proofs.YteghhlfmcjmnoaaGreatDoor
open Go.RowKit
set_option maxHeartbeats 400000 in
theorem bitLength_any (w : World) (a : List Int) (v : Value) (ha : Lims w a v) (hal : a.length ≤ 10000000000) (hp : 0 < a.length) (ga : Nm.Dig 4294967296 a) :
    Calls Tryz.prog 149 #[v] w fun e w' => ∃ c : Nat, e = .returned (.int .i64 ((32 * (a.length - 1) + c : Nat) : Int)) ∧ c ≤ 32 ∧ w = w' := by
  obtain ⟨ao, cap, rfl, _⟩ := ha.shape
  obtain ⟨g, rfl, hc⟩ := ha.place hp
  have x1 := hc (a.length - 1) (by omega)
  have a0 := ga.at' (by decide) (a.length - 1)
  have l0 : ((a.length : Int) == 0) = false := beq_eq_false_iff_ne.2 (by omega)
  have i2 : ((a.length : Int) - 1).toNat = a.length - 1 := by omega
  clear ha hc ga
  generalize Nm.at' a (a.length - 1) = x at *
  obtain ⟨a1, a2⟩ := a0
  go_enter Tryz.func149, Tryz.ntmps149
  go_wp2_with fail
  go_loop [3, 4] (fun l t => ∃ (c : Nat) (T : Int), l = .int .i64 ((32 * (a.length - 1) + c : Nat) : Int) ∧ t = .int .u32 T ∧ 0 ≤ T ∧ T < 4294967296 ∧ T < 2 ^ (32 - c) ∧ c ≤ 32) (fun _ t => (intOf t).toNat)
  case atStart => exact ⟨0, x, by simp; omega, rfl, a1, a2, by simpa using a2, by omega⟩
  case round =>
    obtain ⟨c, T, rfl, rfl, t0, t3, t1, hc⟩ := hrel
    have HT := hid t1
    clear t1
    by_cases h : 0 < T
    · have hc2 : c < 32 := by
        rcases Nat.lt_or_ge c 32 with h1 | h1
        · exact h1
        · have := HT.out; rw [show 32 - c = 0 by omega] at this; simp at this; omega
      have ht : Hid (T / 2 < 2 ^ (32 - (c + 1))) := by
        have := HT.out
        rw [show 32 - c = (32 - (c + 1)) + 1 by omega, Int.pow_succ] at this
        show _ < _
        omega
      go_wp2_with fail
      go_round
      case rel => exact ⟨c + 1, T / 2, by simp; omega, rfl, by omega, by omega, ht.out, by omega⟩
      case measure => simp [intOf]; omega
    · go_wp2_with fail
      go_ret
      exact ⟨c, rfl, hc, rfl⟩
def upRel (w : World) (a : List Int) (wh p : Nat) (c i : Value) (wr : World) : Prop :=
  ∃ (k : Nat) (cc : Int) (out : List Int), i = .int .i64 k ∧ c = .int .u64 cc ∧ 0 ≤ cc ∧ cc < 2 ^ p ∧ k ≤ a.length ∧ LBlk wr w.heap.size out ∧ out.length = a.length + wh + 1 ∧ Nm.Dig 4294967296 out ∧ Below w.heap.size w wr ∧
    Nm.val 4294967296 (out.take (k + wh)) + cc * 4294967296 ^ (k + wh) = Nm.val 4294967296 (a.take k) * 2 ^ p * 4294967296 ^ wh
theorem up_carry {cc x D : Int} (hD : 0 < D) (c0 : 0 ≤ cc) (c1 : cc < D) (x0 : 0 ≤ x) (x1 : x < 4294967296) : 0 ≤ (cc + x * D) / 4294967296 ∧ (cc + x * D) / 4294967296 < D := by
  have h1 : 0 ≤ x * D := Int.mul_nonneg x0 (by omega)
  have h2 : x * D ≤ 4294967295 * D := Int.mul_le_mul_of_nonneg_right (by omega) (by omega)
  refine ⟨Int.ediv_nonneg (by omega) (by decide), Int.ediv_lt_of_lt_mul (by decide) ?_⟩
  omega
theorem up_step {a out : List Int} {wh k : Nat} {cc D : Int} (hk : k + wh < out.length) (h : Nm.val 4294967296 (out.take (k + wh)) + cc * 4294967296 ^ (k + wh) = Nm.val 4294967296 (a.take k) * D * 4294967296 ^ wh) :
    Nm.val 4294967296 ((out.set (k + wh) ((cc + Nm.at' a k * D) % 4294967296)).take (k + 1 + wh)) + (cc + Nm.at' a k * D) / 4294967296 * 4294967296 ^ (k + 1 + wh) = Nm.val 4294967296 (a.take (k + 1)) * D * 4294967296 ^ wh := by
  rw [show k + 1 + wh = (k + wh) + 1 by omega, Nm.take_set hk, Nm.val_snoc, List.length_take, Nat.min_eq_left (by omega), Nm.val_take, Int.pow_succ]
  have e := Int.emod_add_mul_ediv (cc + Nm.at' a k * D) 4294967296
  have e2 : (4294967296 : Int) ^ (k + wh) = 4294967296 ^ k * 4294967296 ^ wh := Int.pow_add _ _ _
  generalize (cc + Nm.at' a k * D) % 4294967296 = r at *
  generalize (cc + Nm.at' a k * D) / 4294967296 = q at *
  generalize Nm.at' a k = x at *
  rw [e2] at h ⊢
  generalize (4294967296 : Int) ^ k = P at *
  generalize (4294967296 : Int) ^ wh = R at *
  grind
theorem up_end {a out : List Int} {wh : Nat} {cc D : Int} (hl : out.length = a.length + wh + 1) (h : Nm.val 4294967296 (out.take (a.length + wh)) + cc * 4294967296 ^ (a.length + wh) = Nm.val 4294967296 (a.take a.length) * D * 4294967296 ^ wh) :
    Nm.val 4294967296 (out.set (a.length + wh) cc) = Nm.val 4294967296 a * D * 4294967296 ^ wh := by
  rw [List.take_length] at h
  rw [← h, ← Nm.val_take_all 4294967296 (out.set (a.length + wh) cc) (i := a.length + wh + 1) (by simp; omega), Nm.take_set (by omega), Nm.val_snoc, List.length_take, Nat.min_eq_left (by omega)]
set_option maxRecDepth 100000 in
set_option maxHeartbeats 2000000 in
theorem shiftUp_core (w : World) (a : List Int) (ao : Option Addr) (cap wh p : Nat) (ha : Lims w a (.slice ao a.length cap)) (hal : a.length ≤ 10000000000) (ga : Nm.Dig 4294967296 a) (hp : p < 32) (hwh : wh ≤ 10000000000) (bits : Int) (hb : bits = 32 * wh + p) :
    Calls Tryz.prog 150 #[.slice ao a.length cap, .int .i64 bits] w (LimPost w fun xs => Nm.Good 4294967296 xs ∧ Nm.val 4294967296 xs = Nm.val 4294967296 a * 2 ^ (32 * wh + p)) := by
  have hmk := run_make_row' (P := Tryz.prog) 78 142 (.int .u32 0) 4 Tryz.underlying78 infoU rfl .i64 .i64 (a.length + wh + 1) (by omega) (by omega)
  rw [show ((a.length + wh + 1 : Nat) : Int) = (a.length : Int) + wh + 1 by omega] at hmk
  have HA := hid ha
  have GA := hid ga
  have e1 : bits / 32 = wh := by omega
  have e2 : bits % 32 = p := by omega
  have e3 : ¬ bits < 0 := by omega
  have e5 : 0 ≤ bits := by omega
  have e6 : bits ≤ 400000000000 := by omega
  have hD : (0 : Int) < 2 ^ p := Nm.pow_pos' (by decide) p
  have hD2 : (2 : Int) ^ p ≤ 2147483648 := by have := Nm.pow_mono (B := 2) (by decide) (show p ≤ 31 by omega); exact this
  clear ha ga hb
  go_enter Tryz.func150, Tryz.ntmps150
  go_wp2_with fail
  go_loopw [8, 9] (fun c i wr => upRel w a wh p c i wr) (fun _ i _ => a.length - (intOf i).toNat)
  case atStart =>
    refine ⟨0, 0, List.replicate (a.length + wh + 1) 0, rfl, rfl, by omega, hD, Nat.zero_le _, LBlk.made w _, by simp, Nm.Dig.zeros (by decide) _, belowW (Below.refl _ _) (Nat.le_refl _) _, ?_⟩
    rw [List.take_replicate, Nm.val_zeros]
    simp [Nm.val]
  case round =>
    obtain ⟨k, cc, out, rfl, rfl, c0, c1, hk, hblk, hlen, hdig, hbel, hval⟩ := hrel
    by_cases hkn : (k : Int) < a.length
    · obtain ⟨g, rfl, hca⟩ := (HA.out.below hbel).place (by omega)
      have x1 := hca k (by omega)
      have k1 := hblk.cell (k + wh) (by omega)
      have k2 := hblk.frozen (k + wh)
      have i1 : (k : Int) + wh < (a.length : Int) + wh + 1 := by omega
      have i0 : (0 : Int) ≤ (k : Int) + wh := by omega
      have i2 : ((k : Int) + wh).toNat = k + wh := by omega
      have i3 : IntKind.i64.wrap ((k : Int) + wh) = (k : Int) + wh := by rw [IntKind.wrap_i64]; omega
      have a0 := GA.out.at' (by decide) k
      have hcar := up_carry hD c0 c1 a0.1 a0.2
      have REL : Hid (∀ X, X = cc + Nm.at' a k * 2 ^ p → upRel w a wh p (.int .u64 (X / 4294967296)) (.int .i64 ((k : Int) + 1)) (wr.setCell ⟨w.heap.size, k + wh, none⟩ (.int .u32 (X % 4294967296)))) := by
        rintro X rfl
        exact ⟨k + 1, _, out.set (k + wh) ((cc + Nm.at' a k * 2 ^ p) % 4294967296), by simp, rfl, hcar.1, hcar.2, by omega, hblk.set _ _, by simpa using hlen, hdig.set _ (by omega) (by omega), hbel.setCell (by simp) _, up_step (by omega) hval⟩
      have m0 : 0 ≤ Nm.at' a k * 2 ^ p := Int.mul_nonneg a0.1 (by omega)
      have m1 : Nm.at' a k * 2 ^ p ≤ 4294967295 * 2147483648 := Int.mul_le_mul (by omega) hD2 (by omega) (by omega)
      have HC1 := hid c1
      have c1' : cc < 2147483648 := by omega
      clear hca hval hlen hdig hbel hblk hcar c1
      generalize Nm.at' a k = x at *
      generalize Nm.at' out (k + wh) = o at *
      obtain ⟨a1, a2⟩ := a0
      go_wp2_with fail
      go_roundw
      case rel => exact REL.out _ rfl
      case measure => simp [intOf]; omega
    · obtain rfl : k = a.length := by omega
      have k1 := hblk.cell (a.length + wh) (by omega)
      have k2 := hblk.frozen (a.length + wh)
      have i1 : (a.length : Int) + wh < (a.length : Int) + wh + 1 := by omega
      have i0 : (0 : Int) ≤ (a.length : Int) + wh := by omega
      have i2 : ((a.length : Int) + wh).toNat = a.length + wh := by omega
      have i3 : IntKind.i64.wrap ((a.length : Int) + wh) = (a.length : Int) + wh := by rw [IntKind.wrap_i64]; omega
      have c1' : cc < 2147483648 := by omega
      have HE := hid (up_end hlen hval)
      have hb2 := hblk.set (a.length + wh) cc
      have hd2 := hdig.set (a.length + wh) (x := cc) c0 (by omega)
      have hl2 : (out.set (a.length + wh) cc).length = a.length + wh + 1 := by simpa using hlen
      have hbe2 : Below w.heap.size w (wr.setCell ⟨w.heap.size, a.length + wh, none⟩ (.int .u32 cc)) := hbel.setCell (by simp) _
      obtain ⟨o2, ho2⟩ : ∃ o2, o2 = out.set (a.length + wh) cc := ⟨_, rfl⟩
      rw [← ho2] at HE hb2 hd2 hl2
      obtain ⟨W2, hW2⟩ : ∃ W2, W2 = wr.setCell ⟨w.heap.size, a.length + wh, none⟩ (.int .u32 cc) := ⟨_, rfl⟩
      rw [← hW2] at hb2 hbe2
      have US := hid (used_any W2 o2 _ 0 (hb2.lims (by omega)) (by omega))
      rw [hl2] at US
      have hsl := Nm.strip_len o2
      rw [hl2] at hsl
      have HL := hid (hb2.used (B := w.heap.size) (by omega) (Nat.le_refl _))
      rw [hl2] at HL
      have HD := hid hd2
      have HBEL := hid hbe2
      have HW2 := hid hW2
      clear hval hlen hdig hbel hblk hb2 hd2 hl2 hbe2 hW2 ho2 c1
      generalize hn : (Nm.strip o2).length = n at *
      clear hn
      generalize Nm.at' out (a.length + wh) = o at *
      go_wp2_with fail
      rw [← HW2.out]
      clear HW2
      refine (US.out).mono ?_
      rintro e w1 ⟨rfl, rfl⟩
      go_wp2_with fail
      go_ret
      refine ⟨_, Nm.strip o2, rfl, ⟨Nm.good_strip HD.out, ?_⟩, HL.out, HBEL.out⟩
      rw [Nm.val_strip, HE.out, Int.pow_add, Int.pow_mul, show (2 : Int) ^ 32 = 4294967296 from rfl, Int.mul_assoc, Int.mul_comm (2 ^ p)]
theorem shiftUp_any (w : World) (a : List Int) (v : Value) (bits : Nat) (ha : Lims w a v) (hal : a.length ≤ 10000000000) (ga : Nm.Dig 4294967296 a) (hbb : bits ≤ 300000000000) :
    Calls Tryz.prog 150 #[v, .int .i64 bits] w (LimPost w fun xs => Nm.Good 4294967296 xs ∧ Nm.val 4294967296 xs = Nm.val 4294967296 a * 2 ^ bits) := by
  obtain ⟨ao, cap, rfl, _⟩ := ha.shape
  have := shiftUp_core w a ao cap (bits / 32) (bits % 32) ha hal ga (by omega) (by omega) bits (by omega)
  rw [show 32 * (bits / 32) + bits % 32 = bits by omega] at this
  exact this
end Go.Proofs.YteghhlfmcjmnoaaGreatDoor
