/- How much a nest holds, told exactly. -/
import Derived.Test.YtgmjijjckedmcaaJf
namespace Go.Proofs.Ytgmjijjckedmcaa
namespace Vo
open Go.ChangeShapes Go.WideShapes Go.ChangeAt Go.RowKit Go.Joins Go.Sort
open Vl Vp
set_option linter.unusedVariables false
set_option linter.unusedSimpArgs false
def ksz (k : KV) : Nat := k.lr + (k.an + asum k.AA k.an) + k.st.r + k.cn
def kss (K : Nat → KV) : Nat → Nat | 0 => 0 | n + 1 => kss K n + ksz (K n)
def nsz (v : NV) : Nat := v.sn + v.i + (v.fn + fsum v.FF v.fn) + (v.kn + kss v.KK v.kn) + v.on
set_option maxHeartbeats 1000000 in
theorem szAccessSE (B : Nat) (a : Option Addr) (n cap : Nat) (A : Nat → AV) (l : Int) (w : World) (hB : B ≤ w.heap.size) (h : LA B w a n A) (hn : (n : Int) ≤ 9223372036854775807) (hl : ALen n A 9223372036854775807) (l0 : 0 ≤ l) (l1 : l ≤ 1048576) :
    Calls Try.prog 75 #[.slice a n cap, .int .i64 l] w fun e w' => ∃ x : Int, e = .returned (.int .i64 x) ∧ (0 ≤ x → x ≤ 1048576 ∧ x + asum A n + n = l) ∧ Below w.heap.size w w' := by
  have H := hide h
  have HL := hide hl
  have wl : IntKind.i64.wrap (l - n) = l - n := by rw [IntKind.wrap_i64]; omega
  clear h hl
  go_enter Try.func75, Try.ntmps75
  by_cases h0 : l - (n : Int) < 0
  · have h0' : decide (l - (n : Int) < 0) = true := decide_eq_true h0
    clear h0
    go_wp2_with fail
    go_ret
    exact ⟨-1, rfl, fun e => by omega, Below.refl _ _⟩
  have h0' : decide (l - (n : Int) < 0) = false := decide_eq_false h0
  have n1 : (n : Int) ≤ 1048576 := by omega
  go_wp2_with fail
  go_loopw [1, 5] (fun v i wx => ∃ (k : Nat) (x : Int), k ≤ n ∧ i = .int .i64 k ∧ v = .int .i64 x ∧ 0 ≤ x ∧ x ≤ 1048576 ∧ x + asum A k + n = l ∧ Below w.heap.size w wx) (fun _ i _ => n - (intOf i).toNat)
  case atStart => exact ⟨0, _, Nat.zero_le _, rfl, rfl, by omega, by omega, by show l - n + ((0 : Nat) : Int) + n = l; omega, Below.refl _ _⟩
  case round =>
    obtain ⟨X, rfl⟩ : ∃ X, X = wr := ⟨_, rfl⟩
    obtain ⟨k, x, hk, rfl, rfl, x0, x1, hs, hby⟩ := hrel
    have HS := hide hs
    have HBY := hide hby
    clear hs hby
    by_cases hlt : k < n
    · have kI : (k : Int) < n := by omega
      rcases H.out.below (HBY.out.mono hB) with q0 | ⟨blk, off, rfl, hbk, hc⟩
      · omega
      obtain ⟨c0, c1, c2, _⟩ := hc k hlt
      have lk := HL.out k hlt
      clear hc
      have CZ := hide (szAccess (A k).u (A k).o (A k).a (A k).r (A k).cap x X x0 x1 lk)
      go_wp2_with fail
      refine CZ.out.mono ?_
      rintro e X1 ⟨y, rfl, hy, b1⟩
      have BY1 := hide (HBY.out.trans (b1.mono HBY.out.size))
      have HY := hide hy
      clear hy b1 c0 c1 c2 lk CZ
      by_cases y0 : y < 0
      · have y0' : decide (y < 0) = true := decide_eq_true y0
        clear y0
        go_wp2_with fail
        go_ret
        exact ⟨-1, rfl, fun e => by omega, BY1.out⟩
      · have y0' : decide (y < 0) = false := decide_eq_false y0
        have y1 : 0 ≤ y := by omega
        have yy := HY.out y1
        have Y3 := hide (show y + asum A (k + 1) + n = l by
          have q := HS.out
          show y + ((asum A k + (A k).r : Nat) : Int) + n = l
          omega)
        have y2 : y ≤ 1048576 := by omega
        clear y0 yy
        go_wp2_with fail
        go_roundw
        all_goals first
          | (simp only [intOf]; omega)
          | (simp [intOf]; omega)
          | exact ⟨k + 1, y, by omega, by go_num, rfl, y1, y2, Y3.out, BY1.out⟩
    · obtain rfl : k = n := by omega
      go_wp2_with fail
      go_ret
      exact ⟨x, rfl, fun _ => ⟨x1, HS.out⟩, HBY.out⟩
set_option maxHeartbeats 1000000 in
theorem szFixSE (B : Nat) (a : Option Addr) (n cap : Nat) (A : Nat → FV) (l : Int) (w : World) (hB : B ≤ w.heap.size) (h : LF B w a n A) (hn : (n : Int) ≤ 9223372036854775807) (hl : FLen n A 9223372036854775807) (l0 : 0 ≤ l) (l1 : l ≤ 1048576) :
    Calls Try.prog 20 #[.slice a n cap, .int .i64 l] w fun e w' => ∃ x : Int, e = .returned (.int .i64 x) ∧ (0 ≤ x → x ≤ 1048576 ∧ x + fsum A n + n = l) ∧ Below w.heap.size w w' := by
  have H := hide h
  have HL := hide hl
  have wl : IntKind.i64.wrap (l - n) = l - n := by rw [IntKind.wrap_i64]; omega
  clear h hl
  go_enter Try.func20, Try.ntmps20
  by_cases h0 : l - (n : Int) < 0
  · have h0' : decide (l - (n : Int) < 0) = true := decide_eq_true h0
    clear h0
    go_wp2_with fail
    go_ret
    exact ⟨-1, rfl, fun e => by omega, Below.refl _ _⟩
  have h0' : decide (l - (n : Int) < 0) = false := decide_eq_false h0
  have n1 : (n : Int) ≤ 1048576 := by omega
  go_wp2_with fail
  go_loopw [1, 5] (fun v i wx => ∃ (k : Nat) (x : Int), k ≤ n ∧ i = .int .i64 k ∧ v = .int .i64 x ∧ 0 ≤ x ∧ x ≤ 1048576 ∧ x + fsum A k + n = l ∧ Below w.heap.size w wx) (fun _ i _ => n - (intOf i).toNat)
  case atStart => exact ⟨0, _, Nat.zero_le _, rfl, rfl, by omega, by omega, by show l - n + ((0 : Nat) : Int) + n = l; omega, Below.refl _ _⟩
  case round =>
    obtain ⟨X, rfl⟩ : ∃ X, X = wr := ⟨_, rfl⟩
    obtain ⟨k, x, hk, rfl, rfl, x0, x1, hs, hby⟩ := hrel
    have HS := hide hs
    have HBY := hide hby
    clear hs hby
    by_cases hlt : k < n
    · have kI : (k : Int) < n := by omega
      rcases H.out.below (HBY.out.mono hB) with q0 | ⟨blk, off, rfl, hbk, hc⟩
      · omega
      obtain ⟨c0, c2, _⟩ := hc k hlt
      have lk := HL.out k hlt
      clear hc
      have CZ := hide (szFix (A k).u (A k).a (A k).r (A k).cap x X x0 x1 lk)
      go_wp2_with fail
      refine CZ.out.mono ?_
      rintro e X1 ⟨y, rfl, hy, b1⟩
      have BY1 := hide (HBY.out.trans (b1.mono HBY.out.size))
      have HY := hide hy
      clear hy b1 c0 c2 lk CZ
      by_cases y0 : y < 0
      · have y0' : decide (y < 0) = true := decide_eq_true y0
        clear y0
        go_wp2_with fail
        go_ret
        exact ⟨-1, rfl, fun e => by omega, BY1.out⟩
      · have y0' : decide (y < 0) = false := decide_eq_false y0
        have y1 : 0 ≤ y := by omega
        have yy := HY.out y1
        have Y3 := hide (show y + fsum A (k + 1) + n = l by
          have q := HS.out
          show y + ((fsum A k + (A k).r : Nat) : Int) + n = l
          omega)
        have y2 : y ≤ 1048576 := by omega
        clear y0 yy
        go_wp2_with fail
        go_roundw
        all_goals first
          | (simp only [intOf]; omega)
          | (simp [intOf]; omega)
          | exact ⟨k + 1, y, by omega, by go_num, rfl, y1, y2, Y3.out, BY1.out⟩
    · obtain rfl : k = n := by omega
      go_wp2_with fail
      go_ret
      exact ⟨x, rfl, fun _ => ⟨x1, HS.out⟩, HBY.out⟩
set_option maxHeartbeats 1000000 in
theorem szKernelE (B : Nat) (k : KV) (l : Int) (w : World) (hB : B ≤ w.heap.size) (h : k.read B w) (hl : k.len 9223372036854775807) (l0 : 0 ≤ l) (l1 : l ≤ 1048576) :
    Calls Try.prog 44 #[k.val, .int .i64 l] w fun e w' => ∃ x : Int, e = .returned (.int .i64 x) ∧ (0 ≤ x → x ≤ 1048576 ∧ x + ksz k = l) ∧ Below w.heap.size w w' := by
  obtain ⟨la, lr, lcap, LD, aa, an, acap, AA, ⟨u, o, sa, sr, scap, SD⟩, sm, ca, cn, ccap, CC⟩ := k
  obtain ⟨_, h2, _, _⟩ := h
  obtain ⟨l2, l3, l4, l5, l6⟩ := hl
  have bl := hide (show Below w.heap.size w (w.alloc (.cells #[.slice la lr lcap, .slice aa an acap, .int .i64 u, .int .i64 o, .slice sa sr scap, .bool sm, .slice ca cn ccap] 81)) from (Below.refl _ _).alloc (Nat.le_refl _) _)
  have H2 := hide h2
  have L4 := hide l4
  clear h2 l4
  unfold KV.val
  dsimp only at *
  go_enter Try.func44, Try.ntmps44
  go_wp2_with fail
  refine (szIntS la lr lcap l _ l0 l1 l2).mono ?_; rintro e w1 ⟨x, rfl, hx, rfl⟩
  have HX := hide hx
  clear hx
  by_cases hx0 : x < 0
  · go_wp2_with fail
    go_ret
    exact ⟨_, rfl, fun h => by omega, bl.out⟩
  have hx0' : decide (x < 0) = false := by rw [decide_eq_false_iff_not]; exact hx0
  have hxl : x ≤ 1048576 := by have := HX.out; unfold Sz at this; omega
  have hx1 : 0 ≤ x := by omega
  clear hx0
  go_wp2_with fail
  refine (szAccessSE B aa an acap AA x _ (Nat.le_trans hB bl.out.size) (H2.out.below (bl.out.mono hB)) l3 L4.out hx1 hxl).mono ?_; rintro e w2 ⟨y, rfl, hy, b2⟩
  have HY := hide hy
  have hc := old_cells b2
  have c0 := fun i => hc w.heap.size i (by simp)
  have BL2 := hide (bl.out.trans (b2.mono bl.out.size))
  have ws2 : w.heap.size < w2.heap.size := by have := b2.size; simp at this; omega
  clear hy b2 hc
  by_cases hy0 : y < 0
  · go_wp2_with fail
    go_ret
    exact ⟨_, rfl, fun h => by omega, BL2.out⟩
  have hy0' : decide (y < 0) = false := by rw [decide_eq_false_iff_not]; exact hy0
  have hy1 : 0 ≤ y := by omega
  obtain ⟨hyl, ys⟩ := HY.out hy1
  have YS := hide ys
  clear hy0 ys
  go_wp2_with fail
  refine (szAccess u o sa sr scap y _ hy1 hyl l5).mono ?_; rintro e w3 ⟨z, rfl, hz, b3⟩
  have HZ := hide hz
  have hc := old_cells b3
  have c1 := fun i => hc w.heap.size i (by omega)
  have BL3 := hide (BL2.out.trans (b3.mono BL2.out.size))
  clear hz b3 hc
  by_cases hz0 : z < 0
  · go_wp2_with fail
    go_ret
    exact ⟨_, rfl, fun h => by omega, BL3.out⟩
  have hz0' : decide (z < 0) = false := by rw [decide_eq_false_iff_not]; exact hz0
  have hz1 : 0 ≤ z := by omega
  have ez := HZ.out hz1
  have zl : z ≤ 1048576 := by omega
  have EZ := hide ez
  clear hz0 ez
  go_wp2_with fail
  refine (szCalcS ca cn ccap z _ hz1 zl l6).mono ?_; rintro e w4 ⟨t, rfl, ht, rfl⟩
  have HT := hide ht
  clear ht
  by_cases ht0 : t < 0
  · go_wp2_with fail
    go_ret
    exact ⟨_, rfl, fun h => by omega, BL3.out⟩
  have ht0' : decide (t < 0) = false := by rw [decide_eq_false_iff_not]; exact ht0
  go_wp2_with fail
  go_ret
  refine ⟨_, rfl, fun _ => ?_, BL3.out⟩
  have e1 := HX.out
  have e2 := HT.out
  have e3 := EZ.out
  have e4 := YS.out
  unfold Sz at e1 e2
  refine ⟨by omega, ?_⟩
  show t + ((lr + (an + asum AA an) + sr + cn : Nat) : Int) = l
  omega
set_option maxHeartbeats 1000000 in
theorem szKernelSE (B : Nat) (a : Option Addr) (n cap : Nat) (K : Nat → KV) (l : Int) (w : World) (hB : B ≤ w.heap.size) (h : LK B w a n K) (hn : (n : Int) ≤ 9223372036854775807) (hl : KLen n K 9223372036854775807) (l0 : 0 ≤ l) (l1 : l ≤ 1048576) :
    Calls Try.prog 21 #[.slice a n cap, .int .i64 l] w fun e w' => ∃ x : Int, e = .returned (.int .i64 x) ∧ (0 ≤ x → x ≤ 1048576 ∧ x + kss K n + n = l) ∧ Below w.heap.size w w' := by
  have H := hide h
  have HL := hide hl
  have wl : IntKind.i64.wrap (l - n) = l - n := by rw [IntKind.wrap_i64]; omega
  clear h hl
  go_enter Try.func21, Try.ntmps21
  by_cases h0 : l - (n : Int) < 0
  · have h0' : decide (l - (n : Int) < 0) = true := decide_eq_true h0
    clear h0
    go_wp2_with fail
    go_ret
    exact ⟨-1, rfl, fun e => by omega, Below.refl _ _⟩
  have h0' : decide (l - (n : Int) < 0) = false := decide_eq_false h0
  have n1 : (n : Int) ≤ 1048576 := by omega
  go_wp2_with fail
  go_loopw [1, 5] (fun v i wx => ∃ (k : Nat) (x : Int), k ≤ n ∧ i = .int .i64 k ∧ v = .int .i64 x ∧ 0 ≤ x ∧ x ≤ 1048576 ∧ x + kss K k + n = l ∧ Below w.heap.size w wx) (fun _ i _ => n - (intOf i).toNat)
  case atStart => exact ⟨0, _, Nat.zero_le _, rfl, rfl, by omega, by omega, by show l - n + ((0 : Nat) : Int) + n = l; omega, Below.refl _ _⟩
  case round =>
    obtain ⟨X, rfl⟩ : ∃ X, X = wr := ⟨_, rfl⟩
    obtain ⟨k, x, hk, rfl, rfl, x0, x1, hs, hby⟩ := hrel
    have HS := hide hs
    have HBY := hide hby
    clear hs hby
    by_cases hlt : k < n
    · have kI : (k : Int) < n := by omega
      rcases H.out.below (HBY.out.mono hB) with q0 | ⟨blk, off, rfl, hbk, hc⟩
      · omega
      obtain ⟨⟨c0, c1, c2, c3, c4, c5, c6⟩, rd⟩ := hc k hlt
      have CZ := hide (szKernelE B (K k) x X (Nat.le_trans hB HBY.out.size) rd (HL.out k hlt) x0 x1)
      unfold KV.val at CZ
      clear hc rd
      go_wp2_with fail
      refine CZ.out.mono ?_
      rintro e X1 ⟨y, rfl, hy, b1⟩
      have BY1 := hide (HBY.out.trans (b1.mono HBY.out.size))
      have HY := hide hy
      clear hy b1 c0 c1 c2 c3 c4 c5 c6 CZ
      by_cases y0 : y < 0
      · have y0' : decide (y < 0) = true := decide_eq_true y0
        clear y0
        go_wp2_with fail
        go_ret
        exact ⟨-1, rfl, fun e => by omega, BY1.out⟩
      · have y0' : decide (y < 0) = false := decide_eq_false y0
        have y1 : 0 ≤ y := by omega
        have y2 := (HY.out y1).1
        have Y3 := hide (show y + kss K (k + 1) + n = l by
          have q := HS.out
          have q2 := (HY.out y1).2
          show y + ((kss K k + ksz (K k) : Nat) : Int) + n = l
          omega)
        clear y0
        go_wp2_with fail
        go_roundw
        all_goals first
          | (simp only [intOf]; omega)
          | (simp [intOf]; omega)
          | exact ⟨k + 1, y, by omega, by go_num, rfl, y1, y2, Y3.out, BY1.out⟩
    · obtain rfl : k = n := by omega
      go_wp2_with fail
      go_ret
      exact ⟨x, rfl, fun _ => ⟨x1, HS.out⟩, HBY.out⟩
set_option maxHeartbeats 1000000 in
theorem szNestE (B : Nat) (v : NV) (l : Int) (w : World) (hB : B ≤ w.heap.size) (h : v.read B w) (hl : v.len 9223372036854775807) (l0 : 0 ≤ l) (l1 : l ≤ 1048576) :
    Calls Try.prog 5 #[v.val, .int .i64 l] w fun e w' => ∃ x : Int, e = .returned (.int .i64 x) ∧ (0 ≤ x → x ≤ 1048576 ∧ x + nsz v = l) ∧ Below w.heap.size w w' := by
  obtain ⟨sa, sn, scap, SD, ia, i, icap, ID, fa, fn, fcap, FF, ka, kn, kcap, KK, oa, on, ocap, OD⟩ := v
  obtain ⟨_, _, h3, h4, _⟩ := h
  obtain ⟨l2, l3, ⟨l4, l5⟩, ⟨l6, l7⟩, l8⟩ := hl
  have bl := hide (show Below w.heap.size w (w.alloc (.cells #[.slice sa sn scap, .slice ia i icap, .slice fa fn fcap, .slice ka kn kcap, .slice oa on ocap] 26)) from (Below.refl _ _).alloc (Nat.le_refl _) _)
  have H3 := hide h3
  have H4 := hide h4
  have L5 := hide l5
  have L7 := hide l7
  clear h3 h4 l5 l7
  unfold NV.val
  dsimp only at *
  go_enter Try.func5, Try.ntmps5
  go_wp2_with fail
  refine (szIntS sa sn scap l _ l0 l1 l2).mono ?_; rintro e w1 ⟨x, rfl, hx, rfl⟩
  have HX := hide hx
  clear hx
  by_cases hx0 : x < 0
  · go_wp2_with fail
    go_ret
    exact ⟨_, rfl, fun h => by omega, bl.out⟩
  have hx0' : decide (x < 0) = false := by rw [decide_eq_false_iff_not]; exact hx0
  have hxl : x ≤ 1048576 := by have := HX.out; unfold Sz at this; omega
  have hx1 : 0 ≤ x := by omega
  clear hx0
  go_wp2_with fail
  refine (szIntS ia i icap x _ hx1 hxl l3).mono ?_; rintro e w1 ⟨y, rfl, hy, rfl⟩
  have HY := hide hy
  clear hy
  by_cases hy0 : y < 0
  · go_wp2_with fail
    go_ret
    exact ⟨_, rfl, fun h => by omega, bl.out⟩
  have hy0' : decide (y < 0) = false := by rw [decide_eq_false_iff_not]; exact hy0
  have hyl : y ≤ 1048576 := by have := HY.out; unfold Sz at this; omega
  have hy1 : 0 ≤ y := by omega
  clear hy0
  go_wp2_with fail
  refine (szFixSE B fa fn fcap FF y _ (Nat.le_trans hB bl.out.size) (H3.out.below (bl.out.mono hB)) l4 L5.out hy1 hyl).mono ?_; rintro e w2 ⟨z, rfl, hz, b2⟩
  have HZ := hide hz
  have hc := old_cells b2
  have c0 := fun i => hc w.heap.size i (by simp)
  have BL2 := hide (bl.out.trans (b2.mono bl.out.size))
  have ws2 : w.heap.size < w2.heap.size := by have := b2.size; simp at this; omega
  clear hz b2 hc
  by_cases hz0 : z < 0
  · go_wp2_with fail
    go_ret
    exact ⟨_, rfl, fun h => by omega, BL2.out⟩
  have hz0' : decide (z < 0) = false := by rw [decide_eq_false_iff_not]; exact hz0
  have hz1 : 0 ≤ z := by omega
  obtain ⟨hzl, zs⟩ := HZ.out hz1
  have ZS := hide zs
  clear hz0 zs
  go_wp2_with fail
  refine (szKernelSE B ka kn kcap KK z _ (Nat.le_trans hB BL2.out.size) (H4.out.below (BL2.out.mono hB)) l6 L7.out hz1 hzl).mono ?_; rintro e w3 ⟨t, rfl, ht, b3⟩
  have HT := hide ht
  have hc := old_cells b3
  have c1 := fun i => hc w.heap.size i (by omega)
  have BL3 := hide (BL2.out.trans (b3.mono BL2.out.size))
  clear ht b3 hc
  by_cases ht0 : t < 0
  · go_wp2_with fail
    go_ret
    exact ⟨_, rfl, fun h => by omega, BL3.out⟩
  have ht0' : decide (t < 0) = false := by rw [decide_eq_false_iff_not]; exact ht0
  have ht1 : 0 ≤ t := by omega
  obtain ⟨htl, ts⟩ := HT.out ht1
  have TS := hide ts
  clear ht0 ts
  go_wp2_with fail
  refine (szIntS oa on ocap t _ ht1 htl l8).mono ?_; rintro e w4 ⟨q, rfl, hq, rfl⟩
  have HQ := hide hq
  clear hq
  by_cases hq0 : q < 0
  · go_wp2_with fail
    go_ret
    exact ⟨_, rfl, fun h => by omega, BL3.out⟩
  have hq0' : decide (q < 0) = false := by rw [decide_eq_false_iff_not]; exact hq0
  go_wp2_with fail
  go_ret
  refine ⟨_, rfl, fun _ => ?_, BL3.out⟩
  have e1 := HX.out
  have e2 := HY.out
  have e3 := HQ.out
  unfold Sz at e1 e2 e3
  have e4 := ZS.out
  have e5 := TS.out
  refine ⟨by omega, ?_⟩
  show q + ((sn + i + (fn + fsum FF fn) + (kn + kss KK kn) + on : Nat) : Int) = l
  omega
theorem kss_le {K : Nat → KV} {n i : Nat} (h : i < n) : ksz (K i) ≤ kss K n := by
  induction n with
  | zero => omega
  | succ n ih =>
    show _ ≤ kss K n + ksz (K n)
    by_cases c : i = n
    · subst c; omega
    · have := ih (by omega); omega
theorem nlen_of {v : NV} (h : (nsz v : Int) ≤ 1048576) : v.len 1048576 := by
  unfold nsz at h
  refine ⟨by omega, by omega, ⟨by omega, flen_of (by omega)⟩, ⟨by omega, fun i hi => ?_⟩, by omega⟩
  have q := kss_le (K := v.KK) hi
  unfold ksz at q
  exact ⟨by omega, by omega, alen_of (by omega), by omega, by omega⟩
end Vo
end Go.Proofs.Ytgmjijjckedmcaa
