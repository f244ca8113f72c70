/- What a nest must be: the program's accesses. -/
import Derived.Test.YtgmjijjckedmcaaJl
namespace Go.Proofs.Ytgmjijjckedmcaa
namespace Vo
open Go.ChangeShapes Go.WideShapes Go.ChangeAt Go.RowKit Go.Joins Go.Sort
open Vl Vp
set_option linter.unusedVariables false
set_option linter.unusedSimpArgs false
/-- a loop that goes somewhere goes as far as its step, at least -/
theorem lohi_far {D LD : Nat → Int} {n : Nat} (hs : StOk D LD n) (hl : ∀ i, i < n → 1 ≤ LD i ∧ LD i ≤ 65536) {k : Nat} (hk : k < n) (h1 : LD k ≠ 1) : (0 ≤ D k → D k ≤ hiS D LD n) ∧ (D k < 0 → loS D LD n ≤ D k) := by
  induction n with
  | zero => omega
  | succ n ih =>
    have rg := lohi_rng (n := n) (fun i hi => hs i (by omega)) (fun i hi => hl i (by omega))
    have ln := hl n (by omega)
    by_cases c : k = n
    · subst c
      have m2 : 1 ≤ LD k - 1 := by omega
      constructor
      · intro h0
        have a := Int.mul_le_mul_of_nonneg_left m2 h0
        unfold hiS
        rw [if_neg (by omega)]
        omega
      · intro h0
        have a := Int.mul_le_mul_of_nonpos_left (a := D k) (by omega) m2
        unfold loS
        rw [if_pos h0]
        omega
    · have i1 := ih (fun i hi => hs i (by omega)) (fun i hi => hl i (by omega)) (by omega)
      unfold loS hiS
      by_cases c2 : D n < 0
      · have := mul_neg_le c2 (show 0 ≤ LD n - 1 by omega)
        rw [if_pos c2, if_pos c2]
        exact ⟨fun h => by have := i1.1 h; omega, fun h => by have := i1.2 h; omega⟩
      · have : 0 ≤ D n * (LD n - 1) := Int.mul_nonneg (by omega) (by omega)
        rw [if_neg c2, if_neg c2]
        exact ⟨fun h => by have := i1.1 h; omega, fun h => by have := i1.2 h; omega⟩
theorem strideN (x y : Int) (w : World) : Calls Try.prog 99 #[.int .i64 x, .int .i64 y] w fun e w' => e = .returned (.int .i64 (if x = 1 then 0 else y)) ∧ w' = w := by
  by_cases c : x = 1
  · have c' : (x == 1) = true := beq_iff_eq.2 c
    rw [if_pos c]
    clear c
    go_enter Try.func99, Try.ntmps99
    go_wp2_with fail
    go_ret
    exact ⟨rfl, rfl⟩
  · have c' : (x == 1) = false := by simp [c]
    rw [if_neg c]
    clear c
    go_enter Try.func99, Try.ntmps99
    go_wp2_with fail
    go_ret
    exact ⟨rfl, rfl⟩
set_option maxRecDepth 100000 in
set_option maxHeartbeats 8000000 in
theorem accFits (B : Nat) (x : AV) (la sa : Option Addr) (lr lcap sn scap : Nat) (LD SD : Nat → Int) (w : World) (hB : B ≤ w.heap.size) (hx : Ints B w x.a x.r x.D) (hl : Ints B w la lr LD) (hs : Ints B w sa sn SD) (xr : (x.r : Int) ≤ 1048576) (ub : bd x.u) (lp : LpOk lr LD) (sz : SzOk sn SD) :
    Calls Try.prog 87 #[x.val, .slice la lr lcap, .slice sa sn scap] w fun e w' => e = .returned (.bool (decide (AcOk x lr LD sn SD))) ∧ Below w.heap.size w w' := by
  obtain ⟨u, o, a, r, cap, D⟩ := x
  dsimp only at hx xr ub
  obtain ⟨W1, hW1⟩ : ∃ W1, w.alloc (.cells #[.int .i64 u, .int .i64 o, .slice a r cap] 87) = W1 := ⟨_, rfl⟩
  have BL := hide (show Below w.heap.size w W1 by rw [← hW1]; exact (Below.refl _ _).alloc (Nat.le_refl _) _)
  have p0 : W1.cell? ⟨w.heap.size, 0, none⟩ = some (.int .i64 u) := by rw [← hW1]; simp [go_sem]
  have p1 : W1.cell? ⟨w.heap.size, 1, none⟩ = some (.int .i64 o) := by rw [← hW1]; simp [go_sem]
  have p2 : W1.cell? ⟨w.heap.size, 2, none⟩ = some (.slice a r cap) := by rw [← hW1]; simp [go_sem]
  have zz : w.heap.size < W1.heap.size := World.block_lt_of_cell? _ _ p0
  have BL1 := hide (BL.out.trans (show Below w.heap.size W1 (W1.alloc (.cells #[.int .i64 u] 3)) from (Below.refl _ _).alloc BL.out.size _))
  have HX := hide hx
  have HL := hide hl
  have HS := hide hs
  have LP := hide lp
  have SZ := hide sz
  have l12 : (lr : Int) ≤ 12 := by have := lp.1; omega
  have s200 : (sn : Int) ≤ 200 := by have := sz.1; omega
  have CW := hide (within _ _ 1 1 (fun _ => u) sn _ (Nat.le_refl _) (ints_new1 W1 u 3 ub) (by omega))
  rw [wi_one] at CW
  clear hx hl hs lp sz ub
  unfold AV.val
  dsimp only
  go_enter Try.func87, Try.ntmps87
  by_cases u0 : 0 ≤ u ∧ u < sn
  case neg =>
    have e := hide (show ¬ AcOk ⟨u, o, a, r, cap, D⟩ lr LD sn SD from fun q => u0 q.1)
    rw [decide_eq_false u0] at CW
    clear u0
    go_wp2_with fail
    refine CW.out.mono ?_
    rintro e1 w2 ⟨rfl, b2⟩
    have BL2 := hide (BL1.out.trans (b2.mono BL1.out.size))
    go_wp2_with fail
    go_ret
    exact ⟨by rw [decide_eq_false e.out]; rfl, BL2.out⟩
  rw [decide_eq_true u0] at CW
  obtain ⟨n, rfl⟩ : ∃ n : Nat, u = n := ⟨u.toNat, by omega⟩
  have nlt : n < sn := by omega
  clear u0
  go_wp2_with fail
  refine CW.out.mono ?_
  rintro e1 w2 ⟨rfl, b2⟩
  have BL2 := hide (BL1.out.trans (b2.mono BL1.out.size))
  have old : ∀ i v, W1.cell? ⟨w.heap.size, i, none⟩ = some v → w2.cell? ⟨w.heap.size, i, none⟩ = some v := fun i v h => (b2.cell (p := ⟨w.heap.size, i, none⟩) (by simp only [World.size_alloc]; show w.heap.size < _; omega)).trans (cell_alloc_old' W1 _ h)
  have p0 := old _ _ p0
  have p1 := old _ _ p1
  have p2 := old _ _ p2
  have HX := hide (HX.out.below (BL2.out.mono hB))
  have HL := hide (HL.out.below (BL2.out.mono hB))
  have HS := hide (HS.out.below (BL2.out.mono hB))
  clear b2 old CW hW1 BL BL1
  by_cases r0 : r = lr
  case neg =>
    have e := hide (show ¬ AcOk ⟨n, o, a, r, cap, D⟩ lr LD sn SD from fun q => r0 q.2.1)
    have r0' : ((r : Int) != (lr : Int)) = true := by simp; omega
    have r1' : (r != lr) = true := by simp; omega
    have r2' : (r == lr) = false := by simp; omega
    clear r0
    go_wp2_with fail
    go_ret
    exact ⟨by rw [decide_eq_false e.out]; rfl, BL2.out⟩
  subst r0
  have rr : ((r : Int) != (r : Int)) = false := by simp
  rcases HS.out with z0 | ⟨sb, so, rfl, hsb, hsc⟩
  · omega
  have cs := (hsc n nlt).1
  have sr := SZ.out.2 n nlt
  have nI : (n : Int) < sn := by omega
  obtain ⟨S, hS⟩ : ∃ S, SD n = S := ⟨_, rfl⟩
  rw [hS] at cs sr
  have ES := hide hS
  clear hS hsc
  by_cases o0 : o < 0
  · have e := hide (show ¬ AcOk ⟨n, o, a, r, cap, D⟩ r LD sn SD from fun q => by have q1 : 0 ≤ o := q.2.2.1.1; omega)
    go_wp2_with fail
    go_ret
    exact ⟨by rw [decide_eq_false e.out]; rfl, BL2.out⟩
  have o0' : decide (o < 0) = false := by rw [decide_eq_false_iff_not]; exact o0
  by_cases o1 : S ≤ o
  · have e := hide (show ¬ AcOk ⟨n, o, a, r, cap, D⟩ r LD sn SD from fun q => by have q1 : o < SD (n : Int).toNat := q.2.2.1.2; rw [Int.toNat_natCast, ES.out] at q1; omega)
    clear o0
    go_wp2_with fail
    go_ret
    exact ⟨by rw [decide_eq_false e.out]; rfl, BL2.out⟩
  have o1' : decide (S ≤ o) = false := by rw [decide_eq_false_iff_not]; exact o1
  have o2 : 0 ≤ o := by omega
  have o3 : o < S := by omega
  have k0 := cell_regrown p0
  have k1 := cell_regrown p1
  have k2 := cell_regrown p2
  clear o0 o1
  go_wp2_with fail
  refine wp_region_quiet_below (by kernel_rfl) (by kernel_rfl) ?_
  repeat (go_big_quiet_step (fail))
  refine wpQuiet_nil ?_
  intro _ hw'
  obtain ⟨⟨dq, osq⟩, hw''⟩ := hw'
  subst hw''
  have bb := below_regrown w2 dq osq
  have BL3 := hide (BL2.out.trans (bb.mono BL2.out.size))
  have p2 := k2 dq osq
  have HX := hide (HX.out.below (bb.mono (Nat.le_trans hB BL2.out.size)))
  have HL := hide (HL.out.below (bb.mono (Nat.le_trans hB BL2.out.size)))
  clear bb k0 k1 k2 p0 p1 HS
  generalize Sort.grow (redrawn w2 dq) osq = W2 at *
  go_wp2_with fail
  clear p2
  go_loopw [8, 9, 49] (fun lo hi i wx => ∃ (k : Nat) (x y : Int), k ≤ r ∧ i = .int .i64 k ∧ lo = .int .i64 x ∧ hi = .int .i64 y ∧ x = o + loS D LD k ∧ y = o + hiS D LD k ∧ StOk D LD k ∧ wx = W2) (fun _ _ i _ => r - (intOf i).toNat)
  case atStart => exact ⟨0, o, o, Nat.zero_le _, rfl, rfl, rfl, by show o = o + 0; omega, by show o = o + 0; omega, fun i hi => by omega, rfl⟩
  case round =>
    obtain ⟨k, x, y, hk, rfl, rfl, rfl, hx, hy, hst, rfl⟩ := hrel
    have rng := lohi_rng hst (fun i hi => LP.out.2 i (by omega))
    have xb : -4294967296 ≤ x ∧ x ≤ 4096 := by omega
    have yb : 0 ≤ y ∧ y ≤ 4294967296 := by omega
    have EX := hide hx
    have EY := hide hy
    have ST := hide hst
    clear hx hy hst rng
    by_cases hlt : k < r
    case neg =>
      obtain rfl : k = r := by omega
      by_cases x0 : 0 ≤ x
      case neg =>
        have e := hide (show ¬ AcOk ⟨n, o, a, k, cap, D⟩ k LD sn SD from fun q => by have q1 : 0 ≤ o + loS D LD k := q.2.2.2.2.1; have := EX.out; omega)
        have x0' : decide (0 ≤ x) = false := by rw [decide_eq_false_iff_not]; exact x0
        clear x0
        go_wp2_with fail
        go_ret
        exact ⟨by rw [decide_eq_false e.out]; rfl, BL3.out⟩
      by_cases y0 : y < S
      case neg =>
        have e := hide (show ¬ AcOk ⟨n, o, a, k, cap, D⟩ k LD sn SD from fun q => by have q1 : o + hiS D LD k < SD (n : Int).toNat := q.2.2.2.2.2; rw [Int.toNat_natCast, ES.out] at q1; have := EY.out; omega)
        have y0' : decide (y < S) = false := by rw [decide_eq_false_iff_not]; exact y0
        clear y0
        go_wp2_with fail
        go_ret
        exact ⟨by rw [decide_eq_false e.out]; rfl, BL3.out⟩
      have e := hide (show AcOk ⟨n, o, a, k, cap, D⟩ k LD sn SD from ⟨⟨by show (0 : Int) ≤ n; omega, by show (n : Int) < sn; omega⟩, rfl, ⟨o2, by show o < SD (n : Int).toNat; rw [Int.toNat_natCast, ES.out]; exact o3⟩, ST.out, by show 0 ≤ o + loS D LD k; have := EX.out; omega, by show o + hiS D LD k < SD (n : Int).toNat; rw [Int.toNat_natCast, ES.out]; have := EY.out; omega⟩)
      go_wp2_with fail
      go_ret
      exact ⟨by rw [decide_eq_true e.out]; rfl, BL3.out⟩
    have kI : (k : Int) < r := by omega
    rcases HX.out with h0 | ⟨xb', xo, rfl, hxb, hxc⟩
    · omega
    rcases HL.out with h0 | ⟨lb, lo', rfl, hlb, hlc⟩
    · omega
    have c1 := (hxc k hlt).1
    have c2 := (hlc k hlt).1
    have lr := LP.out.2 k hlt
    clear hxc hlc
    obtain ⟨v, hv⟩ : ∃ v, D k = v := ⟨_, rfl⟩
    obtain ⟨l, hl⟩ : ∃ l, LD k = l := ⟨_, rfl⟩
    rw [hv] at c1
    rw [hl] at c2 lr
    have EV := hide hv
    have EL := hide hl
    clear hv hl
    have CS := hide (strideN l v wr)
    have wn : IntKind.i64.wrap (-S) = -S := by rw [IntKind.wrap_i64]; omega
    by_cases l1 : l = 1
    · subst l1
      rw [if_pos rfl] at CS
      by_cases v0 : v = 0
      · subst v0
        have E1 := hide (show x = o + loS D LD (k + 1) by show x = o + (loS D LD k + (if D k < 0 then D k * (LD k - 1) else 0)); rw [EV.out, if_neg (by omega)]; have := EX.out; omega)
        have E2 := hide (show y = o + hiS D LD (k + 1) by show y = o + (hiS D LD k + (if D k < 0 then 0 else D k * (LD k - 1))); rw [EV.out, if_neg (by omega), Int.zero_mul]; have := EY.out; omega)
        have E3 := hide (show StOk D LD (k + 1) from fun j hj => by
          by_cases c : j = k
          · rw [c, EV.out, EL.out]; exact ⟨fun _ => rfl, by omega, by omega⟩
          · exact ST.out j (by omega))
        have a1 : decide ((0 : Int) ≤ -S) = false := by rw [decide_eq_false_iff_not]; omega
        have a2 : decide (S ≤ (0 : Int)) = false := by rw [decide_eq_false_iff_not]; omega
        have a3 : decide (0 < S) = true := decide_eq_true (by omega)
        have w3 : IntKind.i64.wrap x = x := by rw [IntKind.wrap_i64]; omega
        have w4 : IntKind.i64.wrap y = y := by rw [IntKind.wrap_i64]; omega
        go_wp2_with fail
        refine CS.out.mono ?_
        rintro e1 w3 ⟨rfl, hw⟩
        have hw := hw.symm
        subst hw
        go_wp2_with fail
        go_roundw
        all_goals first
          | (simp only [intOf]; omega)
          | (simp [intOf]; omega)
          | exact ⟨k + 1, x, y, by omega, by go_num, by go_num, by go_num, E1.out, E2.out, E3.out, trivial⟩
      · have e := hide (show ¬ AcOk ⟨n, o, some ⟨xb', xo, none⟩, r, cap, D⟩ r LD sn SD from fun q => by have q1 := (q.2.2.2.1 k hlt).1 EL.out; have q2 : D k = 0 := q1; rw [EV.out] at q2; exact v0 q2)
        have v0' : (v != 0) = true := by simp [v0]
        have v1' : (v == 0) = false := by simp [v0]
        clear v0
        go_wp2_with fail
        refine CS.out.mono ?_
        rintro e1 w3 ⟨rfl, hw⟩
        have hw := hw.symm
        subst hw
        go_wp2_with fail
        go_ret
        exact ⟨by rw [decide_eq_false e.out]; rfl, BL3.out⟩
    rw [if_neg l1] at CS
    have vv : (v != v) = false := by simp
    by_cases v1 : v ≤ -S
    · have e := hide (show ¬ AcOk ⟨n, o, some ⟨xb', xo, none⟩, r, cap, D⟩ r LD sn SD from fun q => by have f := (lohi_far q.2.2.2.1 LP.out.2 hlt (by rw [EL.out]; exact l1)).2; have q1 : 0 ≤ o + loS D LD r := q.2.2.2.2.1; have f1 : D k < 0 → loS D LD r ≤ D k := f; rw [EV.out] at f1; have := f1 (by omega); omega)
      have v1' : decide (v ≤ -S) = true := decide_eq_true v1
      clear l1 v1
      go_wp2_with fail
      refine CS.out.mono ?_
      rintro e1 w3 ⟨rfl, hw⟩
      have hw := hw.symm
      subst hw
      go_wp2_with fail
      go_ret
      exact ⟨by rw [decide_eq_false e.out]; rfl, BL3.out⟩
    have v1' : decide (v ≤ -S) = false := by rw [decide_eq_false_iff_not]; exact v1
    by_cases v2 : S ≤ v
    · have e := hide (show ¬ AcOk ⟨n, o, some ⟨xb', xo, none⟩, r, cap, D⟩ r LD sn SD from fun q => by have f := (lohi_far q.2.2.2.1 LP.out.2 hlt (by rw [EL.out]; exact l1)).1; have q1 : o + hiS D LD r < SD (n : Int).toNat := q.2.2.2.2.2; rw [Int.toNat_natCast, ES.out] at q1; have f1 : 0 ≤ D k → D k ≤ hiS D LD r := f; rw [EV.out] at f1; have := f1 (by omega); omega)
      have v2' : decide (S ≤ v) = true := decide_eq_true v2
      clear l1 v1 v2
      go_wp2_with fail
      refine CS.out.mono ?_
      rintro e1 w3 ⟨rfl, hw⟩
      have hw := hw.symm
      subst hw
      go_wp2_with fail
      go_ret
      exact ⟨by rw [decide_eq_false e.out]; rfl, BL3.out⟩
    have v2' : decide (S ≤ v) = false := by rw [decide_eq_false_iff_not]; exact v2
    obtain ⟨m, hm⟩ : ∃ m, l - 1 = m := ⟨_, rfl⟩
    obtain ⟨t, ht⟩ : ∃ t, m * v = t := ⟨_, rfl⟩
    have ht' : v * m = t := by rw [Int.mul_comm]; exact ht
    have tb := mul_bds (s := v) (m := m) (by omega) (by omega) (by omega) (by omega)
    rw [ht'] at tb
    have w1 : IntKind.i64.wrap (l - 1) = m := by rw [hm, IntKind.wrap_i64]; omega
    have w2' : IntKind.i64.wrap (m * v) = t := by rw [ht, IntKind.wrap_i64]; omega
    have E3 := hide (show StOk D LD (k + 1) from fun j hj => by
      by_cases c : j = k
      · rw [c, EV.out, EL.out]; exact ⟨fun c => absurd c l1, by omega, by omega⟩
      · exact ST.out j (by omega))
    by_cases v3 : v < 0
    · have t0 := mul_neg_le v3 (show 0 ≤ m by omega)
      rw [ht'] at t0
      have t1 : min t 0 = t := by omega
      have t2 : max t 0 = 0 := by omega
      have E1 := hide (show x + t = o + loS D LD (k + 1) by show x + t = o + (loS D LD k + (if D k < 0 then D k * (LD k - 1) else 0)); rw [EV.out, EL.out, if_pos v3, hm, ht']; have := EX.out; omega)
      have E2 := hide (show y = o + hiS D LD (k + 1) by show y = o + (hiS D LD k + (if D k < 0 then 0 else D k * (LD k - 1))); rw [EV.out, if_pos v3]; have := EY.out; omega)
      have w5 : IntKind.i64.wrap (x + t) = x + t := by rw [IntKind.wrap_i64]; omega
      have w6 : IntKind.i64.wrap y = y := by rw [IntKind.wrap_i64]; omega
      clear l1 v1 v2 v3 hm ht ht'
      go_wp2_with fail
      refine CS.out.mono ?_
      rintro e1 w3 ⟨rfl, hw⟩
      have hw := hw.symm
      subst hw
      go_wp2_with fail
      go_roundw
      all_goals first
        | (simp only [intOf]; omega)
        | (simp [intOf]; omega)
        | exact ⟨k + 1, x + t, y, by omega, by go_num, by go_num, by go_num, E1.out, E2.out, E3.out, trivial⟩
    · have t0 : 0 ≤ t := by rw [← ht']; exact Int.mul_nonneg (by omega) (by omega)
      have t1 : min t 0 = 0 := by omega
      have t2 : max t 0 = t := by omega
      have E1 := hide (show x = o + loS D LD (k + 1) by show x = o + (loS D LD k + (if D k < 0 then D k * (LD k - 1) else 0)); rw [EV.out, if_neg v3]; have := EX.out; omega)
      have E2 := hide (show y + t = o + hiS D LD (k + 1) by show y + t = o + (hiS D LD k + (if D k < 0 then 0 else D k * (LD k - 1))); rw [EV.out, EL.out, if_neg v3, hm, ht']; have := EY.out; omega)
      have w5 : IntKind.i64.wrap (y + t) = y + t := by rw [IntKind.wrap_i64]; omega
      have w6 : IntKind.i64.wrap x = x := by rw [IntKind.wrap_i64]; omega
      clear l1 v1 v2 v3 hm ht ht'
      go_wp2_with fail
      refine CS.out.mono ?_
      rintro e1 w3 ⟨rfl, hw⟩
      have hw := hw.symm
      subst hw
      go_wp2_with fail
      go_roundw
      all_goals first
        | (simp only [intOf]; omega)
        | (simp [intOf]; omega)
        | exact ⟨k + 1, x, y + t, by omega, by go_num, by go_num, by go_num, E1.out, E2.out, E3.out, trivial⟩
end Vo
end Go.Proofs.Ytgmjijjckedmcaa
