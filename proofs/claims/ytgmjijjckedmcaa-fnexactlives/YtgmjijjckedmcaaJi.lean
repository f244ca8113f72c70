/- What a nest must be: the model's accesses and kernels. -/
import Derived.Test.YtgmjijjckedmcaaJh
import Derived.Lib.QuietBelow
import Derived.BigQuiet
namespace Go.Proofs.Ytgmjijjckedmcaa
namespace Vo
open Go.ChangeShapes Go.WideShapes Go.ChangeAt Go.RowKit Go.Joins Go.Sort
open Vl Vp
set_option linter.unusedVariables false
set_option linter.unusedSimpArgs false
/-- how far below and above its offset an access goes -/
def loS (D LD : Nat → Int) : Nat → Int | 0 => 0 | n + 1 => loS D LD n + (if D n < 0 then D n * (LD n - 1) else 0)
def hiS (D LD : Nat → Int) : Nat → Int | 0 => 0 | n + 1 => hiS D LD n + (if D n < 0 then 0 else D n * (LD n - 1))
/-- loops that can be -/
def LpOk (lr : Nat) (LD : Nat → Int) : Prop := lr ≤ 12 ∧ ∀ i, i < lr → 1 ≤ LD i ∧ LD i ≤ 65536
/-- sizes that can be -/
def SzOk (sn : Nat) (SD : Nat → Int) : Prop := sn ≤ 200 ∧ ∀ i, i < sn → 0 ≤ SD i ∧ SD i ≤ 4096
/-- steps that can be -/
def StOk (D LD : Nat → Int) (n : Nat) : Prop := ∀ i, i < n → (LD i = 1 → D i = 0) ∧ -4096 ≤ D i ∧ D i ≤ 4096
/-- an access that can be -/
def AcOk (x : AV) (lr : Nat) (LD : Nat → Int) (sn : Nat) (SD : Nat → Int) : Prop :=
  (0 ≤ x.u ∧ x.u < sn) ∧ x.r = lr ∧ (0 ≤ x.o ∧ x.o < SD x.u.toNat) ∧ StOk x.D LD lr ∧ 0 ≤ x.o + loS x.D LD lr ∧ x.o + hiS x.D LD lr < SD x.u.toNat
instance (D LD : Nat → Int) (n : Nat) : Decidable (StOk D LD n) := by unfold StOk; infer_instance
instance (x : AV) (lr : Nat) (LD : Nat → Int) (sn : Nat) (SD : Nat → Int) : Decidable (AcOk x lr LD sn SD) := by unfold AcOk; infer_instance
theorem mul_bds {s m : Int} (h1 : -4096 ≤ s) (h2 : s ≤ 4096) (m0 : 0 ≤ m) (m1 : m ≤ 65535) : -268435456 ≤ s * m ∧ s * m ≤ 268435456 := by
  have a := Int.mul_le_mul_of_nonneg_right h2 m0
  have b := Int.mul_le_mul_of_nonneg_right h1 m0
  omega
theorem mul_neg_le {s m : Int} (h : s < 0) (m0 : 0 ≤ m) : s * m ≤ 0 := Int.mul_nonpos_of_nonpos_of_nonneg (by omega) m0
theorem lohi_rng {D LD : Nat → Int} {n : Nat} (hs : StOk D LD n) (hl : ∀ i, i < n → 1 ≤ LD i ∧ LD i ≤ 65536) : (-(268435456 * (n : Int)) ≤ loS D LD n ∧ loS D LD n ≤ 0) ∧ 0 ≤ hiS D LD n ∧ hiS D LD n ≤ 268435456 * (n : Int) := by
  induction n with
  | zero => unfold loS hiS; omega
  | succ n ih =>
    have i1 := ih (fun i hi => hs i (by omega)) (fun i hi => hl i (by omega))
    have s1 := hs n (by omega)
    have l1 := hl n (by omega)
    have m := mul_bds s1.2.1 s1.2.2 (m := LD n - 1) (by omega) (by omega)
    unfold loS hiS
    by_cases c : D n < 0
    · have := mul_neg_le c (show 0 ≤ LD n - 1 by omega)
      rw [if_pos c, if_pos c]
      omega
    · have : 0 ≤ D n * (LD n - 1) := Int.mul_nonneg (by omega) (by omega)
      rw [if_neg c, if_neg c]
      omega
set_option maxRecDepth 100000 in
set_option maxHeartbeats 8000000 in
theorem l11Access (B : Nat) (x : AV) (la sa : Option Addr) (lr lcap sn scap : Nat) (LD SD : Nat → Int) (w : World) (hB : B ≤ w.heap.size) (hx : Ints B w x.a x.r x.D) (hl : Ints B w la lr LD) (hs : Ints B w sa sn SD) (xr : (x.r : Int) ≤ 1048576) (lp : LpOk lr LD) (sz : SzOk sn SD) :
    Calls Try.prog 79 #[x.val, .slice la lr lcap, .slice sa sn scap] w fun e w' => e = .returned (.bool (decide (AcOk x lr LD sn SD))) ∧ Below w.heap.size w w' := by
  obtain ⟨u, o, a, r, cap, D⟩ := x
  dsimp only at hx xr
  obtain ⟨W1, hW1⟩ : ∃ W1, w.alloc (.cells #[.int .i64 u, .int .i64 o, .slice a r cap] 87) = W1 := ⟨_, rfl⟩
  have BL := hide (show Below w.heap.size w W1 by rw [← hW1]; exact (Below.refl _ _).alloc (Nat.le_refl _) _)
  have p0 : W1.cell? ⟨w.heap.size, 0, none⟩ = some (.int .i64 u) := by rw [← hW1]; simp [go_sem]
  have p1 : W1.cell? ⟨w.heap.size, 1, none⟩ = some (.int .i64 o) := by rw [← hW1]; simp [go_sem]
  have p2 : W1.cell? ⟨w.heap.size, 2, none⟩ = some (.slice a r cap) := by rw [← hW1]; simp [go_sem]
  have HX := hide (hx.below (BL.out.mono hB))
  have HL := hide (hl.below (BL.out.mono hB))
  have HS := hide (hs.below (BL.out.mono hB))
  have k0 := cell_regrown p0
  have k1 := cell_regrown p1
  have k2 := cell_regrown p2
  have LP := hide lp
  have SZ := hide sz
  have l12 : (lr : Int) ≤ 12 := by have := lp.1; omega
  have s200 : (sn : Int) ≤ 200 := by have := sz.1; omega
  clear hx hl hs lp sz
  unfold AV.val
  dsimp only
  go_enter Try.func79, Try.ntmps79
  by_cases u0 : u < 0
  · have e := hide (show ¬ AcOk ⟨u, o, a, r, cap, D⟩ lr LD sn SD from fun q => by have q1 : 0 ≤ u := q.1.1; omega)
    go_wp2_with fail
    refine wp_region_quiet_below (by kernel_rfl) (by kernel_rfl) ?_
    repeat (go_big_quiet_step (fail))
    refine wpQuiet_nil ?_
    intro _ hw'
    obtain ⟨⟨dq, osq⟩, hw''⟩ := hw'
    subst hw''
    go_wp2_with fail
    go_ret
    exact ⟨by rw [decide_eq_false e.out]; rfl, BL.out.trans ((below_regrown W1 dq osq).mono BL.out.size)⟩
  have u0' : decide (u < 0) = false := by rw [decide_eq_false_iff_not]; exact u0
  by_cases u1 : (sn : Int) ≤ u
  · have e := hide (show ¬ AcOk ⟨u, o, a, r, cap, D⟩ lr LD sn SD from fun q => by have q1 : u < sn := q.1.2; omega)
    clear u0
    go_wp2_with fail
    refine wp_region_quiet_below (by kernel_rfl) (by kernel_rfl) ?_
    repeat (go_big_quiet_step (fail))
    refine wpQuiet_nil ?_
    intro _ hw'
    obtain ⟨⟨dq, osq⟩, hw''⟩ := hw'
    subst hw''
    go_wp2_with fail
    go_ret
    exact ⟨by rw [decide_eq_false e.out]; rfl, BL.out.trans ((below_regrown W1 dq osq).mono BL.out.size)⟩
  have u1' : decide ((sn : Int) ≤ u) = false := by rw [decide_eq_false_iff_not]; exact u1
  obtain ⟨n, rfl⟩ : ∃ n : Nat, u = n := ⟨u.toNat, by omega⟩
  have nlt : n < sn := by omega
  have u2' : decide (sn ≤ n) = false := by rw [decide_eq_false_iff_not]; omega
  clear u0 u1
  by_cases r0 : r = lr
  case neg =>
    have e := hide (show ¬ AcOk ⟨n, o, a, r, cap, D⟩ lr LD sn SD from fun q => r0 q.2.1)
    have r0' : ((r : Int) != (lr : Int)) = true := by simp; omega
    have r1' : (r != lr) = true := by simp; omega
    have r2' : (r == lr) = false := by simp; omega
    clear r0
    go_wp2_with fail
    refine wp_region_quiet_below (by kernel_rfl) (by kernel_rfl) ?_
    repeat (go_big_quiet_step (fail))
    refine wpQuiet_nil ?_
    intro _ hw'
    obtain ⟨⟨dq, osq⟩, hw''⟩ := hw'
    subst hw''
    go_wp2_with fail
    go_ret
    exact ⟨by rw [decide_eq_false e.out]; rfl, BL.out.trans ((below_regrown W1 dq osq).mono BL.out.size)⟩
  subst r0
  have rr : ((r : Int) != (r : Int)) = false := by simp
  by_cases o0 : o < 0
  · have e := hide (show ¬ AcOk ⟨n, o, a, r, cap, D⟩ r LD sn SD from fun q => by have q1 : 0 ≤ o := q.2.2.1.1; omega)
    go_wp2_with fail
    refine wp_region_quiet_below (by kernel_rfl) (by kernel_rfl) ?_
    repeat (go_big_quiet_step (fail))
    refine wpQuiet_nil ?_
    intro _ hw'
    obtain ⟨⟨dq, osq⟩, hw''⟩ := hw'
    subst hw''
    go_wp2_with fail
    go_ret
    exact ⟨by rw [decide_eq_false e.out]; rfl, BL.out.trans ((below_regrown W1 dq osq).mono BL.out.size)⟩
  have o0' : decide (o < 0) = false := by rw [decide_eq_false_iff_not]; exact o0
  rcases HS.out with z0 | ⟨sb, so, rfl, hsb, hsc⟩
  · omega
  have cs := (hsc n nlt).1
  have sr := SZ.out.2 n nlt
  obtain ⟨S, hS⟩ : ∃ S, SD n = S := ⟨_, rfl⟩
  rw [hS] at cs sr
  have ES := hide hS
  have k3 := cell_regrown cs
  clear hS hsc
  by_cases o1 : S ≤ o
  · have e := hide (show ¬ AcOk ⟨n, o, a, r, cap, D⟩ r LD sn SD from fun q => by have q1 : o < SD (n : Int).toNat := q.2.2.1.2; rw [Int.toNat_natCast, ES.out] at q1; omega)
    clear o0
    go_wp2_with fail
    refine wp_region_quiet_below (by kernel_rfl) (by kernel_rfl) ?_
    repeat (go_big_quiet_step (fail))
    refine wpQuiet_nil ?_
    intro _ hw'
    obtain ⟨⟨dq, osq⟩, hw''⟩ := hw'
    subst hw''
    go_wp2_with fail
    go_ret
    exact ⟨by rw [decide_eq_false e.out]; rfl, BL.out.trans ((below_regrown W1 dq osq).mono BL.out.size)⟩
  have o1' : decide (S ≤ o) = false := by rw [decide_eq_false_iff_not]; exact o1
  have o2 : 0 ≤ o := by omega
  have o3 : o < S := by omega
  clear o0 o1
  go_wp2_with fail
  refine wp_region_quiet_below (by kernel_rfl) (by kernel_rfl) ?_
  repeat (go_big_quiet_step (fail))
  refine wpQuiet_nil ?_
  intro _ hw'
  obtain ⟨⟨dq, osq⟩, hw''⟩ := hw'
  subst hw''
  have bb := below_regrown W1 dq osq
  have BL2 := hide (BL.out.trans (bb.mono BL.out.size))
  have p0 := (bb.cell (p := ⟨w.heap.size, 0, none⟩) (World.block_lt_of_cell? _ _ p0)).trans p0
  have p1 := (bb.cell (p := ⟨w.heap.size, 1, none⟩) (World.block_lt_of_cell? _ _ p1)).trans p1
  have p2 := (bb.cell (p := ⟨w.heap.size, 2, none⟩) (World.block_lt_of_cell? _ _ p2)).trans p2
  have HX := hide (HX.out.below (bb.mono (Nat.le_trans hB BL.out.size)))
  have HL := hide (HL.out.below (bb.mono (Nat.le_trans hB BL.out.size)))
  have cs := (bb.cell (p := ⟨sb, so + n, none⟩) (Nat.lt_of_lt_of_le hsb (Nat.le_trans hB BL.out.size))).trans cs
  clear bb k0 k1 k2 k3 HS hW1
  generalize Sort.grow (redrawn W1 dq) osq = W2 at *
  go_wp2_with fail
  go_loopw [7, 8, 9] (fun lo hi i wx => ∃ (k : Nat) (x y : Int), k ≤ r ∧ i = .int .i64 k ∧ lo = .int .i64 x ∧ hi = .int .i64 y ∧ x = o + loS D LD k ∧ y = o + hiS D LD k ∧ StOk D LD k ∧ wx = W2) (fun _ _ i _ => r - (intOf i).toNat)
  case atStart => exact ⟨0, o, o, Nat.zero_le _, rfl, rfl, rfl, by show o = o + 0; omega, by show o = o + 0; omega, fun i hi => by omega, rfl⟩
  case round =>
    obtain ⟨k, x, y, hk, rfl, rfl, rfl, hx, hy, hst, rfl⟩ := hrel
    have rng := lohi_rng hst (fun i hi => LP.out.2 i (by omega))
    have xb : -4294967296 ≤ x ∧ x ≤ 4096 := by omega
    have yb : 0 ≤ y ∧ y ≤ 4294967296 := by omega
    have EX := hide hx
    have EY := hide hy
    have ST := hide hst
    clear hx hy hst rng
    by_cases hlt : k < r
    case neg =>
      obtain rfl : k = r := by omega
      by_cases x0 : 0 ≤ x
      case neg =>
        have e := hide (show ¬ AcOk ⟨n, o, a, k, cap, D⟩ k LD sn SD from fun q => by have q1 : 0 ≤ o + loS D LD k := q.2.2.2.2.1; have := EX.out; omega)
        have x0' : decide (0 ≤ x) = false := by rw [decide_eq_false_iff_not]; exact x0
        clear x0
        go_wp2_with fail
        go_ret
        exact ⟨by rw [decide_eq_false e.out]; rfl, BL2.out⟩
      by_cases y0 : y < S
      case neg =>
        have e := hide (show ¬ AcOk ⟨n, o, a, k, cap, D⟩ k LD sn SD from fun q => by have q1 : o + hiS D LD k < SD (n : Int).toNat := q.2.2.2.2.2; rw [Int.toNat_natCast, ES.out] at q1; have := EY.out; omega)
        have y0' : decide (y < S) = false := by rw [decide_eq_false_iff_not]; exact y0
        clear y0
        go_wp2_with fail
        go_ret
        exact ⟨by rw [decide_eq_false e.out]; rfl, BL2.out⟩
      have e := hide (show AcOk ⟨n, o, a, k, cap, D⟩ k LD sn SD from ⟨⟨by show (0 : Int) ≤ n; omega, by show (n : Int) < sn; omega⟩, rfl, ⟨o2, by show o < SD (n : Int).toNat; rw [Int.toNat_natCast, ES.out]; exact o3⟩, ST.out, by show 0 ≤ o + loS D LD k; have := EX.out; omega, by show o + hiS D LD k < SD (n : Int).toNat; rw [Int.toNat_natCast, ES.out]; have := EY.out; omega⟩)
      go_wp2_with fail
      go_ret
      exact ⟨by rw [decide_eq_true e.out]; rfl, BL2.out⟩
    have kI : (k : Int) < r := by omega
    rcases HX.out with h0 | ⟨xb', xo, rfl, hxb, hxc⟩
    · omega
    rcases HL.out with h0 | ⟨lb, lo', rfl, hlb, hlc⟩
    · omega
    have c1 := (hxc k hlt).1
    have c2 := (hlc k hlt).1
    have lr := LP.out.2 k hlt
    clear hxc hlc
    obtain ⟨v, hv⟩ : ∃ v, D k = v := ⟨_, rfl⟩
    obtain ⟨l, hl⟩ : ∃ l, LD k = l := ⟨_, rfl⟩
    rw [hv] at c1
    rw [hl] at c2 lr
    have EV := hide hv
    have EL := hide hl
    clear hv hl
    by_cases l1 : l = 1
    · subst l1
      by_cases v0 : v = 0
      · subst v0
        have E1 := hide (show x = o + loS D LD (k + 1) by show x = o + (loS D LD k + (if D k < 0 then D k * (LD k - 1) else 0)); rw [EV.out, if_neg (by omega)]; have := EX.out; omega)
        have E2 := hide (show y = o + hiS D LD (k + 1) by show y = o + (hiS D LD k + (if D k < 0 then 0 else D k * (LD k - 1))); rw [EV.out, if_neg (by omega), Int.zero_mul]; have := EY.out; omega)
        have E3 := hide (show StOk D LD (k + 1) from fun j hj => by
          by_cases c : j = k
          · rw [c, EV.out, EL.out]; exact ⟨fun _ => rfl, by omega, by omega⟩
          · exact ST.out j (by omega))
        go_wp2_with fail
        go_roundw
        all_goals first
          | (simp only [intOf]; omega)
          | (simp [intOf]; omega)
          | exact ⟨k + 1, x, y, by omega, by go_num, rfl, rfl, E1.out, E2.out, E3.out, trivial⟩
      · have e := hide (show ¬ AcOk ⟨n, o, some ⟨xb', xo, none⟩, r, cap, D⟩ r LD sn SD from fun q => by have q1 := (q.2.2.2.1 k hlt).1 EL.out; have q2 : D k = 0 := q1; rw [EV.out] at q2; exact v0 q2)
        have v0' : (v == 0) = false := by simp [v0]
        clear v0
        go_wp2_with fail
        go_ret
        exact ⟨by rw [decide_eq_false e.out]; rfl, BL2.out⟩
    have l1' : (l == 1) = false := by simp [l1]
    by_cases v1 : v < -4096
    · have e := hide (show ¬ AcOk ⟨n, o, some ⟨xb', xo, none⟩, r, cap, D⟩ r LD sn SD from fun q => by have q1 : -4096 ≤ D k := (q.2.2.2.1 k hlt).2.1; rw [EV.out] at q1; omega)
      clear l1
      go_wp2_with fail
      go_ret
      exact ⟨by rw [decide_eq_false e.out]; rfl, BL2.out⟩
    have v1' : decide (v < -4096) = false := by rw [decide_eq_false_iff_not]; exact v1
    by_cases v2 : 4096 < v
    · have e := hide (show ¬ AcOk ⟨n, o, some ⟨xb', xo, none⟩, r, cap, D⟩ r LD sn SD from fun q => by have q1 : D k ≤ 4096 := (q.2.2.2.1 k hlt).2.2; rw [EV.out] at q1; omega)
      clear l1 v1
      go_wp2_with fail
      go_ret
      exact ⟨by rw [decide_eq_false e.out]; rfl, BL2.out⟩
    have v2' : decide (4096 < v) = false := by rw [decide_eq_false_iff_not]; exact v2
    obtain ⟨m, hm⟩ : ∃ m, l - 1 = m := ⟨_, rfl⟩
    obtain ⟨t, ht⟩ : ∃ t, v * m = t := ⟨_, rfl⟩
    have tb := mul_bds (s := v) (m := m) (by omega) (by omega) (by omega) (by omega)
    rw [ht] at tb
    have w1 : IntKind.i64.wrap (l - 1) = m := by rw [hm, IntKind.wrap_i64]; omega
    have w2 : IntKind.i64.wrap (v * m) = t := by rw [ht, IntKind.wrap_i64]; omega
    by_cases v3 : v < 0
    · have w3 : IntKind.i64.wrap (x + t) = x + t := by rw [IntKind.wrap_i64]; omega
      have E1 := hide (show x + t = o + loS D LD (k + 1) by show x + t = o + (loS D LD k + (if D k < 0 then D k * (LD k - 1) else 0)); rw [EV.out, EL.out, if_pos v3, hm, ht]; have := EX.out; omega)
      have E2 := hide (show y = o + hiS D LD (k + 1) by show y = o + (hiS D LD k + (if D k < 0 then 0 else D k * (LD k - 1))); rw [EV.out, if_pos v3]; have := EY.out; omega)
      have E3 := hide (show StOk D LD (k + 1) from fun j hj => by
        by_cases c : j = k
        · rw [c, EV.out, EL.out]; exact ⟨fun c => absurd c l1, by omega, by omega⟩
        · exact ST.out j (by omega))
      clear l1 v1 v2 hm ht; go_wp2_with fail
      go_roundw
      all_goals first
        | (simp only [intOf]; omega)
        | (simp [intOf]; omega)
        | exact ⟨k + 1, (x + t), y, by omega, by go_num, rfl, rfl, E1.out, E2.out, E3.out, trivial⟩
    · have v3' : decide (v < 0) = false := by rw [decide_eq_false_iff_not]; exact v3
      have w3 : IntKind.i64.wrap (y + t) = y + t := by rw [IntKind.wrap_i64]; omega
      have E1 := hide (show x = o + loS D LD (k + 1) by show x = o + (loS D LD k + (if D k < 0 then D k * (LD k - 1) else 0)); rw [EV.out, if_neg v3]; have := EX.out; omega)
      have E2 := hide (show y + t = o + hiS D LD (k + 1) by show y + t = o + (hiS D LD k + (if D k < 0 then 0 else D k * (LD k - 1))); rw [EV.out, EL.out, if_neg v3, hm, ht]; have := EY.out; omega)
      have E3 := hide (show StOk D LD (k + 1) from fun j hj => by
        by_cases c : j = k
        · rw [c, EV.out, EL.out]; exact ⟨fun c => absurd c l1, by omega, by omega⟩
        · exact ST.out j (by omega))
      clear l1 v1 v2 v3 hm ht; go_wp2_with fail
      go_roundw
      all_goals first
        | (simp only [intOf]; omega)
        | (simp [intOf]; omega)
        | exact ⟨k + 1, x, (y + t), by omega, by go_num, rfl, rfl, E1.out, E2.out, E3.out, trivial⟩
end Vo
end Go.Proofs.Ytgmjijjckedmcaa
