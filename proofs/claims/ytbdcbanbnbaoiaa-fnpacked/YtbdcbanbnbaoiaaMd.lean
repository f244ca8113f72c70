/- PackOk: the model. -/
import Derived.Test.YtbdcbanbnbaoiaaMc
namespace Go.Proofs.Ytbdcbanbnbaoiaa
namespace Vo
open Go.ChangeShapes Go.WideShapes Go.ChangeAt Go.RowKit Go.Joins Go.Sort
open Vl Vp
set_option linter.unusedVariables false
set_option linter.unusedSimpArgs false
/-- may life i lie there, with those that are placed? -/
def FreeOk (n : Nat) (C : Nat → MV) (O : Nat → Int) (i : Nat) (at' : Int) : Prop := ∀ k, k < n → k ≠ i → 0 ≤ O k → ¬ (meet (C i) (C k) ∧ lap at' (C i).s (O k) (C k).s)
instance (n : Nat) (C : Nat → MV) (O : Nat → Int) (i : Nat) (at' : Int) : Decidable (FreeOk n C O i at') := by unfold FreeOk; infer_instance
set_option maxRecDepth 100000 in
set_option maxHeartbeats 8000000 in
theorem specFree (B : Nat) (a : Option Addr) (n cap : Nat) (C : Nat → MV) (oa : Option Addr) (ocap : Nat) (O : Nat → Int) (i : Nat) (p : Int) (w : World) (hB : B ≤ w.heap.size) (h : LM B w a n C) (h' : Ints B w oa n O) (hL : LOk n C) (hO : ∀ k, k < n → -1 ≤ O k ∧ O k ≤ 1000000) (hi : i < n) (hp : 0 ≤ p ∧ p ≤ 1000000) :
    Calls Try.prog 22 #[.slice a n cap, .slice oa n ocap, .int .i64 i, .int .i64 p] w fun e w' => e = .returned (.bool (decide (FreeOk n C O i p))) ∧ Below w.heap.size w w' := by
  have H := hide h
  have H' := hide h'
  have HO := hide hO
  have HL := hide hL
  have iI : (i : Int) < n := by omega
  obtain ⟨x, hx⟩ : ∃ x, C i = x := ⟨_, rfl⟩
  have xs := (hL.2 i hi).1
  rw [hx] at xs
  have n200 : (n : Int) ≤ 200 := by have := hL.1; omega
  have EX := hide hx
  have wo2 : IntKind.i64.wrap (p + x.s) = p + x.s := by rw [IntKind.wrap_i64]; omega
  clear h h' hx hL hO
  go_enter Try.func22, Try.ntmps22
  go_wp2_with fail
  go_loopw [9] (fun t wx => ∃ k : Nat, k ≤ n ∧ t = .int .i64 k ∧ (∀ j, j < k → j ≠ i → 0 ≤ O j → ¬ (meet x (C j) ∧ lap p x.s (O j) (C j).s)) ∧ Below w.heap.size w wx) (fun t _ => n - (intOf t).toNat)
  case atStart => exact ⟨0, Nat.zero_le _, rfl, fun j hj => by omega, Below.refl _ _⟩
  case round =>
    obtain ⟨Z, rfl⟩ : ∃ Z, Z = wr := ⟨_, rfl⟩
    obtain ⟨k, hk, rfl, hall, hby⟩ := hrel
    have HA := hide hall
    have HBY := hide hby
    clear hall hby
    by_cases hlt : k < n
    case neg =>
      obtain rfl : k = n := by omega
      have e := hide (show FreeOk k C O i p from fun j hj hne h0 => by rw [EX.out]; exact HA.out j hj hne h0)
      go_wp2_with fail
      go_ret
      exact ⟨by rw [decide_eq_true e.out]; rfl, HBY.out⟩
    have kI : (k : Int) < n := by omega
    rcases H.out.below (HBY.out.mono hB) with h0 | ⟨b, off, rfl, hbB, hc⟩
    · omega
    have ci := (hc i hi).1
    have ck := (hc k hlt).1
    rw [EX.out] at ci
    obtain ⟨y, hy⟩ : ∃ y, C k = y := ⟨_, rfl⟩
    rw [hy] at ck
    obtain ⟨c0, c1, c2, c3⟩ := ci
    obtain ⟨m0, m1, m2, m3⟩ := ck
    rcases H'.out.below (HBY.out.mono hB) with h0 | ⟨ob, oo, rfl, hob, hoc⟩
    · omega
    have p1 := (hoc k hlt).1
    obtain ⟨ok, hok⟩ : ∃ z, O k = z := ⟨_, rfl⟩
    rw [hok] at p1
    have r1 := HO.out k hlt
    rw [hok] at r1
    have ys := (HL.out.2 k hlt).1
    rw [hy] at ys
    have EY := hide hy
    have EO := hide hok
    have wo1 : IntKind.i64.wrap (ok + y.s) = ok + y.s := by rw [IntKind.wrap_i64]; omega
    clear hc hoc hy hok
    have km0 := cell_regrown m0
    have km1 := cell_regrown m1
    have km2 := cell_regrown m2
    have km3 := cell_regrown m3
    have kc0 := cell_regrown c0
    have kc1 := cell_regrown c1
    have kc2 := cell_regrown c2
    have kc3 := cell_regrown c3
    have kp1 := cell_regrown p1
    have cm := hide (fun (q1 : Nat) (os : Array Obj) => show Calls Try.prog 40 #[.agg #[.int .i64 x.b, .int .i64 x.s, .int .i64 x.f, .int .i64 x.t], .agg #[.int .i64 y.b, .int .i64 y.s, .int .i64 y.f, .int .i64 y.t]] (Sort.grow (redrawn Z q1) os) (fun e w'' => e = .returned (.bool (decide (meet x y))) ∧ ∃ p : Regrown, w'' = Sort.grow (redrawn Z p.d) p.os) from Calls.regrown_of (specMeet x y _))
    by_cases t0 : k = i
    case pos =>
      have f := hide (show ∀ j, j < k + 1 → j ≠ i → 0 ≤ O j → ¬ (meet x (C j) ∧ lap p x.s (O j) (C j).s) from fun j hj hne => HA.out j (by omega) hne)
      have t0' : ((k : Int) == (i : Int)) = true := by simp [t0]
      have t0'' : (k == i) = true := by simp [t0]
      clear t0
      go_wp2_with fail
      refine wp_region_quiet_below (by kernel_rfl) (by kernel_rfl) ?_
      repeat (go_big_quiet_step (first | (go_at_call 40; exact cm.out _ _)))
      refine wpQuiet_nil ?_
      intro _ hw'
      obtain ⟨⟨dq, osq⟩, hw''⟩ := hw'
      subst hw''
      go_wp2_with fail
      go_roundw
      all_goals first
        | (simp only [intOf]; omega)
        | (simp [intOf]; omega)
        | exact ⟨k + 1, by omega, by go_num, f.out, HBY.out.trans ((below_regrown Z dq osq).mono HBY.out.size)⟩
    have t0' : ((k : Int) == (i : Int)) = false := by simpa using (fun q : (k : Int) = i => t0 (by omega))
    have t0'' : (k == i) = false := by simpa using t0
    by_cases t1 : ok < 0
    case pos =>
      have f := hide (show ∀ j, j < k + 1 → j ≠ i → 0 ≤ O j → ¬ (meet x (C j) ∧ lap p x.s (O j) (C j).s) from fun j hj hne h0 => by
        by_cases ej : j = k
        · rw [ej, EO.out] at h0; omega
        · exact HA.out j (by omega) hne h0)
      clear t0
      go_wp2_with fail
      refine wp_region_quiet_below (by kernel_rfl) (by kernel_rfl) ?_
      repeat (go_big_quiet_step (first | (go_at_call 40; exact cm.out _ _)))
      refine wpQuiet_nil ?_
      intro _ hw'
      obtain ⟨⟨dq, osq⟩, hw''⟩ := hw'
      subst hw''
      go_wp2_with fail
      go_roundw
      all_goals first
        | (simp only [intOf]; omega)
        | (simp [intOf]; omega)
        | exact ⟨k + 1, by omega, by go_num, f.out, HBY.out.trans ((below_regrown Z dq osq).mono HBY.out.size)⟩
    have t1' : decide (ok < 0) = false := by rw [decide_eq_false_iff_not]; exact t1
    have r1' : 0 ≤ ok := by omega
    by_cases t2 : meet x y
    case neg =>
      rw [decide_eq_false t2] at cm
      have f := hide (show ∀ j, j < k + 1 → j ≠ i → 0 ≤ O j → ¬ (meet x (C j) ∧ lap p x.s (O j) (C j).s) from fun j hj hne h0 => by
        by_cases ej : j = k
        · rw [ej, EY.out]; exact fun q => t2 q.1
        · exact HA.out j (by omega) hne h0)
      clear t0 t1 t2
      go_wp2_with fail
      refine wp_region_quiet_below (by kernel_rfl) (by kernel_rfl) ?_
      repeat (go_big_quiet_step (first | (go_at_call 40; exact cm.out _ _)))
      refine wpQuiet_nil ?_
      intro _ hw'
      obtain ⟨⟨dq, osq⟩, hw''⟩ := hw'
      subst hw''
      go_wp2_with fail
      go_roundw
      all_goals first
        | (simp only [intOf]; omega)
        | (simp [intOf]; omega)
        | exact ⟨k + 1, by omega, by go_num, f.out, HBY.out.trans ((below_regrown Z dq osq).mono HBY.out.size)⟩
    rw [decide_eq_true t2] at cm
    have T0 := hide t0
    have T2 := hide t2
    clear t0 t1 t2
    go_wp2_with fail
    refine wp_region_quiet_below (by kernel_rfl) (by kernel_rfl) ?_
    repeat (go_big_quiet_step (first | (go_at_call 40; exact cm.out _ _)))
    refine wpQuiet_nil ?_
    intro _ hw'
    obtain ⟨⟨dq, osq⟩, hw''⟩ := hw'
    subst hw''
    have hb4 := below_regrown Z dq osq
    obtain ⟨V, hV⟩ : ∃ V, Sort.grow (redrawn Z dq) osq = V := ⟨_, rfl⟩
    rw [hV] at hb4 ⊢
    have HB4 := hide (HBY.out.trans (hb4.mono HBY.out.size))
    have lZ : B ≤ Z.heap.size := Nat.le_trans hB HBY.out.size
    have v1 := (hb4.cell (p := ⟨b, off + k * 4 + 1, none⟩) (Nat.lt_of_lt_of_le hbB lZ)).trans m1
    have v2 := (hb4.cell (p := ⟨b, off + i * 4 + 1, none⟩) (Nat.lt_of_lt_of_le hbB lZ)).trans c1
    have v3 := (hb4.cell (p := ⟨ob, oo + k, none⟩) (Nat.lt_of_lt_of_le hob lZ)).trans p1
    clear hV hb4 km0 km1 km2 km3 kc0 kc1 kc2 kc3 kp1 m0 m1 m2 m3 c0 c1 c2 c3 p1 cm
    have kv1 := cell_regrown v1
    have kv2 := cell_regrown v2
    have kv3 := cell_regrown v3
    by_cases t3 : p < ok + y.s
    case neg =>
      have t3' : decide (p < ok + y.s) = false := by rw [decide_eq_false_iff_not]; exact t3
      have f := hide (show ∀ j, j < k + 1 → j ≠ i → 0 ≤ O j → ¬ (meet x (C j) ∧ lap p x.s (O j) (C j).s) from fun j hj hne h0 => by
        by_cases ej : j = k
        · rw [ej, EY.out, EO.out]; exact fun q => t3 q.2.1
        · exact HA.out j (by omega) hne h0)
      clear t3
      go_wp2_with fail
      refine wp_region_quiet_below (by kernel_rfl) (by kernel_rfl) ?_
      repeat (go_big_quiet_step (fail))
      refine wpQuiet_nil ?_
      intro _ hw'
      obtain ⟨⟨dq, osq⟩, hw''⟩ := hw'
      subst hw''
      go_wp2_with fail
      go_roundw
      all_goals first
        | (simp only [intOf]; omega)
        | (simp [intOf]; omega)
        | exact ⟨k + 1, by omega, by go_num, f.out, HB4.out.trans ((below_regrown V dq osq).mono HB4.out.size)⟩
    by_cases t4 : ok < p + x.s
    case neg =>
      have t4' : decide (ok < p + x.s) = false := by rw [decide_eq_false_iff_not]; exact t4
      have f := hide (show ∀ j, j < k + 1 → j ≠ i → 0 ≤ O j → ¬ (meet x (C j) ∧ lap p x.s (O j) (C j).s) from fun j hj hne h0 => by
        by_cases ej : j = k
        · rw [ej, EY.out, EO.out]; exact fun q => t4 q.2.2
        · exact HA.out j (by omega) hne h0)
      clear t4
      go_wp2_with fail
      refine wp_region_quiet_below (by kernel_rfl) (by kernel_rfl) ?_
      repeat (go_big_quiet_step (fail))
      refine wpQuiet_nil ?_
      intro _ hw'
      obtain ⟨⟨dq, osq⟩, hw''⟩ := hw'
      subst hw''
      go_wp2_with fail
      go_roundw
      all_goals first
        | (simp only [intOf]; omega)
        | (simp [intOf]; omega)
        | exact ⟨k + 1, by omega, by go_num, f.out, HB4.out.trans ((below_regrown V dq osq).mono HB4.out.size)⟩
    have e := hide (show ¬ FreeOk n C O i p from fun q => q k hlt T0.out (by rw [EO.out]; exact r1') (by rw [EX.out, EY.out, EO.out]; exact ⟨T2.out, t3, t4⟩))
    go_wp2_with fail
    refine wp_region_quiet_below (by kernel_rfl) (by kernel_rfl) ?_
    repeat (go_big_quiet_step (fail))
    refine wpQuiet_nil ?_
    intro _ hw'
    obtain ⟨⟨dq, osq⟩, hw''⟩ := hw'
    subst hw''
    go_wp2_with fail
    go_ret
    exact ⟨by rw [decide_eq_false e.out]; rfl, HB4.out.trans ((below_regrown V dq osq).mono HB4.out.size)⟩
theorem lap_comm {a s b t : Int} (h : lap a s b t) : lap b t a s := ⟨h.2, h.1⟩
theorem meet_comm {x y : MV} (h : meet x y) : meet y x := ⟨h.2, h.1⟩
theorem pok_iff {n : Nat} {C : Nat → MV} {O : Nat → Int} (hO : WI n O 1000001) : (∀ i, i < n → ∀ k, k < i → ¬ (meet (C i) (C k) ∧ lap (O i) (C i).s (O k) (C k).s)) ↔ ∀ i, i < n → FreeOk n C O i (O i) := by
  constructor
  · intro h i hi k hk hne _ q
    by_cases c : k < i
    · exact h i hi k c q
    · exact h k hk i (by omega) ⟨meet_comm q.1, lap_comm q.2⟩
  · intro h i hi k hk q
    exact h i hi k (by omega) (by omega) (by have := hO k (by omega); omega) q
theorem lok_same {n : Nat} {C U : Nat → MV} (h : MSame n C U) : LOk n U ↔ LOk n C := by
  unfold LOk
  exact ⟨fun q => ⟨q.1, fun i hi => by rw [← h i hi]; exact q.2 i hi⟩, fun q => ⟨q.1, fun i hi => by rw [h i hi]; exact q.2 i hi⟩⟩
theorem pok_same {n r : Nat} {C U : Nat → MV} {O : Nat → Int} (h : MSame n C U) : decide (POk n U r O) = decide (POk n C r O) := by
  refine decide_eq_decide.2 ⟨fun q => ⟨q.1, (lok_same h).1 q.2.1, q.2.2.1, fun i hi k hk => ?_⟩, fun q => ⟨q.1, (lok_same h).2 q.2.1, q.2.2.1, fun i hi k hk => ?_⟩⟩
  · have := q.2.2.2 i hi k hk; rwa [h i hi, h k (by omega)] at this
  · rw [h i hi, h k (by omega)]; exact q.2.2.2 i hi k hk
end Vo
end Go.Proofs.Ytbdcbanbnbaoiaa
