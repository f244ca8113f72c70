/- PackOk: the program and the model. -/
import Derived.Test.YtbdcbanbnbaoiaaMb
namespace Go.Proofs.Ytbdcbanbnbaoiaa
namespace Vo
open Go.ChangeShapes Go.WideShapes Go.ChangeAt Go.RowKit Go.Joins Go.Sort
open Vl Vp
set_option linter.unusedVariables false
set_option linter.unusedSimpArgs false
set_option maxRecDepth 100000 in
set_option maxHeartbeats 8000000 in
theorem packOkF (B : Nat) (a : Option Addr) (n cap : Nat) (C : Nat → MV) (oa : Option Addr) (r ocap : Nat) (O : Nat → Int) (w : World) (hB : B ≤ w.heap.size) (h : LM B w a n C) (h' : Ints B w oa r O) (hn : (n : Int) ≤ 1048576) (hr : (r : Int) ≤ 1048576) (hcap : n ≤ cap) :
    Calls Try.prog 8 #[.slice a n cap, .slice oa r ocap] w fun e w' => e = .returned (.bool (decide (POk n C r O))) ∧ Below w.heap.size w w' := by
  have H := hide h
  have H' := hide h'
  have CW := hide (within B oa r ocap O 1000001 w hB h' hr)
  clear h h'
  go_enter Try.func8, Try.ntmps8
  by_cases d0 : r = n
  case neg =>
    have e := hide (show ¬ POk n C r O from fun q => d0 q.1)
    have d0' : ((r : Int) != (n : Int)) = true := by simpa using (fun q : (r : Int) = n => d0 (by omega))
    have d0'' : (r != n) = true := by simpa using d0
    clear d0
    go_wp2_with fail
    go_ret
    exact ⟨by rw [decide_eq_false e.out]; rfl, Below.refl _ _⟩
  subst d0
  have d0' : ((r : Int) != (r : Int)) = false := by simp
  by_cases d1 : WI r O 1000001
  case neg =>
    have e := hide (show ¬ POk r C r O from fun q => d1 q.2.2.1)
    rw [show wi r O 1000001 = false from decide_eq_false d1] at CW
    clear d1
    go_wp2_with fail
    refine CW.out.mono ?_
    rintro e1 w1 ⟨rfl, b1⟩
    have B1 := hide b1
    go_wp2_with fail
    go_ret
    exact ⟨by rw [decide_eq_false e.out]; rfl, B1.out⟩
  rw [show wi r O 1000001 = true from decide_eq_true d1] at CW
  have D1 := hide d1
  clear d1
  go_wp2_with fail
  refine CW.out.mono ?_
  rintro e1 w1 ⟨rfl, b1⟩
  have B1 := hide b1
  have hB1 : B ≤ w1.heap.size := Nat.le_trans hB b1.size
  clear CW b1
  have CL := hide (livesFitF B a r cap C w1 hB1 (H.out.below (B1.out.mono hB)) hn)
  by_cases d2 : LOk r C
  case neg =>
    have e := hide (show ¬ POk r C r O from fun q => d2 q.2.1)
    rw [decide_eq_false d2] at CL
    clear d2
    go_wp2_with fail
    refine CL.out.mono ?_
    rintro e1 w2 ⟨rfl, b2⟩
    have B2 := hide (B1.out.trans (b2.mono B1.out.size))
    go_wp2_with fail
    go_ret
    exact ⟨by rw [decide_eq_false e.out]; rfl, B2.out⟩
  rw [decide_eq_true d2] at CL
  have D2 := hide d2
  clear d2
  go_wp2_with fail
  refine CL.out.mono ?_
  rintro e1 w2 ⟨rfl, b2⟩
  have B2 := hide (B1.out.trans (b2.mono B1.out.size))
  have hB2 : B ≤ w2.heap.size := Nat.le_trans hB1 b2.size
  clear CL b2 d0'
  go_wp2_with fail
  go_loopw [26] (fun i wx => ∃ k : Nat, k ≤ r ∧ i = .int .i64 k ∧ (∀ i, i < k → ∀ j, j < i → ¬ (meet (C i) (C j) ∧ lap (O i) (C i).s (O j) (C j).s)) ∧ Below w.heap.size w wx) (fun i _ => r - (intOf i).toNat)
  case atStart => exact ⟨0, Nat.zero_le _, rfl, fun i hi => by omega, B2.out⟩
  case round =>
    obtain ⟨X, rfl⟩ : ∃ X, X = wr := ⟨_, rfl⟩
    obtain ⟨k, hk, rfl, hall, hby⟩ := hrel
    have HA := hide hall
    have HBY := hide hby
    clear hall hby
    by_cases hlt : k < r
    case neg =>
      obtain rfl : k = r := by omega
      have e := hide (show POk k C k O from ⟨rfl, D2.out, D1.out, HA.out⟩)
      go_wp2_with fail
      go_ret
      exact ⟨by rw [decide_eq_true e.out]; rfl, HBY.out⟩
    rcases H.out.below (HBY.out.mono hB) with h0 | ⟨b, off, rfl, hbB, hc⟩
    · omega
    obtain ⟨⟨c0, c1, c2, c3⟩, _⟩ := hc k hlt
    have kI : (k : Int) < r := by omega
    have kC : (k : Int) ≤ cap := by omega
    have kC' : k ≤ cap := by omega
    clear hc
    obtain ⟨x, hx⟩ : ∃ x, C k = x := ⟨_, rfl⟩
    rw [hx] at c0 c1 c2 c3
    have MX := hide (show MOk x by rw [← hx]; exact D2.out.2 k hlt)
    have EX := hide hx
    clear hx
    obtain ⟨Y, hY⟩ : ∃ Y, X.alloc (.cells #[.int .i64 x.b, .int .i64 x.s, .int .i64 x.f, .int .i64 x.t] 31) = Y := ⟨_, rfl⟩
    have BY := hide (show Below w.heap.size w Y by rw [← hY]; exact HBY.out.alloc HBY.out.size _)
    have m := mcells X (.int .i64 x.b) (.int .i64 x.s) (.int .i64 x.f) (.int .i64 x.t) 31
    rw [hY] at m
    have zY : X.heap.size < Y.heap.size := World.block_lt_of_cell? _ _ m.1
    have M := hide m
    clear m
    have wk0 : IntKind.i64.wrap (k : Int) = k := by rw [IntKind.wrap_i64]; omega
    go_wp2_with fail
    clear c0 c1 c2 c3 hY
    go_loopw [35] (fun i wx => ∃ j : Nat, j ≤ k ∧ i = .int .i64 j ∧ (∀ t, t < j → ¬ (meet x (C t) ∧ lap (O k) x.s (O t) (C t).s)) ∧ Below Y.heap.size Y wx) (fun i _ => k - (intOf i).toNat)
    case atStart => exact ⟨0, Nat.zero_le _, rfl, fun i hi => by omega, Below.refl _ _⟩
    case round =>
      obtain ⟨Z, rfl⟩ : ∃ Z, Z = wr := ⟨_, rfl⟩
      obtain ⟨j, hj, rfl, hal, hbz⟩ := hrel
      have HAJ := hide hal
      have HBZ := hide hbz
      have BZ := hide (BY.out.trans (hbz.mono BY.out.size))
      clear hal hbz
      by_cases hlj : j < k
      case neg =>
        obtain rfl : j = k := by omega
        have f := hide (show ∀ i, i < j + 1 → ∀ t, t < i → ¬ (meet (C i) (C t) ∧ lap (O i) (C i).s (O t) (C t).s) from fun i hi => by
          by_cases ei : i = j
          · rw [ei, EX.out]; exact HAJ.out
          · exact HA.out i (by omega))
        go_wp2_with fail
        go_roundw
        all_goals first
          | (simp only [intOf]; omega)
          | (simp [intOf]; omega)
          | exact ⟨j + 1, by omega, by go_num, f.out, BZ.out⟩
      have jr : j < r := by omega
      have jI : (j : Int) < k := by omega
      have jR : (j : Int) < r := by omega
      rcases H.out.below (BZ.out.mono hB) with h0 | ⟨b', off', hb', hbB', hc⟩
      · omega
      injection hb' with hb'
      injection hb' with hb1 hb2 _
      subst hb1 hb2
      obtain ⟨⟨c0, c1, c2, c3⟩, _⟩ := hc j jr
      clear hc
      obtain ⟨y, hy⟩ : ∃ y, C j = y := ⟨_, rfl⟩
      rw [hy] at c0 c1 c2 c3
      have MY := hide (show MOk y by rw [← hy]; exact D2.out.2 j jr)
      have EY := hide hy
      clear hy
      obtain ⟨V, hV⟩ : ∃ V, Z.alloc (.cells #[.int .i64 y.b, .int .i64 y.s, .int .i64 y.f, .int .i64 y.t] 31) = V := ⟨_, rfl⟩
      have bV : Below Z.heap.size Z V := by rw [← hV]; exact (Below.refl _ _).alloc (Nat.le_refl _) _
      have HBV := hide (HBZ.out.trans (bV.mono HBZ.out.size))
      have BV := hide (BZ.out.trans (bV.mono BZ.out.size))
      have m := mcells Z (.int .i64 y.b) (.int .i64 y.s) (.int .i64 y.f) (.int .i64 y.t) 31
      rw [hV] at m
      have zV : Z.heap.size < V.heap.size := World.block_lt_of_cell? _ _ m.1
      obtain ⟨m0, m1, m2, m3⟩ := m
      have o0 := (HBV.out.cell (p := ⟨X.heap.size, 0, none⟩) zY).trans M.out.1
      have o1 := (HBV.out.cell (p := ⟨X.heap.size, 1, none⟩) zY).trans M.out.2.1
      have o2 := (HBV.out.cell (p := ⟨X.heap.size, 2, none⟩) zY).trans M.out.2.2.1
      have o3 := (HBV.out.cell (p := ⟨X.heap.size, 3, none⟩) zY).trans M.out.2.2.2
      have zX : X.heap.size < V.heap.size := Nat.lt_of_lt_of_le zY HBV.out.size
      rcases H'.out.below (BV.out.mono hB) with h0 | ⟨ob, oo, rfl, hob, hoc⟩
      · omega
      have p1 := (hoc k hlt).1
      have p2 := (hoc j jr).1
      have lob : ob < V.heap.size := Nat.lt_of_lt_of_le hob (Nat.le_trans hB BV.out.size)
      have r1 := D1.out k hlt
      have r2 := D1.out j jr
      obtain ⟨ok, hok⟩ : ∃ z, O k = z := ⟨_, rfl⟩
      obtain ⟨oj, hoj⟩ : ∃ z, O j = z := ⟨_, rfl⟩
      rw [hok] at p1 r1
      rw [hoj] at p2 r2
      have EK := hide hok
      have EJ := hide hoj
      clear hoc hok hoj bV
      have cm := hide (fun (q1 : Nat) (os : Array Obj) => show Calls Try.prog 15 #[.agg #[.int .i64 x.b, .int .i64 x.s, .int .i64 x.f, .int .i64 x.t], .agg #[.int .i64 y.b, .int .i64 y.s, .int .i64 y.f, .int .i64 y.t]] (Sort.grow (redrawn V q1) os) (fun e w'' => e = .returned (.bool (decide (meet x y))) ∧ ∃ p : Regrown, w'' = Sort.grow (redrawn V p.d) p.os) from Calls.regrown_of (meetsF x y _))
      have c1x := hide (fun (q1 : Nat) (os : Array Obj) => show Calls Try.prog 16 #[.agg #[.int .i64 x.b, .int .i64 x.s, .int .i64 x.f, .int .i64 x.t], .int .i64 ok] (Sort.grow (redrawn V q1) os) (fun e w'' => e = .returned (.agg #[.int .i64 ok, .int .i64 (ok + x.s)]) ∧ ∃ p : Regrown, w'' = Sort.grow (redrawn V p.d) p.os) from Calls.regrown_of (roomAtF x ok _ r1 MX.out))
      have c1y := hide (fun (q1 : Nat) (os : Array Obj) => show Calls Try.prog 16 #[.agg #[.int .i64 y.b, .int .i64 y.s, .int .i64 y.f, .int .i64 y.t], .int .i64 oj] (Sort.grow (redrawn V q1) os) (fun e w'' => e = .returned (.agg #[.int .i64 oj, .int .i64 (oj + y.s)]) ∧ ∃ p : Regrown, w'' = Sort.grow (redrawn V p.d) p.os) from Calls.regrown_of (roomAtF y oj _ r2 MY.out))
      have cl := hide (fun (q1 : Nat) (os : Array Obj) => show Calls Try.prog 24 #[.agg #[.int .i64 ok, .int .i64 (ok + x.s)], .agg #[.int .i64 oj, .int .i64 (oj + y.s)]] (Sort.grow (redrawn V q1) os) (fun e w'' => e = .returned (.bool (decide (lap ok x.s oj y.s))) ∧ ∃ p : Regrown, w'' = Sort.grow (redrawn V p.d) p.os) from Calls.regrown_of (overlapsF ok x.s oj y.s _))
      have km0 := cell_regrown m0
      have km1 := cell_regrown m1
      have km2 := cell_regrown m2
      have km3 := cell_regrown m3
      have ko0 := cell_regrown o0
      have ko1 := cell_regrown o1
      have ko2 := cell_regrown o2
      have ko3 := cell_regrown o3
      have kp1 := cell_regrown p1
      have kp2 := cell_regrown p2
      by_cases t0 : meet x y
      case neg =>
        rw [decide_eq_false t0] at cm
        have f := hide (show ∀ t, t < j + 1 → ¬ (meet x (C t) ∧ lap (O k) x.s (O t) (C t).s) from fun t ht => by
          by_cases et : t = j
          · rw [et, EY.out]; exact fun q => t0 q.1
          · exact HAJ.out t (by omega))
        clear t0
        go_wp2_with fail
        clear hV c0 c1 c2 c3
        refine wp_region_quiet_below (by kernel_rfl) (by kernel_rfl) ?_
        repeat (go_big_quiet_step (first | (go_at_call 15; exact cm.out _ _)))
        refine wpQuiet_nil ?_
        intro _ hw'
        obtain ⟨⟨dq, osq⟩, hw''⟩ := hw'
        subst hw''
        go_wp2_with fail
        go_roundw
        all_goals first
          | (simp only [intOf]; omega)
          | (simp [intOf]; omega)
          | exact ⟨j + 1, by omega, by go_num, f.out, HBV.out.trans ((below_regrown V dq osq).mono HBV.out.size)⟩
      rw [decide_eq_true t0] at cm
      by_cases t1 : lap ok x.s oj y.s
      case pos =>
        rw [decide_eq_true t1] at cl
        have e := hide (show ¬ POk r C r O from fun q => q.2.2.2 k hlt j hlj (by rw [EX.out, EY.out, EK.out, EJ.out]; exact ⟨t0, t1⟩))
        clear t0 t1
        go_wp2_with fail
        clear hV c0 c1 c2 c3
        refine wp_region_quiet_below (by kernel_rfl) (by kernel_rfl) ?_
        repeat (go_big_quiet_step (first | (go_at_call 15; exact cm.out _ _) | (go_at_call_of 16 (Value.agg #[Value.int IntKind.i64 x.b, Value.int IntKind.i64 x.s, Value.int IntKind.i64 x.f, Value.int IntKind.i64 x.t]); exact c1x.out _ _) | (go_at_call_of 16 (Value.agg #[Value.int IntKind.i64 y.b, Value.int IntKind.i64 y.s, Value.int IntKind.i64 y.f, Value.int IntKind.i64 y.t]); exact c1y.out _ _) | (go_at_call 24; exact cl.out _ _)))
        refine wpQuiet_nil ?_
        intro _ hw'
        obtain ⟨⟨dq, osq⟩, hw''⟩ := hw'
        subst hw''
        go_wp2_with fail
        go_ret
        exact ⟨by rw [decide_eq_false e.out]; rfl, BV.out.trans ((below_regrown V dq osq).mono BV.out.size)⟩
      rw [decide_eq_false t1] at cl
      have f := hide (show ∀ t, t < j + 1 → ¬ (meet x (C t) ∧ lap (O k) x.s (O t) (C t).s) from fun t ht => by
        by_cases et : t = j
        · rw [et, EY.out, EK.out, EJ.out]; exact fun q => t1 q.2
        · exact HAJ.out t (by omega))
      clear t0 t1
      go_wp2_with fail
      clear hV c0 c1 c2 c3
      refine wp_region_quiet_below (by kernel_rfl) (by kernel_rfl) ?_
      repeat (go_big_quiet_step (first | (go_at_call 15; exact cm.out _ _) | (go_at_call_of 16 (Value.agg #[Value.int IntKind.i64 x.b, Value.int IntKind.i64 x.s, Value.int IntKind.i64 x.f, Value.int IntKind.i64 x.t]); exact c1x.out _ _) | (go_at_call_of 16 (Value.agg #[Value.int IntKind.i64 y.b, Value.int IntKind.i64 y.s, Value.int IntKind.i64 y.f, Value.int IntKind.i64 y.t]); exact c1y.out _ _) | (go_at_call 24; exact cl.out _ _)))
      refine wpQuiet_nil ?_
      intro _ hw'
      obtain ⟨⟨dq, osq⟩, hw''⟩ := hw'
      subst hw''
      go_wp2_with fail
      go_roundw
      all_goals first
        | (simp only [intOf]; omega)
        | (simp [intOf]; omega)
        | exact ⟨j + 1, by omega, by go_num, f.out, HBV.out.trans ((below_regrown V dq osq).mono HBV.out.size)⟩
end Vo
end Go.Proofs.Ytbdcbanbnbaoiaa
