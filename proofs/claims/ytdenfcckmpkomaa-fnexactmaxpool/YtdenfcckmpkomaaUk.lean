/- Two numbers joined: l4Two, twoOf. -/
import Derived.Test.YtdenfcckmpkomaaTe
namespace Go.Proofs.Ytdenfcckmpkomaa
namespace Vo
open Go.ChangeShapes Go.WideShapes Go.ChangeAt Go.RowKit Go.Joins Go.Sort
open Vl Vp Vr
set_option linter.unusedVariables false
set_option linter.unusedSimpArgs false

/-- two numbers joined by an op -/
def two1 (op x y : Int) : Int :=
  if op = 1 then (x + y) % 2147483647 else if op = 2 then (x - y) % 2147483647 else if op = 3 then (x % 2147483647 * (y % 2147483647)) % 2147483647 else if op = 4 then (x % 2147483647 * Num.pw (y % 2147483647) 2147483645) % 2147483647
  else if op = 5 then (if Base.sg (x % 2147483647) < Base.sg (y % 2147483647) then y else x) else if op = 6 then (if Base.sg (x % 2147483647) < Base.sg (y % 2147483647) then x else y)
  else if op = 7 then (if Base.sg (x % 2147483647) < Base.sg (y % 2147483647) then 1 else 0) else (if x = y then 1 else 0)
theorem two1_rng {op x y : Int} (hx : isN x) (hy : isN y) : isN (two1 op x y) := by
  unfold isN at *
  unfold two1
  split
  · omega
  split
  · omega
  split
  · omega
  split
  · omega
  split
  · split <;> omega
  split
  · split <;> omega
  split
  · split <;> omega
  · split <;> omega
theorem sg_back {x : Int} (hx : isN x) : Base.sg (x % 2147483647) % 2147483647 = x := by
  unfold isN at hx
  unfold Base.sg
  rw [Int.emod_eq_of_lt hx.1 hx.2]
  split <;> omega
theorem sg_rng (x : Int) : -1073741823 ≤ Base.sg (x % 2147483647) ∧ Base.sg (x % 2147483647) ≤ 1073741823 := by
  unfold Base.sg
  split <;> omega
theorem sg_max {x y : Int} (hx : isN x) (hy : isN y) : max (Base.sg (x % 2147483647)) (Base.sg (y % 2147483647)) % 2147483647 = if Base.sg (x % 2147483647) < Base.sg (y % 2147483647) then y else x := by
  have a := sg_back hx
  have b := sg_back hy
  split
  · rw [show max (Base.sg (x % 2147483647)) (Base.sg (y % 2147483647)) = Base.sg (y % 2147483647) by omega, b]
  · rw [show max (Base.sg (x % 2147483647)) (Base.sg (y % 2147483647)) = Base.sg (x % 2147483647) by omega, a]
theorem sg_min {x y : Int} (hx : isN x) (hy : isN y) : min (Base.sg (x % 2147483647)) (Base.sg (y % 2147483647)) % 2147483647 = if Base.sg (x % 2147483647) < Base.sg (y % 2147483647) then x else y := by
  have a := sg_back hx
  have b := sg_back hy
  split
  · rw [show min (Base.sg (x % 2147483647)) (Base.sg (y % 2147483647)) = Base.sg (x % 2147483647) by omega, a]
  · rw [show min (Base.sg (x % 2147483647)) (Base.sg (y % 2147483647)) = Base.sg (y % 2147483647) by omega, b]
def TwoV (op : Int) (F : Nat) : Prop := (∀ args w, (callFunc F args).run Try.prog w = .ok (.enter F args) w) ∧ ∀ x y w, isN x → isN y → Calls Try.prog F #[.int .i64 x, .int .i64 y] w fun e w' => e = .returned (.int .i64 (two1 op x y)) ∧ w' = w
theorem oneWhen (z : Bool) (w : World) : Calls Try.prog 91 #[.bool z] w fun e w' => e = .returned (.int .i64 (if z = true then 1 else 0)) ∧ w' = w := by
  cases z with
  | true =>
    go_enter Try.func91, Try.ntmps91
    go_wp2_with fail
    go_ret
    exact ⟨ret_int (by simp), rfl⟩
  | false =>
    go_enter Try.func91, Try.ntmps91
    go_wp2_with fail
    go_ret
    exact ⟨ret_int (by simp), rfl⟩
theorem twoV1 : TwoV 1 52 := by
  refine ⟨enters_of Try.func52 (by kernel_rfl) rfl, fun x y w hx hy => ?_⟩
  obtain ⟨x0, x1⟩ := hx
  obtain ⟨y0, y1⟩ := hy
  have e : two1 1 x y = (x + y) % 2147483647 := by unfold two1; simp
  rw [e]
  exact Base.implPlus x y w (by omega) (by omega) (by omega) (by omega)
theorem twoV2 : TwoV 2 83 := by
  refine ⟨enters_of Try.func83 (by kernel_rfl) rfl, fun x y w hx hy => ?_⟩
  obtain ⟨x0, x1⟩ := hx
  obtain ⟨y0, y1⟩ := hy
  have e : two1 2 x y = (x - y) % 2147483647 := by unfold two1; simp
  rw [e]
  exact Base.implMinus x y w (by omega) (by omega) (by omega) (by omega)
theorem twoV3 : TwoV 3 84 := by
  refine ⟨enters_of Try.func84 (by kernel_rfl) rfl, fun x y w hx hy => ?_⟩
  obtain ⟨x0, x1⟩ := hx
  obtain ⟨y0, y1⟩ := hy
  have e : two1 3 x y = (x % 2147483647 * (y % 2147483647)) % 2147483647 := by unfold two1; simp
  rw [e]
  exact Base.implTimes x y w (by omega) (by omega) (by omega) (by omega)
theorem twoV4 : TwoV 4 85 := by
  refine ⟨enters_of Try.func85 (by kernel_rfl) rfl, fun x y w hx hy => ?_⟩
  obtain ⟨x0, x1⟩ := hx
  obtain ⟨y0, y1⟩ := hy
  have e : two1 4 x y = (x % 2147483647 * Num.pw (y % 2147483647) 2147483645) % 2147483647 := by unfold two1; simp
  rw [e]
  exact Base.implOver x y w (by omega) (by omega) (by omega) (by omega)
theorem twoV5 : TwoV 5 86 := by
  refine ⟨enters_of Try.func86 (by kernel_rfl) rfl, fun x y w hx hy => ?_⟩
  have E := hide (show two1 5 x y = max (Base.sg (x % 2147483647)) (Base.sg (y % 2147483647)) % 2147483647 by rw [sg_max hx hy]; unfold two1; simp)
  have rx := sg_rng x
  have ry := sg_rng y
  obtain ⟨x0, x1⟩ := hx
  obtain ⟨y0, y1⟩ := hy
  have CX := hide (fun (W : World) => Base.implSigned x W (by omega) (by omega))
  have CY := hide (fun (W : World) => Base.implSigned y W (by omega) (by omega))
  obtain ⟨sx, hsx⟩ : ∃ sx, Base.sg (x % 2147483647) = sx := ⟨_, rfl⟩
  obtain ⟨sy, hsy⟩ : ∃ sy, Base.sg (y % 2147483647) = sy := ⟨_, rfl⟩
  rw [hsx] at CX E rx
  rw [hsy] at CY E ry
  obtain ⟨m, hm⟩ : ∃ m, max sx sy = m := ⟨_, rfl⟩
  rw [hm] at E
  have mr : -1073741823 ≤ m ∧ m ≤ 1073741823 := by omega
  have CM := hide (fun (W : World) => Base.implMod m W (by omega) (by omega))
  have HM := hide hm
  clear hsx hsy hm
  go_enter Try.func86, Try.ntmps86
  go_wp2_with fail
  refine (CX.out _).mono ?_
  rintro e w1 ⟨rfl, hw⟩
  have hw := hw.symm
  subst hw
  go_wp2_with fail
  refine (CY.out _).mono ?_
  rintro e w1 ⟨rfl, hw⟩
  have hw := hw.symm
  subst hw
  by_cases c : sx < sy
  · have c' : decide (sx < sy) = true := decide_eq_true c
    have em : sy = m := by have := HM.out; omega
    go_wp2_with fail
    all_goals first
      | (exfalso; omega)
      | ((try rw [em]); refine (CM.out _).mono ?_; rintro e w1 ⟨rfl, hw⟩; have hw := hw.symm; subst hw; rw [← E.out]; go_wp2_with fail; go_ret; exact ⟨rfl, rfl⟩)
  · have c' : decide (sx < sy) = false := decide_eq_false c
    have em : sx = m := by have := HM.out; omega
    go_wp2_with fail
    all_goals first
      | (exfalso; omega)
      | ((try rw [em]); refine (CM.out _).mono ?_; rintro e w1 ⟨rfl, hw⟩; have hw := hw.symm; subst hw; rw [← E.out]; go_wp2_with fail; go_ret; exact ⟨rfl, rfl⟩)
theorem twoV6 : TwoV 6 89 := by
  refine ⟨enters_of Try.func89 (by kernel_rfl) rfl, fun x y w hx hy => ?_⟩
  have E := hide (show two1 6 x y = min (Base.sg (x % 2147483647)) (Base.sg (y % 2147483647)) % 2147483647 by rw [sg_min hx hy]; unfold two1; simp)
  have rx := sg_rng x
  have ry := sg_rng y
  obtain ⟨x0, x1⟩ := hx
  obtain ⟨y0, y1⟩ := hy
  have CX := hide (fun (W : World) => Base.implSigned x W (by omega) (by omega))
  have CY := hide (fun (W : World) => Base.implSigned y W (by omega) (by omega))
  obtain ⟨sx, hsx⟩ : ∃ sx, Base.sg (x % 2147483647) = sx := ⟨_, rfl⟩
  obtain ⟨sy, hsy⟩ : ∃ sy, Base.sg (y % 2147483647) = sy := ⟨_, rfl⟩
  rw [hsx] at CX E rx
  rw [hsy] at CY E ry
  obtain ⟨m, hm⟩ : ∃ m, min sx sy = m := ⟨_, rfl⟩
  rw [hm] at E
  have mr : -1073741823 ≤ m ∧ m ≤ 1073741823 := by omega
  have CM := hide (fun (W : World) => Base.implMod m W (by omega) (by omega))
  have HM := hide hm
  clear hsx hsy hm
  go_enter Try.func89, Try.ntmps89
  go_wp2_with fail
  refine (CX.out _).mono ?_
  rintro e w1 ⟨rfl, hw⟩
  have hw := hw.symm
  subst hw
  go_wp2_with fail
  refine (CY.out _).mono ?_
  rintro e w1 ⟨rfl, hw⟩
  have hw := hw.symm
  subst hw
  by_cases c : sy < sx
  · have c' : decide (sy < sx) = true := decide_eq_true c
    have em : sy = m := by have := HM.out; omega
    go_wp2_with fail
    all_goals first
      | (exfalso; omega)
      | ((try rw [em]); refine (CM.out _).mono ?_; rintro e w1 ⟨rfl, hw⟩; have hw := hw.symm; subst hw; rw [← E.out]; go_wp2_with fail; go_ret; exact ⟨rfl, rfl⟩)
  · have c' : decide (sy < sx) = false := decide_eq_false c
    have em : sx = m := by have := HM.out; omega
    go_wp2_with fail
    all_goals first
      | (exfalso; omega)
      | ((try rw [em]); refine (CM.out _).mono ?_; rintro e w1 ⟨rfl, hw⟩; have hw := hw.symm; subst hw; rw [← E.out]; go_wp2_with fail; go_ret; exact ⟨rfl, rfl⟩)
theorem twoV7 : TwoV 7 90 := by
  refine ⟨enters_of Try.func90 (by kernel_rfl) rfl, fun x y w hx hy => ?_⟩
  have E := hide (show two1 7 x y = (if decide (Base.sg (x % 2147483647) < Base.sg (y % 2147483647)) = true then 1 else 0) by unfold two1; simp)
  obtain ⟨x0, x1⟩ := hx
  obtain ⟨y0, y1⟩ := hy
  have CX := hide (fun (W : World) => Base.implSigned x W (by omega) (by omega))
  have CY := hide (fun (W : World) => Base.implSigned y W (by omega) (by omega))
  obtain ⟨sx, hsx⟩ : ∃ sx, Base.sg (x % 2147483647) = sx := ⟨_, rfl⟩
  obtain ⟨sy, hsy⟩ : ∃ sy, Base.sg (y % 2147483647) = sy := ⟨_, rfl⟩
  rw [hsx] at CX E
  rw [hsy] at CY E
  clear hsx hsy
  go_enter Try.func90, Try.ntmps90
  go_wp2_with fail
  refine (CX.out _).mono ?_
  rintro e w1 ⟨rfl, hw⟩
  have hw := hw.symm
  subst hw
  go_wp2_with fail
  refine (CY.out _).mono ?_
  rintro e w1 ⟨rfl, hw⟩
  have hw := hw.symm
  subst hw
  go_wp2_with fail
  refine (oneWhen (decide (sx < sy)) _).mono ?_
  rintro e w1 ⟨rfl, hw⟩
  have hw := hw.symm
  subst hw
  rw [← E.out]
  go_wp2_with fail
  go_ret
  exact ⟨rfl, rfl⟩
theorem twoV8 : TwoV 8 92 := by
  refine ⟨enters_of Try.func92 (by kernel_rfl) rfl, fun x y w hx hy => ?_⟩
  have E := hide (show two1 8 x y = (if (x == y) = true then 1 else 0) by unfold two1; simp)
  obtain ⟨z, hz⟩ : ∃ z, (x == y) = z := ⟨_, rfl⟩
  rw [hz] at E
  go_enter Try.func92, Try.ntmps92
  go_wp2_with fail
  refine (oneWhen z _).mono ?_
  rintro e w1 ⟨rfl, hw⟩
  have hw := hw.symm
  subst hw
  rw [← E.out]
  go_wp2_with fail
  go_ret
  exact ⟨rfl, rfl⟩
theorem twoOfV (op : Int) (w : World) : ∃ v, (Calls Try.prog 51 #[.int .i64 op] w fun e w' => e = .returned v ∧ w' = w) ∧ ((1 ≤ op ∧ op ≤ 8 ∧ ∃ F, v = .func (.func F) #[] #[] ∧ TwoV op F) ∨ (¬ (1 ≤ op ∧ op ≤ 8) ∧ v = .nilFunc)) := by
  by_cases h1 : op = 1
  · subst h1
    exact ⟨_, (by go_enter Try.func51, Try.ntmps51
                  go_wp2_with fail
                  go_ret
                  exact ⟨rfl, rfl⟩), .inl ⟨by omega, by omega, _, rfl, twoV1⟩⟩
  by_cases h2 : op = 2
  · subst h2
    exact ⟨_, (by go_enter Try.func51, Try.ntmps51
                  go_wp2_with fail
                  go_ret
                  exact ⟨rfl, rfl⟩), .inl ⟨by omega, by omega, _, rfl, twoV2⟩⟩
  by_cases h3 : op = 3
  · subst h3
    exact ⟨_, (by go_enter Try.func51, Try.ntmps51
                  go_wp2_with fail
                  go_ret
                  exact ⟨rfl, rfl⟩), .inl ⟨by omega, by omega, _, rfl, twoV3⟩⟩
  by_cases h4 : op = 4
  · subst h4
    exact ⟨_, (by go_enter Try.func51, Try.ntmps51
                  go_wp2_with fail
                  go_ret
                  exact ⟨rfl, rfl⟩), .inl ⟨by omega, by omega, _, rfl, twoV4⟩⟩
  by_cases h5 : op = 5
  · subst h5
    exact ⟨_, (by go_enter Try.func51, Try.ntmps51
                  go_wp2_with fail
                  go_ret
                  exact ⟨rfl, rfl⟩), .inl ⟨by omega, by omega, _, rfl, twoV5⟩⟩
  by_cases h6 : op = 6
  · subst h6
    exact ⟨_, (by go_enter Try.func51, Try.ntmps51
                  go_wp2_with fail
                  go_ret
                  exact ⟨rfl, rfl⟩), .inl ⟨by omega, by omega, _, rfl, twoV6⟩⟩
  by_cases h7 : op = 7
  · subst h7
    exact ⟨_, (by go_enter Try.func51, Try.ntmps51
                  go_wp2_with fail
                  go_ret
                  exact ⟨rfl, rfl⟩), .inl ⟨by omega, by omega, _, rfl, twoV7⟩⟩
  by_cases h8 : op = 8
  · subst h8
    exact ⟨_, (by go_enter Try.func51, Try.ntmps51
                  go_wp2_with fail
                  go_ret
                  exact ⟨rfl, rfl⟩), .inl ⟨by omega, by omega, _, rfl, twoV8⟩⟩
  · have g1 : (op == 1) = false := beq_eq_false_iff_ne.2 h1
    have g2 : (op == 2) = false := beq_eq_false_iff_ne.2 h2
    have g3 : (op == 3) = false := beq_eq_false_iff_ne.2 h3
    have g4 : (op == 4) = false := beq_eq_false_iff_ne.2 h4
    have g5 : (op == 5) = false := beq_eq_false_iff_ne.2 h5
    have g6 : (op == 6) = false := beq_eq_false_iff_ne.2 h6
    have g7 : (op == 7) = false := beq_eq_false_iff_ne.2 h7
    have g8 : (op == 8) = false := beq_eq_false_iff_ne.2 h8
    refine ⟨.nilFunc, ?_, .inr ⟨by omega, rfl⟩⟩
    clear h1 h2 h3 h4 h5 h6 h7 h8
    go_enter Try.func51, Try.ntmps51
    go_wp2_with fail
    go_ret
    exact ⟨rfl, rfl⟩
end Vo
end Go.Proofs.Ytdenfcckmpkomaa
