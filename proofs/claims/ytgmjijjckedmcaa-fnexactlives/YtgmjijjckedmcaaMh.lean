/- Lives that are left out: slices.DeleteFunc of lives, walked. -/
import Derived.Test.YtgmjijjckedmcaaMg
namespace Go.Proofs.Ytgmjijjckedmcaa
namespace Vo
open Go.ChangeShapes Go.WideShapes Go.ChangeAt Go.RowKit Go.Joins Go.Sort
open Vl Vp
set_option linter.unusedVariables false
set_option linter.unusedSimpArgs false
theorem getD_app {l : List Nat} {j q : Nat} : (l ++ [j]).getD q 0 = if q = l.length then j else l.getD q 0 := by
  by_cases c : q = l.length
  · subst c; simp
  · rw [if_neg c]
    by_cases d : q < l.length
    · simp [List.getD_eq_getElem?_getD, List.getElem?_append_left d]
    · simp [List.getD_eq_getElem?_getD, List.getElem?_append_right (show l.length ≤ q by omega), show ¬ q < l.length by omega]
      rw [List.getElem?_eq_none (by simp; omega)]
      simp
set_option maxRecDepth 100000 in
set_option maxHeartbeats 4000000 in
theorem deleteF (B g n : Nat) (D : Nat → MV) (w : World) (h : OML B w g n n D) (hn : (n : Int) ≤ 1048576) :
    Calls Try.prog 62 #[.slice (some ⟨g, 0, none⟩) n n, .func (.func 63) #[] #[]] w fun e w' => e = .returned (.slice (some ⟨g, 0, none⟩) (kl D n).length n) ∧ OML B w' g (kl D n).length (kl D n).length (fun q => D ((kl D n).getD q 0)) ∧ Kept (· = g) w w' := by
  have H := hide h
  have CI := hide (indexDel B g n D w h hn)
  clear h
  go_enter Try.func62, Try.ntmps62
  go_wp2_with fail
  refine CI.out.mono ?_
  intro e1 w1 hq
  obtain ⟨hq, b1⟩ := hq
  have B1 := hide b1
  have H1 := hide (H.out.below b1)
  clear b1 CI
  rcases hq with ⟨rfl, hall⟩ | ⟨m, rfl, hm, hdel, hall⟩
  · have e := hide (kl_all hall)
    clear hall
    go_wp2_with fail
    go_ret
    rw [e.out]
    refine ⟨by simp, ?_, Kept.of_below B1.out⟩
    rw [List.length_range]
    exact H1.out.same (fun i hi => by
      rw [List.getD_eq_getElem?_getD, List.getElem?_range hi]
      rfl)
  have E0 := hide (kl_all hall)
  have LT := hide (show (kl D n).length < n by
    have q : ∀ j, m + 1 + j ≤ n → (kl D (m + 1 + j)).length < m + 1 + j := by
      intro j
      induction j with
      | zero =>
        intro _
        rw [Nat.add_zero, kl_succ, if_pos hdel, kl_all hall]
        simp
      | succ j ih =>
        intro hj
        have := ih (by omega)
        rw [show m + 1 + (j + 1) = m + 1 + j + 1 by omega, kl_succ]
        split
        · omega
        · simp; omega
    have := q (n - (m + 1)) (by omega)
    rwa [show m + 1 + (n - (m + 1)) = n by omega] at this)
  have K0 := hide (show kl D (m + 1) = List.range m by rw [kl_succ, if_pos hdel, E0.out])
  clear hall hdel E0
  have mm : ((m : Int) == -1) = false := by simp
  go_wp2_with fail
  clear mm
  go_loopw [5, 6] (fun v i wx => ∃ (j r : Nat) (E : Nat → MV), j ≤ n ∧ m < j ∧ i = .int .i64 j ∧ v = .int .i64 r ∧ r = (kl D j).length ∧ OML B wx g n n E ∧ (∀ q, q < r → E q = D ((kl D j).getD q 0)) ∧ (∀ q, j ≤ q → q < n → E q = D q) ∧ Kept (· = g) w wx) (fun _ i _ => n - (intOf i).toNat)
  case atStart => exact ⟨m + 1, m, D, by omega, by omega, by go_num, rfl, by rw [K0.out]; simp, H1.out, fun q hq => by rw [K0.out, List.getD_eq_getElem?_getD, List.getElem?_range hq]; rfl, fun q _ _ => rfl, Kept.of_below B1.out⟩
  case round =>
    obtain ⟨X, rfl⟩ : ∃ X, X = wr := ⟨_, rfl⟩
    obtain ⟨j, r, E, hj, hmj, rfl, rfl, hr, ho, he, hx, hkp⟩ := hrel
    have rj : r < j ∨ r = j := by have := kl_len D j; omega
    have rn : r < n := by
      rcases Nat.lt_or_ge j n with c | c
      · have := kl_len D j; omega
      · have : j = n := by omega
        rw [this] at hr
        have := LT.out
        omega
    have HR := hide hr
    have HO := hide ho
    have HE := hide he
    have HX := hide hx
    have HK := hide hkp
    clear hr ho he hx hkp
    have rI : (r : Int) < n := by omega
    by_cases hlt : j < n
    case pos =>
      have jI : (j : Int) < n := by omega
      obtain ⟨⟨c0, c1, c2, c3⟩, dd⟩ := HO.out.laid j hlt
      rw [HX.out j (Nat.le_refl _) hlt] at c0 c1 c2 c3 dd
      obtain ⟨x, hx⟩ : ∃ x, D j = x := ⟨_, rfl⟩
      rw [hx] at c0 c1 c2 c3 dd
      have DD := hide dd
      have EX := hide hx
      clear dd hx
      obtain ⟨Y, hY⟩ : ∃ Y, X.alloc (.cells #[.int .i64 x.b, .int .i64 x.s, .int .i64 x.f, .int .i64 x.t] 54) = Y := ⟨_, rfl⟩
      have bY : Below X.heap.size X Y := by rw [← hY]; exact (Below.refl _ _).alloc (Nat.le_refl _) _
      have m0 : Y.cell? ⟨X.heap.size, 0, none⟩ = some (.int .i64 x.b) := by rw [← hY]; simp [go_sem]
      have m1 : Y.cell? ⟨X.heap.size, 1, none⟩ = some (.int .i64 x.s) := by rw [← hY]; simp [go_sem]
      have m2 : Y.cell? ⟨X.heap.size, 2, none⟩ = some (.int .i64 x.f) := by rw [← hY]; simp [go_sem]
      have m3 : Y.cell? ⟨X.heap.size, 3, none⟩ = some (.int .i64 x.t) := by rw [← hY]; simp [go_sem]
      have zY : X.heap.size < Y.heap.size := World.block_lt_of_cell? _ _ m0
      have CD := hide (livesDel x Y)
      have BY := hide bY
      clear bY
      by_cases hd : delM x
      · rw [decide_eq_true hd] at CD
        have KS := hide (show kl D (j + 1) = kl D j by rw [kl_succ, EX.out, if_pos hd])
        clear hd
        go_wp2_with fail
        refine CD.out.mono ?_
        rintro e1 Y1 ⟨rfl, b2⟩
        have B2 := hide (BY.out.trans (b2.mono BY.out.size))
        clear b2 hY m0 m1 m2 m3 c0 c1 c2 c3 CD
        go_wp2_with fail
        go_roundw
        all_goals first
          | (simp only [intOf]; omega)
          | (simp [intOf]; omega)
          | exact ⟨j + 1, r, E, by omega, by omega, by go_num, rfl, by rw [KS.out]; exact HR.out, HO.out.below B2.out, fun q hq => by rw [KS.out]; exact HE.out q hq, fun q h1 h2 => HX.out q (by omega) h2, HK.out.trans (Kept.of_below B2.out)⟩
      · rw [decide_eq_false hd] at CD
        have KS := hide (show kl D (j + 1) = kl D j ++ [j] by rw [kl_succ, EX.out, if_neg hd])
        clear hd
        go_wp2_with fail
        refine CD.out.mono ?_
        rintro e1 Y1 ⟨rfl, b2⟩
        have B2 := hide (BY.out.trans (b2.mono BY.out.size))
        have n0 := (b2.cell (p := ⟨X.heap.size, 0, none⟩) zY).trans m0
        have n1 := (b2.cell (p := ⟨X.heap.size, 1, none⟩) zY).trans m1
        have n2 := (b2.cell (p := ⟨X.heap.size, 2, none⟩) zY).trans m2
        have n3 := (b2.cell (p := ⟨X.heap.size, 3, none⟩) zY).trans m3
        have O2 := hide (HO.out.below B2.out)
        obtain ⟨⟨d0, d1, d2, d3⟩, _⟩ := O2.out.laid r rn
        have f0 := O2.out.free (r * 4)
        have f1 := O2.out.free (r * 4 + 1)
        have f2 := O2.out.free (r * 4 + 2)
        have f3 := O2.out.free (r * 4 + 3)
        have wr1 : IntKind.i64.wrap ((r : Int) + 1) = ((r + 1 : Nat) : Int) := by rw [IntKind.wrap_i64]; omega
        clear b2 hY m0 m1 m2 m3 c0 c1 c2 c3 CD
        go_wp2_with fail
        go_roundw
        all_goals first
          | (simp only [intOf]; omega)
          | (simp [intOf]; omega)
          | exact ⟨j + 1, r + 1, updM E r x, by omega, by omega, by go_num, by go_num, by rw [KS.out, List.length_append, ← HR.out]; rfl, oml_set4 O2.out rn DD.out, fun q hq => by
              rw [KS.out, getD_app, ← HR.out]
              unfold updM
              by_cases c : q = r
              · rw [if_pos c, if_pos c, EX.out]
              · rw [if_neg c, if_neg c]; exact HE.out q (by omega), fun q h1 h2 => by
              unfold updM
              rw [if_neg (by omega)]
              exact HX.out q (by omega) h2, (HK.out.trans (Kept.of_below B2.out)).trans (kept_set4 _ _ _ _ _ _ _ _ _ _)⟩
    case neg =>
      obtain rfl : j = n := by omega
      have HC := hide (fun ty => clearLife X ty g (r * 4) (j - r) (j - r) (by omega) (fun q hq => by
        obtain ⟨⟨c0, c1, c2, c3⟩, _⟩ := HO.out.laid (r + q / 4) (by omega)
        have md : q % 4 = 0 ∨ q % 4 = 1 ∨ q % 4 = 2 ∨ q % 4 = 3 := by omega
        rcases md with md | md | md | md
        · rw [show r * 4 + q = (r + q / 4) * 4 by omega, c0]; rfl
        · rw [show r * 4 + q = (r + q / 4) * 4 + 1 by omega, c1]; rfl
        · rw [show r * 4 + q = (r + q / 4) * 4 + 2 by omega, c2]; rfl
        · rw [show r * 4 + q = (r + q / 4) * 4 + 3 by omega, c3]; rfl) (fun q hq => HO.out.free _))
      obtain ⟨Y, hY⟩ : ∃ Y, X.setCells g (r * 4) (List.replicate ((j - r) * 4) (.int .i64 0)) = Y := ⟨_, rfl⟩
      have hcl := HC.out
      rw [hY] at hcl
      have KY := hide (show Kept (· = g) X Y by rw [← hY]; exact keptCells g _ _ X)
      have OY := hide (show OML B Y g r r (fun q => D ((kl D j).getD q 0)) by
        have ca : ∀ q, q < r * 4 → Y.cell? ⟨g, q, none⟩ = X.cell? ⟨g, q, none⟩ := fun q hq => by rw [← hY]; exact cells_ahead g q _ _ X hq
        refine ⟨HO.out.lo, Nat.lt_of_lt_of_le HO.out.lt KY.out.size, fun q hq => ?_, fun q h1 h2 => by omega, fun q => by rw [← hY, World.frozen?_setCells]; exact HO.out.free q⟩
        rw [ca _ (by omega), ca _ (by omega), ca _ (by omega), ca _ (by omega), ← HE.out q hq]
        exact HO.out.laid q (by omega))
      have rle : (r : Int) ≤ j := by omega
      have rle' : r ≤ j := by omega
      clear hY HC
      go_wp2_with fail
      go_ret
      rw [← HR.out]
      exact ⟨by simp, OY.out, HK.out.trans KY.out⟩
end Vo
end Go.Proofs.Ytgmjijjckedmcaa
