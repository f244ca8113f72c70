/- Lemmas for the proof of the law. -/
import Derived.Test.YtejfodkobfdelaaMgaj
import Derived.Lib.QuietBelow
import Derived.KernelRfl
/- TensorOk on both sides. -/
namespace Go.Proofs.Ytejfodkobfdelaa
namespace Vo
open Go.ChangeShapes Go.WideShapes Go.ChangeAt Go.RowKit Go.Joins Go.Sort
open Vl Vp
set_option linter.unusedVariables false
set_option linter.unusedSimpArgs false

/-- each of a list is in 0 .. n - 1 -/
def WI (s : Nat) (S : Nat → Int) (n : Int) : Prop := ∀ j, j < s → 0 ≤ S j ∧ S j < n
instance (s : Nat) (S : Nat → Int) (n : Int) : Decidable (WI s S n) := by unfold WI; infer_instance
def wi (s : Nat) (S : Nat → Int) (n : Int) : Bool := decide (WI s S n)
/-- what a tensor is -/
def tok (r s : Nat) (D S : Nat → Int) : Bool := dok r D && decide ((s : Int) = szR D r) && wi s S 2147483647
theorem tok_no1 {r s : Nat} {D S : Nat → Int} (h : dok r D = false) : tok r s D S = false := by unfold tok; rw [h]; rfl
theorem tok_no2 {r s : Nat} {D S : Nat → Int} (h : (s : Int) ≠ szR D r) : tok r s D S = false := by unfold tok; rw [decide_eq_false h]; simp
theorem tok_no3 {r s : Nat} {D S : Nat → Int} {k : Nat} (hk : k < s) (h : S k < 0 ∨ 2147483647 ≤ S k) : tok r s D S = false := by
  unfold tok wi
  rw [decide_eq_false (show ¬ WI s S 2147483647 from fun q => by have := q k hk; omega)]
  simp
theorem tok_yes {r s : Nat} {D S : Nat → Int} (h1 : dok r D = true) (h2 : (s : Int) = szR D r) (h3 : WI s S 2147483647) : tok r s D S = true := by
  unfold tok wi
  rw [h1, decide_eq_true h2, decide_eq_true h3]; rfl
theorem sz_dok {r : Nat} {D : Nat → Int} (h : dok r D = true) : sz r D = szR D r := by
  unfold sz; rw [if_neg (by have := (dok_iff.1 h).1; omega)]
theorem within1 (x n : Int) (P : Nat) (w : World) (h : w.cell? ⟨P, 0, none⟩ = some (.int .i64 n)) :
    Calls Try.prog 90 #[.int .i64 x, .pointer (some ⟨P, 0, none⟩)] w fun e w' => e = .returned (.bool (decide (x < 0) || decide (n ≤ x))) ∧ w' = w := by
  by_cases h0 : x < 0
  · have h0' : decide (x < 0) = true := decide_eq_true h0
    rw [h0', Bool.true_or]
    clear h0
    go_enter Try.func90, Try.ntmps90
    go_wp2_with fail
    go_ret
    exact ⟨rfl, rfl⟩
  · have h0' : decide (x < 0) = false := decide_eq_false h0
    rw [h0', Bool.false_or]
    clear h0
    go_enter Try.func90, Try.ntmps90
    go_wp2_with fail
    go_ret
    exact ⟨rfl, rfl⟩
set_option maxHeartbeats 1000000 in
theorem indexF (B : Nat) (a : Option Addr) (s cap : Nat) (S : Nat → Int) (n : Int) (P : Nat) (w : World) (h : Ints B w a s S) (hP : w.cell? ⟨P, 0, none⟩ = some (.int .i64 n)) (hs : (s : Int) ≤ 1048576) :
    Calls Try.prog 100 #[.slice a s cap, .func (.func 90) #[] #[.pointer (some ⟨P, 0, none⟩)]] w fun e w' => ∃ i, e = .returned (.int .i64 i) ∧ decide (0 ≤ i) = !(wi s S n) ∧ w' = w := by
  have H := hide h
  have HP := hide hP
  clear h hP
  go_enter Try.func100, Try.ntmps100
  go_wp2_with fail
  go_loopw [8] (fun i wx => ∃ k : Nat, k ≤ s ∧ i = .int .i64 k ∧ WI k S n ∧ wx = w) (fun i _ => s - (intOf i).toNat)
  case atStart => exact ⟨0, Nat.zero_le _, rfl, fun j hj => by omega, rfl⟩
  case round =>
    obtain ⟨k, hk, rfl, hall, rfl⟩ := hrel
    have HA := hide hall
    clear hall
    by_cases hlt : k < s
    · rcases H.out with h0 | ⟨b, off, rfl, hbB, hc⟩
      · omega
      have c1 := (hc k hlt).1
      have kI : (k : Int) < s := by omega
      clear hc
      by_cases hq : S k < 0 ∨ n ≤ S k
      · have e := hide (show (decide (S k < 0) || decide (n ≤ S k)) = true by simpa using hq)
        have f := hide (show decide ((0 : Int) ≤ (k : Int)) = !(wi s S n) by
          rw [show wi s S n = false from decide_eq_false (fun q => by have := q k hlt; omega)]
          simp)
        clear hq
        go_wp2_with fail
        refine (within1 _ n P _ HP.out).mono ?_
        rintro e1 w1 ⟨rfl, rfl⟩
        rw [e.out]
        go_wp2_with fail
        go_ret
        exact ⟨_, rfl, f.out, rfl⟩
      · have e := hide (show (decide (S k < 0) || decide (n ≤ S k)) = false by simpa using hq)
        have f := hide (show WI (k + 1) S n from fun j hj => by
          by_cases ej : j = k
          · subst ej; omega
          · exact HA.out j (by omega))
        clear hq
        go_wp2_with fail
        refine (within1 _ n P _ HP.out).mono ?_
        rintro e1 w1 ⟨rfl, rfl⟩
        rw [e.out]
        go_wp2_with fail
        go_roundw
        case rel => exact ⟨k + 1, by omega, by go_num, f.out, trivial⟩
        case measure => simp [intOf]; omega
    · obtain rfl : k = s := by omega
      have f := hide (show wi k S n = true from decide_eq_true HA.out)
      go_wp2_with fail
      go_ret
      exact ⟨_, rfl, by rw [f.out]; rfl, rfl⟩
theorem within (B : Nat) (a : Option Addr) (s cap : Nat) (S : Nat → Int) (n : Int) (w : World) (hB : B ≤ w.heap.size) (h : Ints B w a s S) (hs : (s : Int) ≤ 1048576) :
    Calls Try.prog 70 #[.slice a s cap, .int .i64 n] w fun e w' => e = .returned (.bool (wi s S n)) ∧ Below w.heap.size w w' := by
  have bl : Below w.heap.size w (w.alloc (.cells #[.int .i64 n] 3)) := (Below.refl _ _).alloc (Nat.le_refl _) _
  have H := hide (h.below (bl.mono hB))
  have HP := hide (show (w.alloc (.cells #[.int .i64 n] 3)).cell? ⟨w.heap.size, 0, none⟩ = some (.int .i64 n) by simp [go_sem])
  have BL := hide bl
  have C1 := hide (show Calls Try.prog 89 #[.slice a s cap, .func (.func 90) #[] #[.pointer (some ⟨w.heap.size, 0, none⟩)]] (w.alloc (.cells #[.int .i64 n] 3)) fun e w' => e = .returned (.bool (!(wi s S n))) ∧ w' = w.alloc (.cells #[.int .i64 n] 3) by
    generalize w.alloc (.cells #[.int .i64 n] 3) = W at *
    clear h bl BL
    go_enter Try.func89, Try.ntmps89
    go_wp2_with fail
    refine (indexF B a s cap S n w.heap.size _ H.out HP.out hs).mono ?_
    rintro e1 w1 ⟨i, rfl, hi, rfl⟩
    have HI := hide hi
    clear hi
    go_wp2_with fail
    go_ret
    exact ⟨by rw [HI.out]; rfl, rfl⟩)
  clear h bl
  go_enter Try.func70, Try.ntmps70
  go_wp2_with fail
  refine C1.out.mono ?_
  rintro e1 w1 ⟨rfl, rfl⟩
  go_wp2_with fail
  go_ret
  exact ⟨by simp, BL.out⟩
set_option maxRecDepth 100000 in
set_option maxHeartbeats 1000000 in
theorem specTensorOkL (B : Nat) (a b : Option Addr) (r s cap dap : Nat) (D S : Nat → Int) (w : World) (hB : B ≤ w.heap.size) (h : Ints B w a r D) (h' : Ints B w b s S) (hr : (r : Int) ≤ 1048576) (hs : (s : Int) ≤ 33554432) :
    Calls Try.prog 31 #[.agg #[.slice a r cap, .slice b s dap]] w fun e w' => e = .returned (.bool (tok r s D S)) ∧ Below w.heap.size w w' := by
  have bl : Below w.heap.size w (w.alloc (.cells #[.slice a r cap, .slice b s dap] 38)) := (Below.refl _ _).alloc (Nat.le_refl _) _
  have H := hide (h.below (bl.mono hB))
  have H' := hide (h'.below (bl.mono hB))
  have n0 := bx_new w (.slice a r cap) (.slice b s dap) 38
  have hB' : B ≤ (w.alloc (.cells #[.slice a r cap, .slice b s dap] 38)).heap.size := by simp; omega
  have hz : w.heap.size < (w.alloc (.cells #[.slice a r cap, .slice b s dap] 38)).heap.size := by simp
  obtain ⟨W, hW⟩ : ∃ W, w.alloc (.cells #[.slice a r cap, .slice b s dap] 38) = W := ⟨_, rfl⟩
  rw [hW] at H H' n0 bl hB' hz
  have BL := hide bl
  have k0 := cell_regrown n0.1
  have k1 := cell_regrown n0.2
  have N0 := hide n0
  have cD : ∀ q os, Calls Try.prog 24 #[.slice a r cap] (Sort.grow (redrawn W q) os) fun e w'' => e = .returned (.bool (dok r D)) ∧ ∃ p : Regrown, w'' = Sort.grow (redrawn W p.d) p.os := fun q os => Calls.regrown_of ((Vs.specDimsOk B a r cap D _ (H.out.below ((below_regrown W q os).mono hB')) hr).mono (fun e w' q => ⟨q.1, q.2 ▸ Below.refl _ _⟩))
  have cS : ∀ q os, Calls Try.prog 25 #[.slice a r cap] (Sort.grow (redrawn W q) os) fun e w'' => e = .returned (.int .i64 (szR D r)) ∧ ∃ p : Regrown, w'' = Sort.grow (redrawn W p.d) p.os := fun q os => Calls.regrown_of ((Vs.l3Size B a r cap D _ (H.out.below ((below_regrown W q os).mono hB')) hr).mono (fun e w' q => ⟨q.1, q.2 ▸ Below.refl _ _⟩))
  have CD := hide cD
  have CS := hide cS
  clear h h' bl n0 cD cS
  cases hd : dok r D with
  | false =>
    rw [hd] at CD
    have e := hide (tok_no1 (s := s) (S := S) hd)
    clear hd
    go_enter Try.func31, Try.ntmps31
    go_wp2_with fail
    refine wp_region_quiet_below (by kernel_rfl) (by kernel_rfl) ?_
    repeat (quiet_step (first | (go_at_call 24; exact CD.out _ _) | (go_at_call 25; exact CS.out _ _)))
    refine wpQuiet_nil ?_
    intro _ hw'
    obtain ⟨⟨dq, osq⟩, hw''⟩ := hw'
    subst hw''
    go_wp2_with fail
    go_ret
    exact ⟨ret_bool e.out.symm, BL.out.trans ((below_regrown W dq osq).mono BL.out.size)⟩
  | true =>
    rw [hd] at CD
    have HD := hide hd
    clear hd
    by_cases hs2 : (s : Int) = szR D r
    rotate_left
    · have e := hide (tok_no2 (S := S) hs2)
      have hs3 : ((s : Int) != szR D r) = true := by rw [bne_iff_ne]; exact hs2
      clear hs2
      go_enter Try.func31, Try.ntmps31
      go_wp2_with fail
      refine wp_region_quiet_below (by kernel_rfl) (by kernel_rfl) ?_
      repeat (quiet_step (first | (go_at_call 24; exact CD.out _ _) | (go_at_call 25; exact CS.out _ _)))
      refine wpQuiet_nil ?_
      intro _ hw'
      obtain ⟨⟨dq, osq⟩, hw''⟩ := hw'
      subst hw''
      go_wp2_with fail
      go_ret
      exact ⟨ret_bool e.out.symm, BL.out.trans ((below_regrown W dq osq).mono BL.out.size)⟩
    · have HS2 := hide hs2
      have hs3 : ((s : Int) != szR D r) = false := by rw [bne_eq_false_iff_eq]; exact hs2
      clear hs2
      go_enter Try.func31, Try.ntmps31
      go_wp2_with fail
      refine wp_region_quiet_below (by kernel_rfl) (by kernel_rfl) ?_
      repeat (quiet_step (first | (go_at_call 24; exact CD.out _ _) | (go_at_call 25; exact CS.out _ _)))
      refine wpQuiet_nil ?_
      intro _ hw'
      obtain ⟨⟨dq, osq⟩, hw''⟩ := hw'
      subst hw''
      go_wp2_with fail
      go_loopw [3] (fun i wx => ∃ k : Nat, k ≤ s ∧ i = .int .i64 k ∧ WI k S 2147483647 ∧ wx = Sort.grow (redrawn W dq) osq) (fun i _ => s - (intOf i).toNat)
      case atStart => exact ⟨0, Nat.zero_le _, rfl, fun j hj => by omega, rfl⟩
      case round =>
        obtain ⟨k, hk, rfl, hall, rfl⟩ := hrel
        have HA := hide hall
        clear hall
        by_cases hlt : k < s
        · rcases H'.out.below ((below_regrown W dq osq).mono hB') with h0 | ⟨b', off, rfl, hbB, hc⟩
          · omega
          have c1 := (hc k hlt).1
          have kI : (k : Int) < s := by omega
          clear hc
          by_cases q1 : S k < 0
          · have e := hide (tok_no3 (r := r) (D := D) hlt (.inl q1))
            have q1' : decide (S k < 0) = true := decide_eq_true q1
            clear q1
            go_wp2_with fail
            go_ret
            exact ⟨ret_bool e.out.symm, BL.out.trans ((below_regrown W dq osq).mono BL.out.size)⟩
          · have q1' : decide (S k < 0) = false := decide_eq_false q1
            by_cases q2 : 2147483647 ≤ S k
            · have e := hide (tok_no3 (r := r) (D := D) hlt (.inr q2))
              have q2' : decide (2147483647 ≤ S k) = true := decide_eq_true q2
              clear q1 q2
              go_wp2_with fail
              go_ret
              exact ⟨ret_bool e.out.symm, BL.out.trans ((below_regrown W dq osq).mono BL.out.size)⟩
            · have q2' : decide (2147483647 ≤ S k) = false := decide_eq_false q2
              have f := hide (show WI (k + 1) S 2147483647 from fun j hj => by
                by_cases ej : j = k
                · subst ej; omega
                · exact HA.out j (by omega))
              clear q1 q2
              go_wp2_with fail
              go_roundw
              case rel => exact ⟨k + 1, by omega, by go_num, f.out, trivial⟩
              case measure => simp [intOf]; omega
        · obtain rfl : k = s := by omega
          have e := hide (tok_yes HD.out HS2.out HA.out)
          go_wp2_with fail
          go_ret
          exact ⟨ret_bool e.out.symm, BL.out.trans ((below_regrown W dq osq).mono BL.out.size)⟩
theorem specTensorOk (B : Nat) (a b : Option Addr) (r s cap dap : Nat) (D S : Nat → Int) (w : World) (hB : B ≤ w.heap.size) (h : Ints B w a r D) (h' : Ints B w b s S) (hr : (r : Int) ≤ 1048576) (hs : (s : Int) ≤ 1048576) :
    Calls Try.prog 31 #[.agg #[.slice a r cap, .slice b s dap]] w fun e w' => e = .returned (.bool (tok r s D S)) ∧ Below w.heap.size w w' := specTensorOkL B a b r s cap dap D S w hB h h' hr (by omega)
set_option maxRecDepth 100000 in
set_option maxHeartbeats 1000000 in
theorem tensorOk (B : Nat) (a b : Option Addr) (r s cap dap : Nat) (D S : Nat → Int) (w : World) (hB : B ≤ w.heap.size) (h : Ints B w a r D) (h' : Ints B w b s S) (hr : (r : Int) ≤ 1048576) (hs : (s : Int) ≤ 1048576) :
    Calls Try.prog 40 #[.agg #[.slice a r cap, .slice b s dap]] w fun e w' => e = .returned (.bool (tok r s D S)) ∧ Below w.heap.size w w' := by
  have bl : Below w.heap.size w (w.alloc (.cells #[.slice a r cap, .slice b s dap] 38)) := (Below.refl _ _).alloc (Nat.le_refl _) _
  have H := hide (h.below (bl.mono hB))
  have H' := hide (h'.below (bl.mono hB))
  have n0 := bx_new w (.slice a r cap) (.slice b s dap) 38
  have hB' : B ≤ (w.alloc (.cells #[.slice a r cap, .slice b s dap] 38)).heap.size := by simp; omega
  obtain ⟨W, hW⟩ : ∃ W, w.alloc (.cells #[.slice a r cap, .slice b s dap] 38) = W := ⟨_, rfl⟩
  rw [hW] at H H' n0 bl hB'
  have BL := hide bl
  have k0 := cell_regrown n0.1
  have k1 := cell_regrown n0.2
  have cD : ∀ q os, Calls Try.prog 65 #[.slice a r cap] (Sort.grow (redrawn W q) os) fun e w'' => e = .returned (.bool (dok r D)) ∧ ∃ p : Regrown, w'' = Sort.grow (redrawn W p.d) p.os := fun q os => Calls.regrown_of ((Vs.dimsOk B a r cap D _ (H.out.below ((below_regrown W q os).mono hB')) hr).mono (fun e w' q => ⟨q.1, q.2 ▸ Below.refl _ _⟩))
  have cS : ∀ q os, Calls Try.prog 69 #[.slice a r cap] (Sort.grow (redrawn W q) os) fun e w'' => e = .returned (.int .i64 (sz r D)) ∧ ∃ p : Regrown, w'' = Sort.grow (redrawn W p.d) p.os := fun q os => Calls.regrown_of ((Vs.sizeOf B a r cap D _ (H.out.below ((below_regrown W q os).mono hB')) hr).mono (fun e w' q => ⟨q.1, q.2 ▸ Below.refl _ _⟩))
  have cW : ∀ q os, Calls Try.prog 70 #[.slice b s dap, .int .i64 2147483647] (Sort.grow (redrawn W q) os) fun e w'' => e = .returned (.bool (wi s S 2147483647)) ∧ ∃ p : Regrown, w'' = Sort.grow (redrawn W p.d) p.os := fun q os => Calls.regrown_of (within B b s dap S 2147483647 _ (Nat.le_trans hB' (below_regrown W q os).size) (H'.out.below ((below_regrown W q os).mono hB')) hs)
  have CD := hide cD
  have CS := hide cS
  have CW := hide cW
  clear h h' bl n0 cD cS cW
  cases hd : dok r D with
  | false =>
    rw [hd] at CD
    have e := hide (tok_no1 (s := s) (S := S) hd)
    clear hd
    go_enter Try.func40, Try.ntmps40
    go_wp2_with fail
    refine wp_region_quiet_below (by kernel_rfl) (by kernel_rfl) ?_
    repeat (quiet_step (first | (go_at_call 65; exact CD.out _ _) | (go_at_call 69; exact CS.out _ _) | (go_at_call 70; exact CW.out _ _)))
    refine wpQuiet_nil ?_
    intro _ hw'
    obtain ⟨⟨dq, osq⟩, hw''⟩ := hw'
    subst hw''
    go_wp2_with fail
    go_ret
    exact ⟨ret_bool e.out.symm, BL.out.trans ((below_regrown W dq osq).mono BL.out.size)⟩
  | true =>
    rw [hd] at CD
    rw [sz_dok hd] at CS
    have HD := hide hd
    clear hd
    by_cases hs2 : (s : Int) = szR D r
    rotate_left
    · have e := hide (tok_no2 (S := S) hs2)
      have hs3 : ((s : Int) == szR D r) = false := beq_eq_false_iff_ne.2 hs2
      clear hs2
      go_enter Try.func40, Try.ntmps40
      go_wp2_with fail
      refine wp_region_quiet_below (by kernel_rfl) (by kernel_rfl) ?_
      repeat (quiet_step (first | (go_at_call 65; exact CD.out _ _) | (go_at_call 69; exact CS.out _ _) | (go_at_call 70; exact CW.out _ _)))
      refine wpQuiet_nil ?_
      intro _ hw'
      obtain ⟨⟨dq, osq⟩, hw''⟩ := hw'
      subst hw''
      go_wp2_with fail
      go_ret
      exact ⟨ret_bool e.out.symm, BL.out.trans ((below_regrown W dq osq).mono BL.out.size)⟩
    · have e := hide (show tok r s D S = wi s S 2147483647 by unfold tok; rw [HD.out, decide_eq_true hs2]; rfl)
      have hs3 : ((s : Int) == szR D r) = true := beq_iff_eq.2 hs2
      clear hs2
      go_enter Try.func40, Try.ntmps40
      go_wp2_with fail
      refine wp_region_quiet_below (by kernel_rfl) (by kernel_rfl) ?_
      repeat (quiet_step (first | (go_at_call 65; exact CD.out _ _) | (go_at_call 69; exact CS.out _ _) | (go_at_call 70; exact CW.out _ _)))
      refine wpQuiet_nil ?_
      intro _ hw'
      obtain ⟨⟨dq, osq⟩, hw''⟩ := hw'
      subst hw''
      go_wp2_with fail
      go_ret
      exact ⟨ret_bool e.out.symm, BL.out.trans ((below_regrown W dq osq).mono BL.out.size)⟩
end Vo
end Go.Proofs.Ytejfodkobfdelaa

/- Plain numbers, no program: remainders as Go takes them, powers modulo a prime, the greatest common divisor as both sides reckon it. -/
namespace Go.Proofs.Ytejfodkobfdelaa
namespace Num

theorem tmod_nonneg_iff (x : Int) (h : 0 ≤ x.tmod 2147483647) : x.tmod 2147483647 = x % 2147483647 := by
  by_cases hx : 0 ≤ x
  · exact Int.tmod_eq_emod_of_nonneg hx
  · obtain ⟨y, rfl⟩ : ∃ y, x = -y := ⟨-x, by omega⟩
    rw [Int.neg_tmod] at h ⊢
    rw [Int.tmod_eq_emod_of_nonneg (by omega)] at h ⊢
    omega

theorem tmod_neg_iff (x : Int) (h : x.tmod 2147483647 < 0) : x.tmod 2147483647 + 2147483647 = x % 2147483647 := by
  by_cases hx : 0 ≤ x
  · rw [Int.tmod_eq_emod_of_nonneg hx] at h
    omega
  · obtain ⟨y, rfl⟩ : ∃ y, x = -y := ⟨-x, by omega⟩
    rw [Int.neg_tmod] at h ⊢
    rw [Int.tmod_eq_emod_of_nonneg (by omega)] at h ⊢
    omega

theorem tmod_bd (x : Int) : -2147483647 < x.tmod 2147483647 ∧ x.tmod 2147483647 < 2147483647 := by
  by_cases hx : 0 ≤ x
  · rw [Int.tmod_eq_emod_of_nonneg hx]
    omega
  · obtain ⟨y, rfl⟩ : ∃ y, x = -y := ⟨-x, by omega⟩
    rw [Int.neg_tmod, Int.tmod_eq_emod_of_nonneg (by omega)]
    omega

/-- the product of two remainders stays far within an int -/
theorem mul_bd (a b : Int) (a0 : 0 ≤ a) (a1 : a < 2147483647) (b0 : 0 ≤ b) (b1 : b < 2147483647) : 0 ≤ a * b ∧ a * b ≤ 4611686009837453316 := by
  constructor
  · exact Int.mul_nonneg a0 b0
  · have h := Int.mul_le_mul (show a ≤ 2147483646 by omega) (show b ≤ 2147483646 by omega) b0 (by omega)
    omega

theorem mul_l (a b : Int) : (a % 2147483647) * b % 2147483647 = a * b % 2147483647 := by
  rw [Int.mul_emod, Int.emod_emod, ← Int.mul_emod]

theorem mul_r (a b : Int) : a * (b % 2147483647) % 2147483647 = a * b % 2147483647 := by
  rw [Int.mul_emod, Int.emod_emod, ← Int.mul_emod]

theorem pow_l (a : Int) (n : Nat) : (a % 2147483647) ^ n % 2147483647 = a ^ n % 2147483647 := by
  induction n with
  | zero => rw [Int.pow_zero, Int.pow_zero]
  | succ n ih => rw [Int.pow_succ, Int.pow_succ, mul_r, Int.mul_emod, ih, ← Int.mul_emod]

/-- a to the power n, modulo the prime -/
def pw (a : Int) (n : Nat) : Int := (a ^ n) % 2147483647

theorem pw_bd (a : Int) (n : Nat) : 0 ≤ pw a n ∧ pw a n < 2147483647 := by
  unfold pw; omega

theorem pw_zero (a : Int) : pw a 0 = 1 := by
  unfold pw; rw [Int.pow_zero]; rfl

theorem pw_even (a : Int) (n : Nat) (h : n % 2 = 0) : pw a n = (pw a (n / 2) * pw a (n / 2)) % 2147483647 := by
  unfold pw
  rw [← Int.mul_emod, ← Int.pow_add]
  have : n / 2 + n / 2 = n := by omega
  rw [this]

theorem pw_odd (a : Int) (n : Nat) (h : n % 2 = 1) : pw a n = (((pw a (n / 2) * pw a (n / 2)) % 2147483647) * a) % 2147483647 := by
  unfold pw
  rw [← Int.mul_emod, ← Int.pow_add, mul_l, ← Int.pow_succ]
  have : (n / 2 + n / 2).succ = n := by omega
  rw [this]

/-- what is left to be reckoned by squaring: p times a to the power n -/
def rest (p a : Int) (n : Nat) : Int := (p * a ^ n) % 2147483647

theorem rest_start (a : Int) (n : Nat) : rest 1 a n = pw a n := by
  unfold rest pw; rw [Int.one_mul]

theorem rest_end (p a : Int) (h0 : 0 ≤ p) (h1 : p < 2147483647) : rest p a 0 = p := by
  unfold rest; rw [Int.pow_zero, Int.mul_one]; omega

theorem rest_even (p a : Int) (n : Nat) (h : n % 2 = 0) : rest p (a * a % 2147483647) (n / 2) = rest p a n := by
  unfold rest
  have e : n = n / 2 + n / 2 := by omega
  have : a ^ n = (a * a) ^ (n / 2) := by
    rw [Int.mul_pow, ← Int.pow_add, ← e]
  rw [this, Int.mul_emod, pow_l, ← Int.mul_emod]

theorem rest_odd (p a : Int) (n : Nat) (h : n % 2 = 1) : rest (p * a % 2147483647) (a * a % 2147483647) (n / 2) = rest p a n := by
  unfold rest
  have e : n = (n / 2 + n / 2).succ := by omega
  have : a ^ n = (a * a) ^ (n / 2) * a := by
    rw [Int.mul_pow, ← Int.pow_add, ← Int.pow_succ, ← e]
  rw [this, mul_l, Int.mul_emod, pow_l, ← Int.mul_emod, Int.mul_assoc, Int.mul_comm a]

/-- Go's remainder and the greatest common divisor -/
theorem gcd_tmod (a b : Int) : Int.gcd b (a.tmod b) = Int.gcd a b := by
  rw [Int.gcd_comm a b]
  unfold Int.gcd
  rw [Int.natAbs_tmod, Nat.gcd_comm, ← Nat.gcd_rec]

theorem gcd_emod (a b : Int) (h : 0 ≤ a) : Int.gcd b (a % b) = Int.gcd a b := by
  rw [← Int.tmod_eq_emod_of_nonneg h, gcd_tmod]

theorem gcd_end (a : Int) (h : 0 ≤ a) : a = (Int.gcd a 0 : Int) := by
  rw [Int.gcd_zero_right]; omega

theorem tmod_lt (a b : Int) (h : b ≠ 0) : (a.tmod b).natAbs < b.natAbs := by
  rw [Int.natAbs_tmod]; exact Nat.mod_lt _ (by omega)

theorem gcd_abs (n d : Int) : Int.gcd (-n) d = Int.gcd d n := by
  rw [Int.neg_gcd, Int.gcd_comm]

end Num
end Go.Proofs.Ytejfodkobfdelaa
