/- ViewOk, the model's side; Place on both sides. -/
import Derived.Test.YtejfodkobfdelaaVn
namespace Go.Proofs.Ytejfodkobfdelaa
namespace Vo
open Go.ChangeShapes Go.WideShapes Go.ChangeAt Go.RowKit Go.Joins
open Vl Vp
set_option linter.unusedVariables false

set_option maxHeartbeats 2000000 in
theorem specViewOk (B : Nat) (a b : Option Addr) (r s cap dap : Nat) (D S : Nat → Int) (o n : Int) (w : World) (hB : B ≤ w.heap.size) (h : Ints B w a r D) (h' : Ints B w b s S) (hr : (r : Int) ≤ 1048576) (hs : (s : Int) ≤ 1048576) :
    Calls Try.prog 23 #[.agg #[.slice a r cap, .slice b s dap, .int .i64 o, .int .i64 n]] w fun e w' => e = .returned (.bool (vok r s D S o n)) ∧ Below w.heap.size w w' := by
  have bl : Below w.heap.size w (w.alloc (.cells #[.slice a r cap, .slice b s dap, .int .i64 o, .int .i64 n] 26)) := (Below.refl _ _).alloc (Nat.le_refl _) _
  have H0 := hide h
  have H0' := hide h'
  have H := hide (h.below (bl.mono hB))
  have H' := hide (h'.below (bl.mono hB))
  clear h h'
  have BL := hide bl
  clear bl
  by_cases hd0 : dok r D = false
  · have hd' := hd0
    have e := hide (vok_no (r := r) (s := s) (D := D) (S := S) (o := o) (n := n) (fun v => by have := v.1; rw [hd'] at this; exact absurd this (by decide)))
    clear hd0
    go_enter Try.func23, Try.ntmps23
    go_wp2_with fail
    refine (Vs.specDimsOk B a r cap D _ H.out hr).mono ?_; rintro e1 w1 ⟨rfl, rfl⟩
    rw [hd']
    go_wp2_with fail
    go_ret
    exact ⟨ret_bool e.out.symm, BL.out⟩
  have hd : dok r D = true := by simpa using hd0
  clear hd0
  have HD := hide hd
  by_cases hsr : s ≠ r
  · have hsr' : ((s : Int) != (r : Int)) = true := by rw [bne_iff_ne]; omega
    have e := hide (vok_no (r := r) (s := s) (D := D) (S := S) (o := o) (n := n) (fun v => hsr v.2.1))
    clear hsr
    go_enter Try.func23, Try.ntmps23
    go_wp2_with fail
    refine (Vs.specDimsOk B a r cap D _ H.out hr).mono ?_; rintro e1 w1 ⟨rfl, rfl⟩
    rw [hd]
    clear hd
    go_wp2_with fail
    go_ret
    exact ⟨ret_bool e.out.symm, BL.out⟩
  obtain rfl : s = r := by omega
  clear hsr
  by_cases hn1 : n < 1
  · have e := hide (vok_no (r := s) (s := s) (D := D) (S := S) (o := o) (n := n) (fun v => by have := v.2.2.1; omega))
    go_enter Try.func23, Try.ntmps23
    go_wp2_with fail
    refine (Vs.specDimsOk B a s cap D _ H.out hr).mono ?_; rintro e1 w1 ⟨rfl, rfl⟩
    rw [hd]
    clear hd
    go_wp2_with fail
    go_ret
    exact ⟨ret_bool e.out.symm, BL.out⟩
  have hn1' : decide (n < 1) = false := by rw [decide_eq_false_iff_not]; exact hn1
  by_cases hn2 : 4096 < n
  · have e := hide (vok_no (r := s) (s := s) (D := D) (S := S) (o := o) (n := n) (fun v => by have := v.2.2.2.1; omega))
    clear hn1
    go_enter Try.func23, Try.ntmps23
    go_wp2_with fail
    refine (Vs.specDimsOk B a s cap D _ H.out hr).mono ?_; rintro e1 w1 ⟨rfl, rfl⟩
    rw [hd]
    clear hd
    go_wp2_with fail
    go_ret
    exact ⟨ret_bool e.out.symm, BL.out⟩
  have hn2' : decide (4096 < n) = false := by rw [decide_eq_false_iff_not]; exact hn2
  by_cases ho1 : o < 0
  · have e := hide (vok_no (r := s) (s := s) (D := D) (S := S) (o := o) (n := n) (fun v => by have := v.2.2.2.2.1; omega))
    clear hn1 hn2
    go_enter Try.func23, Try.ntmps23
    go_wp2_with fail
    refine (Vs.specDimsOk B a s cap D _ H.out hr).mono ?_; rintro e1 w1 ⟨rfl, rfl⟩
    rw [hd]
    clear hd
    go_wp2_with fail
    go_ret
    exact ⟨ret_bool e.out.symm, BL.out⟩
  have ho1' : decide (o < 0) = false := by rw [decide_eq_false_iff_not]; exact ho1
  by_cases ho2 : n ≤ o
  · have e := hide (vok_no (r := s) (s := s) (D := D) (S := S) (o := o) (n := n) (fun v => by have := v.2.2.2.2.2.1; omega))
    clear hn1 hn2 ho1
    go_enter Try.func23, Try.ntmps23
    go_wp2_with fail
    refine (Vs.specDimsOk B a s cap D _ H.out hr).mono ?_; rintro e1 w1 ⟨rfl, rfl⟩
    rw [hd]
    clear hd
    go_wp2_with fail
    go_ret
    exact ⟨ret_bool e.out.symm, BL.out⟩
  have ho2' : decide (n ≤ o) = false := by rw [decide_eq_false_iff_not]; exact ho2
  have n1 : 1 ≤ n := by omega
  have n2 : n ≤ 4096 := by omega
  have o1 : 0 ≤ o := by omega
  have o2 : o < n := by omega
  have r6 : (s : Int) ≤ 6 := by have := (dok_iff.1 hd).1; omega
  have nv := box_new w (.slice a s cap) (.slice b s dap) (.int .i64 o) (.int .i64 n) 26
  have NV := hide nv
  clear hn1 hn2 ho1 ho2
  obtain ⟨N, hN⟩ : ∃ N : Nat, (N : Int) = szR D s := ⟨(szR D s).toNat, by have := (szR_rng D s).1; omega⟩
  have n4 : (N : Int) ≤ 4096 := by have := (szR_rng D s).2; omega
  have HN := hide hN
  clear hN
  go_enter Try.func23, Try.ntmps23
  go_wp2_with fail
  refine (Vs.specDimsOk B a s cap D _ H.out hr).mono ?_; rintro e1 w1 ⟨rfl, rfl⟩
  rw [hd]
  clear hd
  go_wp2_with fail
  go_loop [3] (fun i => ∃ k : Nat, k ≤ s ∧ i = .int .i64 k ∧ (∀ j, j < k → -4096 ≤ S j ∧ S j ≤ 4096)) (fun i => s - (intOf i).toNat)
  case atStart => exact ⟨0, Nat.zero_le _, rfl, fun _ h => by omega⟩
  case round =>
    obtain ⟨k, hk, rfl, hst⟩ := hrel
    have HT := hide hst
    clear hst
    by_cases hlt : k < s
    · rcases H'.out with h0 | ⟨bb', offb, rfl, hbB', hc'⟩
      · omega
      have c2 := (hc' k hlt).1
      clear hc'
      have kI : (k : Int) < s := by omega
      by_cases q1 : S k < -4096
      · have e := hide (vok_no (r := s) (s := s) (D := D) (S := S) (o := o) (n := n) (fun v => by have := (v.2.2.2.2.2.2.1 k hlt).1; omega))
        go_wp2_with fail
        go_ret
        exact ⟨ret_bool e.out.symm, BL.out⟩
      · have q1' : decide (S k < -4096) = false := by rw [decide_eq_false_iff_not]; exact q1
        by_cases q2 : 4096 < S k
        · have e := hide (vok_no (r := s) (s := s) (D := D) (S := S) (o := o) (n := n) (fun v => by have := (v.2.2.2.2.2.2.1 k hlt).2; omega))
          clear q1
          go_wp2_with fail
          go_ret
          exact ⟨ret_bool e.out.symm, BL.out⟩
        · have q2' : decide (4096 < S k) = false := by rw [decide_eq_false_iff_not]; exact q2
          have s1 : -4096 ≤ S k := by omega
          have s2 : S k ≤ 4096 := by omega
          clear q1 q2
          go_wp2_with fail
          go_round
          case rel =>
            refine ⟨k + 1, by omega, by go_num, fun j hj => ?_⟩
            by_cases e : j = k
            · rw [e]; exact ⟨s1, s2⟩
            · exact HT.out j (by omega)
          case measure => simp [intOf]; omega
    · obtain rfl : k = s := by omega
      have bl2 : Below (w.heap.size + 1) (w.alloc (.cells #[.slice a k cap, .slice b k dap, .int .i64 o, .int .i64 n] 26)) (w.alloc (.cells #[.slice a k cap, .slice b k dap, .int .i64 o, .int .i64 n] 26)) := Below.refl _ _
      go_wp2_with fail
      refine (l3All B a b k cap dap N D S o n _ (by simp; omega) H.out H'.out HD.out HT.out o1 (by omega) HN.out).mono ?_
      rintro e1 w1 ⟨g, c, rfl, hg1, hg2, hrw, b1⟩
      have nv1 := NV.out.below b1 (by simp)
      have BB := hide (BL.out.trans (b1.mono (by simp)))
      have HR := hide hrw
      have HX := hide nv1
      obtain ⟨x0, x1, x2, x3⟩ := nv1
      clear b1 hrw nv
      go_wp2_with fail
      go_loopw [5] (fun i wx => ∃ m : Nat, m ≤ N ∧ i = .int .i64 m ∧ (∀ j : Nat, j < m → 0 ≤ o + rel D S k j ∧ o + rel D S k j < n) ∧ ∃ q, wx = w1.drewN q) (fun i _ => N - (intOf i).toNat)
      case atStart => exact ⟨0, Nat.zero_le _, rfl, fun _ h => by omega, 0, rfl⟩
      case round =>
        obtain ⟨m, hm, rfl, hall, q, rfl⟩ := hrel
        have HAll := hide hall
        clear hall
        by_cases hlt2 : m < N
        · obtain ⟨c1, _, _⟩ := HR.out m hlt2
          have mI : (m : Int) < N := by omega
          by_cases q1 : o + rel D S k m < 0
          · have q1' : decide (o + rel D S k m < 0) = true := by rw [decide_eq_true_iff]; exact q1
            have e := hide (vok_no (r := k) (s := k) (D := D) (S := S) (o := o) (n := n) (fun v => by have := (v.place m).1; omega))
            clear q1
            go_wp2_with fail
            go_quiet (fail)
            go_wp2_with fail
            go_ret
            exact ⟨ret_bool e.out.symm, below_drewN (below_drewN BB.out _) _⟩
          · have q1' : decide (o + rel D S k m < 0) = false := by rw [decide_eq_false_iff_not]; exact q1
            by_cases q2 : n ≤ o + rel D S k m
            · have q2' : decide (n ≤ o + rel D S k m) = true := by rw [decide_eq_true_iff]; exact q2
              have e := hide (vok_no (r := k) (s := k) (D := D) (S := S) (o := o) (n := n) (fun v => by have := (v.place m).2; omega))
              clear q1 q2
              go_wp2_with fail
              go_quiet (fail)
              go_wp2_with fail
              go_ret
              exact ⟨ret_bool e.out.symm, below_drewN (below_drewN BB.out _) _⟩
            · have q2' : decide (n ≤ o + rel D S k m) = false := by rw [decide_eq_false_iff_not]; exact q2
              have hq := hide (show 0 ≤ o + rel D S k m ∧ o + rel D S k m < n by omega)
              clear q1 q2
              go_wp2_with fail
              go_quiet (fail)
              go_wp2_with fail
              go_roundw
              case rel =>
                refine ⟨m + 1, by omega, by go_num, fun j hj => ?_, _, rfl⟩
                by_cases e : j = m
                · rw [e]; exact hq.out
                · exact HAll.out j (by omega)
              case measure => simp [intOf]; omega
        · obtain rfl : m = N := by omega
          have e := hide (show vok k k D S o n = true from vok_iff.2 (VOk.of HD.out n1 n2 o1 o2 HT.out (fun j j0 j1 => by
            have := HAll.out j.toNat (by have := HN.out; omega)
            rwa [Int.toNat_of_nonneg j0] at this)))
          go_wp2_with fail
          go_ret
          exact ⟨ret_bool e.out.symm, below_drewN BB.out _⟩
end Vo
end Go.Proofs.Ytejfodkobfdelaa
