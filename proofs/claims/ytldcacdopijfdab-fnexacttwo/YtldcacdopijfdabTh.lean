/- The model's l3Order, l4Get, l4With, l4Axis, l4Line. -/
import Derived.Test.YtldcacdopijfdabTf
import Derived.Lib.QuietBelow
namespace Go.Proofs.Ytldcacdopijfdab
namespace Vo
open Go.ChangeShapes Go.WideShapes Go.ChangeAt Go.RowKit Go.Joins Go.Sort
open Vl Vp Vr
set_option linter.unusedVariables false
set_option linter.unusedSimpArgs false

theorem od_le {D I : Nat → Int} {r : Nat} (h : dok r D = true) (hi : ∀ j, j < r → 0 ≤ I j ∧ I j < D j) {m : Nat} (hm : m ≤ r) : 0 ≤ od D I m ∧ od D I m < 4096 := by
  have q := od_rng D I m (fun j hj => hi j (by omega))
  have := (dok_iff.1 h).2
  have h1 : szR D m ≠ 0 := fun e => by have := szR_zero e hm; omega
  rcases szR_cases D m with e | ⟨_, e, _, e4⟩
  · exact absurd e h1
  · omega
theorem l3Order (B : Nat) (a c : Option Addr) (r cap q cap' : Nat) (D I : Nat → Int) (w : World) (hB : B ≤ w.heap.size) (h : Ints B w a r D) (h' : Ints B w c q I) (hq : r ≤ q) (hd : dok r D = true) (hi : ∀ j, j < r → 0 ≤ I j ∧ I j < D j) :
    Calls Try.prog 56 #[.slice a r cap, .slice c q cap'] w fun e w' => e = .returned (.int .i64 (od D I r)) ∧ Below w.heap.size w w' := by
  have r6 : r ≤ 6 := (dok_iff.1 hd).1
  have H := hide h
  have H' := hide h'
  have HD := hide hd
  have HI := hide hi
  clear h h' hd hi
  go_enter Try.func56, Try.ntmps56
  go_wp2_with fail
  go_loopw [5, 6] (fun v i wx => ∃ m : Nat, m ≤ r ∧ i = .int .i64 m ∧ v = .int .i64 (od D I m) ∧ Below w.heap.size w wx) (fun _ i _ => r - (intOf i).toNat)
  case atStart => exact ⟨0, Nat.zero_le _, rfl, rfl, Below.refl _ _⟩
  case round =>
    obtain ⟨m, hm, rfl, rfl, hb⟩ := hrel
    have HB := hide hb
    clear hb
    by_cases hlt : m < r
    · have mI : (m : Int) < r := by omega
      have mQ : (m : Int) < q := by omega
      rcases H.out.below (HB.out.mono hB) with h0 | ⟨b1, o1, rfl, hb1, hc1⟩
      · omega
      rcases H'.out.below (HB.out.mono hB) with h0 | ⟨b2, o2, rfl, hb2, hc2⟩
      · omega
      have c1 := (hc1 m hlt).1
      have c2 := (hc2 m (by omega)).1
      have i1 := HI.out m hlt
      have o1' := od_le HD.out HI.out (m := m) (by omega)
      have o2' := od_le HD.out HI.out (m := m + 1) (by omega)
      have dl := dok_len HD.out hlt
      have es : od D I (m + 1) = od D I m * D m + I m := rfl
      obtain ⟨v, hv⟩ : ∃ v, od D I m = v := ⟨_, rfl⟩
      rw [hv] at es o1' ⊢
      obtain ⟨p, hp⟩ : ∃ p, v * D m = p := ⟨_, rfl⟩
      rw [hp] at es
      have p0 : 0 ≤ p := by rw [← hp]; exact Int.mul_nonneg (by omega) (by omega)
      have p1 : p ≤ 4096 := by omega
      have ES := hide es
      clear hc1 hc2 es
      go_wp2_with fail
      go_region
      all_goals (go_wp2_with fail)
      all_goals go_roundw
      all_goals first
        | exact ⟨m + 1, by omega, by go_num, by rw [ES.out], HB.out.drew⟩
        | (simp [intOf]; omega)
    · obtain rfl : m = r := by omega
      go_wp2_with fail
      go_ret
      exact ⟨rfl, HB.out⟩
set_option maxHeartbeats 1000000 in
theorem l4Get (B : Nat) (a b c : Option Addr) (r s cap dap q cap' : Nat) (D S I : Nat → Int) (w : World) (hB : B ≤ w.heap.size) (h : Ints B w a r D) (h1 : Ints B w b s S) (h' : Ints B w c q I) (hq : r ≤ q) (ht : tok r s D S = true) (hi : ∀ j, j < r → 0 ≤ I j ∧ I j < D j) :
    Calls Try.prog 37 #[.agg #[.slice a r cap, .slice b s dap], .slice c q cap'] w fun e w' => e = .returned (.int .i64 (S (od D I r).toNat)) ∧ Below w.heap.size w w' := by
  obtain ⟨td, ts, tw⟩ := tok_split ht
  have od1 := od_rng D I r hi
  have os : od D I r < s := by
    have := (dok_iff.1 td).2
    rcases szR_cases D r with e | ⟨_, e, _, _⟩
    · omega
    · omega
  have s4 : (s : Int) ≤ 4096 := by rw [← ts]; exact (szR_rng D r).2
  obtain ⟨W0, hW0⟩ : ∃ W0, w.alloc (.cells #[.slice a r cap, .slice b s dap] 35) = W0 := ⟨_, rfl⟩
  have bl : Below w.heap.size w W0 := by rw [← hW0]; exact (Below.refl _ _).alloc (Nat.le_refl _) _
  have n0 : Bx W0 w.heap.size (.slice a r cap) (.slice b s dap) := by rw [← hW0]; exact bx_new w _ _ _
  have OC := hide (l3Order B a c r cap q cap' D I W0 (Nat.le_trans hB bl.size) (h.below (bl.mono hB)) (h'.below (bl.mono hB)) hq td hi)
  obtain ⟨p, hp⟩ : ∃ p : Nat, od D I r = p := ⟨(od D I r).toNat, by omega⟩
  rw [hp] at OC ⊢
  rw [Int.toNat_natCast]
  have pI : (p : Int) < s := by omega
  have k0 := cell_regrown n0.1
  have k1 := cell_regrown n0.2
  rcases h1.below (bl.mono hB) with h0 | ⟨b1, o1, rfl, hb1, hc1⟩
  · omega
  have k2 := cell_regrown (hc1 p (by omega)).1
  have CF := hide (fun (q1 : Nat) (os : Array Obj) => show Calls Try.prog 56 #[.slice a r cap, .slice c q cap'] (Sort.grow (redrawn W0 q1) os) (fun e w'' => e = .returned (.int .i64 (p : Int)) ∧ ∃ p : Regrown, w'' = Sort.grow (redrawn W0 p.d) p.os) from Calls.regrown_of ((by
    have hbr : Below W0.heap.size W0 (Sort.grow (redrawn W0 q1) os) := below_regrown W0 q1 os
    have b2 : Below w.heap.size w (Sort.grow (redrawn W0 q1) os) := bl.trans (hbr.mono bl.size)
    have := l3Order B a c r cap q cap' D I (Sort.grow (redrawn W0 q1) os) (Nat.le_trans hB b2.size) (h.below (b2.mono hB)) (h'.below (b2.mono hB)) hq td hi
    rw [hp] at this
    exact this)))
  have BL := hide bl
  clear h h1 h' hi ht td ts tw od1 os hp hc1 n0 OC
  go_enter Try.func37, Try.ntmps37
  go_wp2_with fail
  clear hW0
  refine wp_region_quiet_below (by kernel_rfl) (by kernel_rfl) ?_
  repeat (quiet_step (exact CF.out _ _))
  refine wpQuiet_nil ?_
  intro _ hw'
  obtain ⟨⟨dq, osq⟩, hw''⟩ := hw'
  subst hw''
  go_wp2_with fail
  go_ret
  exact ⟨rfl, BL.out.trans ((below_regrown W0 dq osq).mono BL.out.size)⟩
theorem l4With (B : Nat) (a : Option Addr) (r cap k : Nat) (D : Nat → Int) (n : Int) (w : World) (hB : B ≤ w.heap.size) (h : Ints B w a r D) (hr : (r : Int) ≤ 1048576) (hk : k < r) (hn : bd n) :
    Calls Try.prog 31 #[.slice a r cap, .int .i64 k, .int .i64 n] w fun e w' => ∃ g c, e = .returned (.slice (some ⟨g, 0, none⟩) r c) ∧ Rw w' g r (up1 D k n) ∧ w.heap.size ≤ g ∧ g < w'.heap.size ∧ Below w.heap.size w w' := by
  have h0 := h
  rcases h with h | ⟨b1, o1, rfl, hb1, hc1⟩
  · omega
  have H := hide h0
  have kI : (k : Int) < r := by omega
  clear h0 hc1
  go_enter Try.func31, Try.ntmps31
  go_wp2_with fail
  refine (l3Ints B _ r cap D _ H.out hB hr).mono ?_
  rintro e w1 ⟨v, rfl, rv, b1⟩
  obtain ⟨va, vc, rfl, ov⟩ := rv.own
  rcases ov with q | ⟨g, rfl, hg, rw1⟩
  · omega
  have lt := rw1.lt (by omega)
  have B1 := hide b1
  have R1 := hide rw1
  have HN := hide hn
  obtain ⟨c1, f1, _⟩ := rw1 k hk
  clear rv b1 rw1 hn
  go_wp2_with fail
  go_ret
  exact ⟨g, vc, rfl, R1.out.set k n HN.out, hg, by simpa [World.setCell] using lt, B1.out.setCell (p := ⟨g, k, none⟩) hg _⟩
theorem l4Axis (B : Nat) (a b : Option Addr) (r s cap dap : Nat) (D S : Nat → Int) (x : Int) (w : World) (hB : B ≤ w.heap.size) (h : Ints B w a r D) (h' : Ints B w b s S) (hr : (r : Int) ≤ 1048576) (hs : (s : Int) ≤ 1048576) :
    Calls Try.prog 30 #[.agg #[.slice a r cap, .slice b s dap], .int .i64 x] w fun e w' => e = .returned (.bool (decide (tok r s D S = true ∧ 0 ≤ x ∧ x < r))) ∧ Below w.heap.size w w' := by
  have BL := hide (show Below w.heap.size w (w.alloc (.cells #[.slice a r cap, .slice b s dap] 35)) from (Below.refl _ _).alloc (Nat.le_refl _) _)
  have NV := hide (bx_new w (.slice a r cap) (.slice b s dap) 35)
  have H := hide (h.below (BL.out.mono hB))
  have H' := hide (h'.below (BL.out.mono hB))
  clear h h'
  go_enter Try.func30, Try.ntmps30
  go_wp2_with fail
  refine (specTensorOk B a b r s cap dap D S _ (by simp; omega) H.out H'.out hr hs).mono ?_
  rintro e w1 ⟨rfl, b1⟩
  have B1 := hide (BL.out.trans (b1.mono (by simp)))
  have N1 := hide (NV.out.below b1 (by simp))
  obtain ⟨x0, x1⟩ := N1.out
  clear b1
  cases ht : tok r s D S with
  | false =>
    have ez := hide (decide_eq_false (show ¬ (tok r s D S = true ∧ 0 ≤ x ∧ x < (r : Int)) from fun q => by rw [ht] at q; exact absurd q.1 (by decide)))
    clear ht
    go_wp2_with fail
    go_ret
    exact ⟨ret_bool ez.out.symm, B1.out⟩
  | true =>
    by_cases h0 : 0 ≤ x
    · have h0' : decide (0 ≤ x) = true := decide_eq_true h0
      by_cases h1 : x < r
      · have h1' : decide (x < (r : Int)) = true := decide_eq_true h1
        have ez := hide (decide_eq_true (show (tok r s D S = true ∧ 0 ≤ x ∧ x < (r : Int)) from ⟨ht, h0, h1⟩))
        clear ht h0 h1
        go_wp2_with fail
        go_ret
        exact ⟨ret_bool ez.out.symm, B1.out⟩
      · have h1' : decide (x < (r : Int)) = false := decide_eq_false h1
        have ez := hide (decide_eq_false (show ¬ (tok r s D S = true ∧ 0 ≤ x ∧ x < (r : Int)) from fun q => h1 q.2.2))
        clear ht h0 h1
        go_wp2_with fail
        go_ret
        exact ⟨ret_bool ez.out.symm, B1.out⟩
    · have h0' : decide (0 ≤ x) = false := decide_eq_false h0
      have ez := hide (decide_eq_false (show ¬ (tok r s D S = true ∧ 0 ≤ x ∧ x < (r : Int)) from fun q => h0 q.2.1))
      clear ht h0
      go_wp2_with fail
      go_ret
      exact ⟨ret_bool ez.out.symm, B1.out⟩
end Vo
end Go.Proofs.Ytldcacdopijfdab
