/- The model's l3Order, l4Get, l4With, l4Axis, l4Line. -/
import Derived.Test.YtgcialbchmbgkaaTf
import Derived.Lib.QuietBelow
namespace Go.Proofs.Ytgcialbchmbgkaa
namespace Vo
open Go.ChangeShapes Go.WideShapes Go.ChangeAt Go.RowKit Go.Joins Go.Sort
open Vl Vp Vr
set_option linter.unusedVariables false
set_option linter.unusedSimpArgs false

theorem od_le {D I : Nat → Int} {r : Nat} (h : dok r D = true) (hi : ∀ j, j < r → 0 ≤ I j ∧ I j < D j) {m : Nat} (hm : m ≤ r) : 0 ≤ od D I m ∧ od D I m < 4096 := by
  have q := od_rng D I m (fun j hj => hi j (by omega))
  have := (dok_iff.1 h).2
  have h1 : szR D m ≠ 0 := fun e => by have := szR_zero e hm; omega
  rcases szR_cases D m with e | ⟨_, e, _, e4⟩
  · exact absurd e h1
  · omega
theorem l3Order (B : Nat) (a c : Option Addr) (r cap q cap' : Nat) (D I : Nat → Int) (w : World) (hB : B ≤ w.heap.size) (h : Ints B w a r D) (h' : Ints B w c q I) (hq : r ≤ q) (hd : dok r D = true) (hi : ∀ j, j < r → 0 ≤ I j ∧ I j < D j) :
    Calls Try.prog 66 #[.slice a r cap, .slice c q cap'] w fun e w' => e = .returned (.int .i64 (od D I r)) ∧ Below w.heap.size w w' := by
  have r6 : r ≤ 6 := (dok_iff.1 hd).1
  have H := hide h
  have H' := hide h'
  have HD := hide hd
  have HI := hide hi
  clear h h' hd hi
  go_enter Try.func66, Try.ntmps66
  go_wp2_with fail
  go_loopw [5, 6] (fun v i wx => ∃ m : Nat, m ≤ r ∧ i = .int .i64 m ∧ v = .int .i64 (od D I m) ∧ Below w.heap.size w wx) (fun _ i _ => r - (intOf i).toNat)
  case atStart => exact ⟨0, Nat.zero_le _, rfl, rfl, Below.refl _ _⟩
  case round =>
    obtain ⟨m, hm, rfl, rfl, hb⟩ := hrel
    have HB := hide hb
    clear hb
    by_cases hlt : m < r
    · have mI : (m : Int) < r := by omega
      have mQ : (m : Int) < q := by omega
      rcases H.out.below (HB.out.mono hB) with h0 | ⟨b1, o1, rfl, hb1, hc1⟩
      · omega
      rcases H'.out.below (HB.out.mono hB) with h0 | ⟨b2, o2, rfl, hb2, hc2⟩
      · omega
      have c1 := (hc1 m hlt).1
      have c2 := (hc2 m (by omega)).1
      have i1 := HI.out m hlt
      have o1' := od_le HD.out HI.out (m := m) (by omega)
      have o2' := od_le HD.out HI.out (m := m + 1) (by omega)
      have dl := dok_len HD.out hlt
      have es : od D I (m + 1) = od D I m * D m + I m := rfl
      obtain ⟨v, hv⟩ : ∃ v, od D I m = v := ⟨_, rfl⟩
      rw [hv] at es o1' ⊢
      obtain ⟨p, hp⟩ : ∃ p, v * D m = p := ⟨_, rfl⟩
      rw [hp] at es
      have p0 : 0 ≤ p := by rw [← hp]; exact Int.mul_nonneg (by omega) (by omega)
      have p1 : p ≤ 4096 := by omega
      have ES := hide es
      clear hc1 hc2 es
      go_wp2_with fail
      go_region
      all_goals (go_wp2_with fail)
      all_goals go_roundw
      all_goals first
        | exact ⟨m + 1, by omega, by go_num, by rw [ES.out], HB.out.drew⟩
        | (simp [intOf]; omega)
    · obtain rfl : m = r := by omega
      go_wp2_with fail
      go_ret
      exact ⟨rfl, HB.out⟩
set_option maxHeartbeats 1000000 in
theorem l4Get (B : Nat) (a b c : Option Addr) (r s cap dap q cap' : Nat) (D S I : Nat → Int) (w : World) (hB : B ≤ w.heap.size) (h : Ints B w a r D) (h1 : Ints B w b s S) (h' : Ints B w c q I) (hq : r ≤ q) (ht : tok r s D S = true) (hi : ∀ j, j < r → 0 ≤ I j ∧ I j < D j) :
    Calls Try.prog 37 #[.agg #[.slice a r cap, .slice b s dap], .slice c q cap'] w fun e w' => e = .returned (.int .i64 (S (od D I r).toNat)) ∧ Below w.heap.size w w' := by
  obtain ⟨td, ts, tw⟩ := tok_split ht
  have od1 := od_rng D I r hi
  have os : od D I r < s := by
    have := (dok_iff.1 td).2
    rcases szR_cases D r with e | ⟨_, e, _, _⟩
    · omega
    · omega
  have s4 : (s : Int) ≤ 4096 := by rw [← ts]; exact (szR_rng D r).2
  obtain ⟨W0, hW0⟩ : ∃ W0, w.alloc (.cells #[.slice a r cap, .slice b s dap] 26) = W0 := ⟨_, rfl⟩
  have bl : Below w.heap.size w W0 := by rw [← hW0]; exact (Below.refl _ _).alloc (Nat.le_refl _) _
  have n0 : Bx W0 w.heap.size (.slice a r cap) (.slice b s dap) := by rw [← hW0]; exact bx_new w _ _ _
  have OC := hide (l3Order B a c r cap q cap' D I W0 (Nat.le_trans hB bl.size) (h.below (bl.mono hB)) (h'.below (bl.mono hB)) hq td hi)
  obtain ⟨p, hp⟩ : ∃ p : Nat, od D I r = p := ⟨(od D I r).toNat, by omega⟩
  rw [hp] at OC ⊢
  rw [Int.toNat_natCast]
  have pI : (p : Int) < s := by omega
  have k0 := cell_regrown n0.1
  have k1 := cell_regrown n0.2
  rcases h1.below (bl.mono hB) with h0 | ⟨b1, o1, rfl, hb1, hc1⟩
  · omega
  have k2 := cell_regrown (hc1 p (by omega)).1
  have CF := hide (fun (q1 : Nat) (os : Array Obj) => show Calls Try.prog 66 #[.slice a r cap, .slice c q cap'] (Sort.grow (redrawn W0 q1) os) (fun e w'' => e = .returned (.int .i64 (p : Int)) ∧ ∃ p : Regrown, w'' = Sort.grow (redrawn W0 p.d) p.os) from Calls.regrown_of ((by
    have hbr : Below W0.heap.size W0 (Sort.grow (redrawn W0 q1) os) := below_regrown W0 q1 os
    have b2 : Below w.heap.size w (Sort.grow (redrawn W0 q1) os) := bl.trans (hbr.mono bl.size)
    have := l3Order B a c r cap q cap' D I (Sort.grow (redrawn W0 q1) os) (Nat.le_trans hB b2.size) (h.below (b2.mono hB)) (h'.below (b2.mono hB)) hq td hi
    rw [hp] at this
    exact this)))
  have BL := hide bl
  clear h h1 h' hi ht td ts tw od1 os hp hc1 n0 OC
  go_enter Try.func37, Try.ntmps37
  go_wp2_with fail
  clear hW0
  refine wp_region_quiet_below (by kernel_rfl) (by kernel_rfl) ?_
  repeat (quiet_step (exact CF.out _ _))
  refine wpQuiet_nil ?_
  intro _ hw'
  obtain ⟨⟨dq, osq⟩, hw''⟩ := hw'
  subst hw''
  go_wp2_with fail
  go_ret
  exact ⟨rfl, BL.out.trans ((below_regrown W0 dq osq).mono BL.out.size)⟩
end Vo
end Go.Proofs.Ytgcialbchmbgkaa
