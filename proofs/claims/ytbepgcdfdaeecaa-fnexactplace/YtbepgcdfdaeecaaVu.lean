/- Place on both sides. -/
import Derived.Test.YtbepgcdfdaeecaaVt
namespace Go.Proofs.Ytbepgcdfdaeecaa
namespace Vo
open Go.ChangeShapes Go.WideShapes Go.ChangeAt Go.RowKit Go.Joins
open Vl Vp
set_option linter.unusedVariables false

def IOk (r : Nat) (D : Nat → Int) (q : Nat) (I : Nat → Int) : Prop := q = r ∧ ∀ j, j < r → 0 ≤ I j ∧ I j < D j
instance (r : Nat) (D : Nat → Int) (q : Nat) (I : Nat → Int) : Decidable (IOk r D q I) := by unfold IOk; infer_instance
def iok (r : Nat) (D : Nat → Int) (q : Nat) (I : Nat → Int) : Bool := decide (IOk r D q I)
theorem iok_iff {r : Nat} {D : Nat → Int} {q : Nat} {I : Nat → Int} : iok r D q I = true ↔ IOk r D q I := by unfold iok; simp
theorem iok_no {r : Nat} {D : Nat → Int} {q : Nat} {I : Nat → Int} (h : ¬ IOk r D q I) : iok r D q I = false := by unfold iok; simp [h]
def plc (r s : Nat) (D S : Nat → Int) (o n : Int) (q : Nat) (I : Nat → Int) : Int := if vok r s D S o n = true ∧ iok r D q I = true then o + sm I S q else -1

set_option maxHeartbeats 1000000 in
theorem l3IndexOk (B : Nat) (a b : Option Addr) (r q cap dap : Nat) (D I : Nat → Int) (w : World) (h : Ints B w a r D) (h' : Ints B w b q I) (hr : (r : Int) ≤ 1048576) (hs : (q : Int) ≤ 1048576) :
    Calls Try.prog 38 #[.slice a r cap, .slice b q dap] w fun e w' => e = .returned (.bool (iok r D q I)) ∧ Below w.heap.size w w' := by
  have H := hide h
  have H' := hide h'
  clear h h'
  by_cases hqr : q ≠ r
  · have hqr' : ((q : Int) != (r : Int)) = true := by rw [bne_iff_ne]; omega
    have e := hide (iok_no (r := r) (D := D) (q := q) (I := I) (fun v => hqr v.1))
    clear hqr
    go_enter Try.func38, Try.ntmps38
    go_wp2_with fail
    go_ret
    exact ⟨ret_bool e.out.symm, Below.refl _ _⟩
  obtain rfl : q = r := by omega
  clear hqr
  go_enter Try.func38, Try.ntmps38
  go_wp2_with fail
  go_loopw [5] (fun i wx => ∃ k : Nat, k ≤ q ∧ i = .int .i64 k ∧ (∀ j, j < k → 0 ≤ I j ∧ I j < D j) ∧ ∃ m, wx = w.drewN m) (fun i _ => q - (intOf i).toNat)
  case atStart => exact ⟨0, Nat.zero_le _, rfl, fun _ h => by omega, 0, rfl⟩
  case round =>
    obtain ⟨k, hk, rfl, hall, m, rfl⟩ := hrel
    have HAll := hide hall
    clear hall
    by_cases hlt : k < q
    · rcases H.out with h0 | ⟨ba, offa, rfl, hbB, hc⟩
      · omega
      rcases H'.out with h0 | ⟨bb, offb, rfl, hbB', hc'⟩
      · omega
      have c1 := (hc k hlt).1
      have c2 := (hc' k hlt).1
      have kI : (k : Int) < q := by omega
      clear hc hc'
      by_cases q1 : I k < 0
      · have q1' : decide (I k < 0) = true := by rw [decide_eq_true_iff]; exact q1
        have e := hide (iok_no (r := q) (D := D) (q := q) (I := I) (fun v => by have := (v.2 k hlt).1; omega))
        clear q1
        go_wp2_with fail
        go_quiet (fail)
        go_wp2_with fail
        go_ret
        exact ⟨ret_bool e.out.symm, below_drewN (below_drewN (Below.refl _ _) _) _⟩
      · have q1' : decide (I k < 0) = false := by rw [decide_eq_false_iff_not]; exact q1
        by_cases q2 : D k ≤ I k
        · have q2' : decide (D k ≤ I k) = true := by rw [decide_eq_true_iff]; exact q2
          have e := hide (iok_no (r := q) (D := D) (q := q) (I := I) (fun v => by have := (v.2 k hlt).2; omega))
          clear q1 q2
          go_wp2_with fail
          go_quiet (fail)
          go_wp2_with fail
          go_ret
          exact ⟨ret_bool e.out.symm, below_drewN (below_drewN (Below.refl _ _) _) _⟩
        · have q2' : decide (D k ≤ I k) = false := by rw [decide_eq_false_iff_not]; exact q2
          have hq := hide (show 0 ≤ I k ∧ I k < D k by omega)
          clear q1 q2
          go_wp2_with fail
          go_quiet (fail)
          go_wp2_with fail
          go_roundw
          case rel =>
            refine ⟨k + 1, by omega, by go_num, fun j hj => ?_, _, rfl⟩
            by_cases e : j = k
            · rw [e]; exact hq.out
            · exact HAll.out j (by omega)
          case measure => simp [intOf]; omega
    · obtain rfl : k = q := by omega
      have e := hide (show iok k D k I = true from iok_iff.2 ⟨rfl, HAll.out⟩)
      go_wp2_with fail
      go_ret
      exact ⟨ret_bool e.out.symm, below_drewN (Below.refl _ _) _⟩
set_option maxHeartbeats 1000000 in
theorem specPlace (B : Nat) (a b ia : Option Addr) (r s q cap dap ica : Nat) (D S I : Nat → Int) (o n : Int) (w : World) (hB : B ≤ w.heap.size) (h : Ints B w a r D) (h' : Ints B w b s S) (h2 : Ints B w ia q I) (hr : (r : Int) ≤ 1048576) (hs : (s : Int) ≤ 1048576) (hq : (q : Int) ≤ 1048576) :
    Calls Try.prog 25 #[.agg #[.slice a r cap, .slice b s dap, .int .i64 o, .int .i64 n], .slice ia q ica] w fun e w' => e = .returned (.int .i64 (plc r s D S o n q I)) ∧ Below w.heap.size w w' := by
  have bl : Below w.heap.size w (w.alloc (.cells #[.slice a r cap, .slice b s dap, .int .i64 o, .int .i64 n] 30)) := (Below.refl _ _).alloc (Nat.le_refl _) _
  have NV := hide (box_new w (.slice a r cap) (.slice b s dap) (.int .i64 o) (.int .i64 n) 30)
  have H := hide h
  have H' := hide h'
  have H2 := hide h2
  have BL := hide bl
  clear h h' h2 bl
  go_enter Try.func25, Try.ntmps25
  go_wp2_with fail
  refine (specViewOk B a b r s cap dap D S o n _ (by simp; omega) (H.out.below (BL.out.mono hB)) (H'.out.below (BL.out.mono hB)) hr hs).mono ?_
  rintro e w1 ⟨rfl, b1⟩
  have B1 := hide (BL.out.trans (b1.mono (by simp)))
  have z1 : w.heap.size < w1.heap.size := by have := b1.size; simp at this; omega
  have N1 := hide (NV.out.below b1 (by simp))
  obtain ⟨x0, x1, x2, x3⟩ := N1.out
  clear b1
  cases hv : vok r s D S o n with
  | false =>
    have e := hide (show plc r s D S o n q I = -1 by unfold plc; rw [if_neg]; rw [hv]; simp)
    clear hv
    go_wp2_with fail
    go_ret
    exact ⟨ret_int e.out.symm, B1.out⟩
  | true =>
    have HV := hide (vok_iff.1 hv)
    have HV2 := hide hv
    clear hv
    go_wp2_with fail
    refine (l3IndexOk B a ia r q cap ica D I _ (H.out.below (B1.out.mono hB)) (H2.out.below (B1.out.mono hB)) hr hq).mono ?_
    rintro e w2 ⟨rfl, b2⟩
    have B2 := hide (B1.out.trans (b2.mono B1.out.size))
    have N2 := hide (N1.out.below b2 z1)
    clear x0 x1 x2 x3
    obtain ⟨x0, x1, x2, x3⟩ := N2.out
    clear b2
    cases hi : iok r D q I with
    | false =>
      have e := hide (show plc r s D S o n q I = -1 by unfold plc; rw [if_neg]; rw [hi]; simp)
      clear hi
      go_wp2_with fail
      go_ret
      exact ⟨ret_int e.out.symm, B2.out⟩
    | true =>
      have e := hide (show plc r s D S o n q I = o + sm I S q by unfold plc; rw [if_pos ⟨HV2.out, hi⟩])
      have HI := hide (iok_iff.1 hi)
      clear hi
      go_wp2_with fail
      have hv := HV.out
      have hi := HI.out
      refine (l3Place B a b ia r s q cap dap ica D S I o n _ (Nat.le_trans hB B2.out.size) (H'.out.below (B2.out.mono hB)) (H2.out.below (B2.out.mono hB)) (by rw [hi.1, hv.2.1]; exact Nat.le_refl _) (by have := (dok_iff.1 hv.1).1; have := hi.1; omega)
        (fun j hj => by have := hi.1; have := hi.2 j (by omega); have := hv.len (j := j) (by omega); omega) (fun j hj => by have := hi.1; exact hv.2.2.2.2.2.2.1 j (by omega)) hv.2.2.2.2.1 (by have := hv.2.2.2.1; have := hv.2.2.2.2.2.1; omega)).mono ?_
      rintro e3 w3 ⟨rfl, b3⟩
      clear hv hi
      have B3 := hide (B2.out.trans (b3.mono B2.out.size))
      clear b3
      go_wp2_with fail
      go_ret
      exact ⟨ret_int e.out.symm, B3.out⟩
set_option maxHeartbeats 1000000 in
theorem place (B : Nat) (a b ia : Option Addr) (r s q cap dap ica : Nat) (D S I : Nat → Int) (o n : Int) (w : World) (hB : B ≤ w.heap.size) (h : Ints B w a r D) (h' : Ints B w b s S) (h2 : Ints B w ia q I) (hr : (r : Int) ≤ 1048576) (hs : (s : Int) ≤ 1048576) (hq : (q : Int) ≤ 1048576) :
    Calls Try.prog 26 #[.agg #[.slice a r cap, .slice b s dap, .int .i64 o, .int .i64 n], .slice ia q ica] w fun e w' => e = .returned (.int .i64 (plc r s D S o n q I)) ∧ Below w.heap.size w w' := by
  have bl : Below w.heap.size w (w.alloc (.cells #[.slice a r cap, .slice b s dap, .int .i64 o, .int .i64 n] 30)) := (Below.refl _ _).alloc (Nat.le_refl _) _
  have NV := hide (box_new w (.slice a r cap) (.slice b s dap) (.int .i64 o) (.int .i64 n) 30)
  have H := hide h
  have H' := hide h'
  have H2 := hide h2
  have BL := hide bl
  clear h h' h2 bl
  go_enter Try.func26, Try.ntmps26
  go_wp2_with fail
  refine (viewOk B a b r s cap dap D S o n _ (by simp; omega) (H.out.below (BL.out.mono hB)) (H'.out.below (BL.out.mono hB)) hr hs).mono ?_
  rintro e w1 ⟨rfl, b1⟩
  have B1 := hide (BL.out.trans (b1.mono (by simp)))
  have z1 : w.heap.size < w1.heap.size := by have := b1.size; simp at this; omega
  have N1 := hide (NV.out.below b1 (by simp))
  obtain ⟨x0, x1, x2, x3⟩ := N1.out
  clear b1
  cases hv : vok r s D S o n with
  | false =>
    have e := hide (show plc r s D S o n q I = -1 by unfold plc; rw [if_neg]; rw [hv]; simp)
    clear hv
    go_wp2_with fail
    go_ret
    exact ⟨ret_int e.out.symm, B1.out⟩
  | true =>
    have HV := hide (vok_iff.1 hv)
    have HV2 := hide hv
    clear hv
    by_cases hqr : q ≠ r
    · have hqr' : ((q : Int) != (r : Int)) = true := by rw [bne_iff_ne]; omega
      have e := hide (show plc r s D S o n q I = -1 by unfold plc; rw [if_neg]; rw [iok_no (fun v => hqr v.1)]; simp)
      clear hqr
      go_wp2_with fail
      go_ret
      exact ⟨ret_int e.out.symm, B1.out⟩
    obtain rfl : q = r := by omega
    clear hqr
    have hv := HV.out
    have r6 : (q : Int) ≤ 6 := by have := (dok_iff.1 hv.1).1; omega
    obtain rfl : s = q := hv.2.1
    have o1 : 0 ≤ o := hv.2.2.2.2.1
    have o2 : o ≤ 4096 := by have := hv.2.2.2.1; have := hv.2.2.2.2.2.1; omega
    have HS := hide hv.2.2.2.2.2.2.1
    have HD := hide (fun j (hj : j < s) => hv.len hj)
    have G := hide (H.out.below (B1.out.mono hB))
    have G' := hide (H'.out.below (B1.out.mono hB))
    have G2 := hide (H2.out.below (B1.out.mono hB))
    clear hv
    go_wp2_with fail
    go_loop [5, 23] (fun p i => ∃ k : Nat, k ≤ s ∧ p = .int .i64 (o + sm I S k) ∧ i = .int .i64 k ∧ (∀ j, j < k → 0 ≤ I j ∧ I j < D j)) (fun _ i => s - (intOf i).toNat)
    case atStart => exact ⟨0, Nat.zero_le _, by simp [sm], rfl, fun _ h => by omega⟩
    case round =>
      obtain ⟨k, hk, rfl, rfl, hall⟩ := hrel
      have HAll := hide hall
      clear hall
      obtain ⟨l1, l2⟩ := sm_abs (I := I) (S := S) k (fun j hj => by have := HAll.out j hj; have := HD.out j (by omega); omega) (fun j hj => HS.out j (by omega))
      by_cases hlt : k < s
      · rcases G.out with h0 | ⟨ba, offa, rfl, hbB, hc⟩
        · omega
        rcases G'.out with h0 | ⟨bb, offb, rfl, hbB', hc'⟩
        · omega
        rcases G2.out with h0 | ⟨bi, offi, rfl, hbi, hci⟩
        · omega
        have c1 := (hc k hlt).1
        have c2 := (hc' k hlt).1
        have c3 := (hci k hlt).1
        have kI : (k : Int) < s := by omega
        clear hc hc' hci
        by_cases q1 : I k < 0
        · have e := hide (show plc s s D S o n s I = -1 by unfold plc; rw [if_neg]; rw [iok_no (fun v => by have := (v.2 k hlt).1; omega)]; simp)
          go_wp2_with fail
          go_ret
          exact ⟨ret_int e.out.symm, B1.out⟩
        · have q1' : decide (I k < 0) = false := by rw [decide_eq_false_iff_not]; exact q1
          by_cases q2 : D k ≤ I k
          · have e := hide (show plc s s D S o n s I = -1 by unfold plc; rw [if_neg]; rw [iok_no (fun v => by have := (v.2 k hlt).2; omega)]; simp)
            clear q1
            go_wp2_with fail
            go_ret
            exact ⟨ret_int e.out.symm, B1.out⟩
          · have q2' : decide (D k ≤ I k) = false := by rw [decide_eq_false_iff_not]; exact q2
            have hq := hide (show 0 ≤ I k ∧ I k < D k by omega)
            obtain ⟨s1, s2⟩ := HS.out k hlt
            have rb := reach_bd (d := I k + 1) (by omega) (by have := (HD.out k hlt).2; omega) s1 s2
            rw [Int.add_sub_cancel] at rb
            obtain ⟨r1, r2⟩ := rb
            have e := hide (show sm I S (k + 1) = sm I S k + I k * S k from rfl)
            clear q1 q2
            go_wp2_with fail
            go_round
            case rel =>
              refine ⟨k + 1, by omega, congrArg (Value.int .i64) (by rw [e.out]; omega), by go_num, fun j hj => ?_⟩
              by_cases e : j = k
              · rw [e]; exact hq.out
              · exact HAll.out j (by omega)
            case measure => simp [intOf]; omega
      · obtain rfl : k = s := by omega
        have e := hide (show plc k k D S o n k I = o + sm I S k by unfold plc; rw [if_pos ⟨HV2.out, iok_iff.2 ⟨rfl, HAll.out⟩⟩])
        go_wp2_with fail
        go_ret
        exact ⟨ret_int e.out.symm, B1.out⟩
end Vo
end Go.Proofs.Ytbepgcdfdaeecaa
