/- Lemmas for the proof of the law. -/
import Derived.Test.YtjlmbeachanlfaaMgaf
import Derived.Lib.QuietBelow
import Derived.Test.YtjlmbeachanlfaaMgaa
import Derived.RangeFuncIn
import Derived.RangeFuncRecord
import Derived.RangeFuncSeq
import Derived.RangeFuncLeaves
import Derived.RangeFuncCalls
import Derived.ControlIn
/- TensorOk on both sides. -/
namespace Go.Proofs.Ytjlmbeachanlfaa
namespace Vo
open Go.ChangeShapes Go.WideShapes Go.ChangeAt Go.RowKit Go.Joins Go.Sort
open Vl Vp
set_option linter.unusedVariables false
set_option linter.unusedSimpArgs false

/-- each of a list is in 0 .. n - 1 -/
def WI (s : Nat) (S : Nat → Int) (n : Int) : Prop := ∀ j, j < s → 0 ≤ S j ∧ S j < n
instance (s : Nat) (S : Nat → Int) (n : Int) : Decidable (WI s S n) := by unfold WI; infer_instance
def wi (s : Nat) (S : Nat → Int) (n : Int) : Bool := decide (WI s S n)
/-- what a tensor is -/
def tok (r s : Nat) (D S : Nat → Int) : Bool := dok r D && decide ((s : Int) = szR D r) && wi s S 2147483647
theorem tok_no1 {r s : Nat} {D S : Nat → Int} (h : dok r D = false) : tok r s D S = false := by unfold tok; rw [h]; rfl
theorem tok_no2 {r s : Nat} {D S : Nat → Int} (h : (s : Int) ≠ szR D r) : tok r s D S = false := by unfold tok; rw [decide_eq_false h]; simp
theorem tok_no3 {r s : Nat} {D S : Nat → Int} {k : Nat} (hk : k < s) (h : S k < 0 ∨ 2147483647 ≤ S k) : tok r s D S = false := by
  unfold tok wi
  rw [decide_eq_false (show ¬ WI s S 2147483647 from fun q => by have := q k hk; omega)]
  simp
theorem tok_yes {r s : Nat} {D S : Nat → Int} (h1 : dok r D = true) (h2 : (s : Int) = szR D r) (h3 : WI s S 2147483647) : tok r s D S = true := by
  unfold tok wi
  rw [h1, decide_eq_true h2, decide_eq_true h3]; rfl
theorem sz_dok {r : Nat} {D : Nat → Int} (h : dok r D = true) : sz r D = szR D r := by
  unfold sz; rw [if_neg (by have := (dok_iff.1 h).1; omega)]
theorem within1 (x n : Int) (P : Nat) (w : World) (h : w.cell? ⟨P, 0, none⟩ = some (.int .i64 n)) :
    Calls Try.prog 70 #[.int .i64 x, .pointer (some ⟨P, 0, none⟩)] w fun e w' => e = .returned (.bool (decide (x < 0) || decide (n ≤ x))) ∧ w' = w := by
  by_cases h0 : x < 0
  · have h0' : decide (x < 0) = true := decide_eq_true h0
    rw [h0', Bool.true_or]
    clear h0
    go_enter Try.func70, Try.ntmps70
    go_wp2_with fail
    go_ret
    exact ⟨rfl, rfl⟩
  · have h0' : decide (x < 0) = false := decide_eq_false h0
    rw [h0', Bool.false_or]
    clear h0
    go_enter Try.func70, Try.ntmps70
    go_wp2_with fail
    go_ret
    exact ⟨rfl, rfl⟩
set_option maxHeartbeats 1000000 in
theorem indexF (B : Nat) (a : Option Addr) (s cap : Nat) (S : Nat → Int) (n : Int) (P : Nat) (w : World) (h : Ints B w a s S) (hP : w.cell? ⟨P, 0, none⟩ = some (.int .i64 n)) (hs : (s : Int) ≤ 1048576) :
    Calls Try.prog 76 #[.slice a s cap, .func (.func 70) #[] #[.pointer (some ⟨P, 0, none⟩)]] w fun e w' => ∃ i, e = .returned (.int .i64 i) ∧ decide (0 ≤ i) = !(wi s S n) ∧ w' = w := by
  have H := hide h
  have HP := hide hP
  clear h hP
  go_enter Try.func76, Try.ntmps76
  go_wp2_with fail
  go_loopw [8] (fun i wx => ∃ k : Nat, k ≤ s ∧ i = .int .i64 k ∧ WI k S n ∧ wx = w) (fun i _ => s - (intOf i).toNat)
  case atStart => exact ⟨0, Nat.zero_le _, rfl, fun j hj => by omega, rfl⟩
  case round =>
    obtain ⟨k, hk, rfl, hall, rfl⟩ := hrel
    have HA := hide hall
    clear hall
    by_cases hlt : k < s
    · rcases H.out with h0 | ⟨b, off, rfl, hbB, hc⟩
      · omega
      have c1 := (hc k hlt).1
      have kI : (k : Int) < s := by omega
      clear hc
      by_cases hq : S k < 0 ∨ n ≤ S k
      · have e := hide (show (decide (S k < 0) || decide (n ≤ S k)) = true by simpa using hq)
        have f := hide (show decide ((0 : Int) ≤ (k : Int)) = !(wi s S n) by
          rw [show wi s S n = false from decide_eq_false (fun q => by have := q k hlt; omega)]
          simp)
        clear hq
        go_wp2_with fail
        refine (within1 _ n P _ HP.out).mono ?_
        rintro e1 w1 ⟨rfl, rfl⟩
        rw [e.out]
        go_wp2_with fail
        go_ret
        exact ⟨_, rfl, f.out, rfl⟩
      · have e := hide (show (decide (S k < 0) || decide (n ≤ S k)) = false by simpa using hq)
        have f := hide (show WI (k + 1) S n from fun j hj => by
          by_cases ej : j = k
          · subst ej; omega
          · exact HA.out j (by omega))
        clear hq
        go_wp2_with fail
        refine (within1 _ n P _ HP.out).mono ?_
        rintro e1 w1 ⟨rfl, rfl⟩
        rw [e.out]
        go_wp2_with fail
        go_roundw
        case rel => exact ⟨k + 1, by omega, by go_num, f.out, trivial⟩
        case measure => simp [intOf]; omega
    · obtain rfl : k = s := by omega
      have f := hide (show wi k S n = true from decide_eq_true HA.out)
      go_wp2_with fail
      go_ret
      exact ⟨_, rfl, by rw [f.out]; rfl, rfl⟩
theorem within (B : Nat) (a : Option Addr) (s cap : Nat) (S : Nat → Int) (n : Int) (w : World) (hB : B ≤ w.heap.size) (h : Ints B w a s S) (hs : (s : Int) ≤ 1048576) :
    Calls Try.prog 55 #[.slice a s cap, .int .i64 n] w fun e w' => e = .returned (.bool (wi s S n)) ∧ Below w.heap.size w w' := by
  have bl : Below w.heap.size w (w.alloc (.cells #[.int .i64 n] 3)) := (Below.refl _ _).alloc (Nat.le_refl _) _
  have H := hide (h.below (bl.mono hB))
  have HP := hide (show (w.alloc (.cells #[.int .i64 n] 3)).cell? ⟨w.heap.size, 0, none⟩ = some (.int .i64 n) by simp [go_sem])
  have BL := hide bl
  have C1 := hide (show Calls Try.prog 69 #[.slice a s cap, .func (.func 70) #[] #[.pointer (some ⟨w.heap.size, 0, none⟩)]] (w.alloc (.cells #[.int .i64 n] 3)) fun e w' => e = .returned (.bool (!(wi s S n))) ∧ w' = w.alloc (.cells #[.int .i64 n] 3) by
    generalize w.alloc (.cells #[.int .i64 n] 3) = W at *
    clear h bl BL
    go_enter Try.func69, Try.ntmps69
    go_wp2_with fail
    refine (indexF B a s cap S n w.heap.size _ H.out HP.out hs).mono ?_
    rintro e1 w1 ⟨i, rfl, hi, rfl⟩
    have HI := hide hi
    clear hi
    go_wp2_with fail
    go_ret
    exact ⟨by rw [HI.out]; rfl, rfl⟩)
  clear h bl
  go_enter Try.func55, Try.ntmps55
  go_wp2_with fail
  refine C1.out.mono ?_
  rintro e1 w1 ⟨rfl, rfl⟩
  go_wp2_with fail
  go_ret
  exact ⟨by simp, BL.out⟩
set_option maxRecDepth 100000 in
set_option maxHeartbeats 1000000 in
theorem specTensorOkL (B : Nat) (a b : Option Addr) (r s cap dap : Nat) (D S : Nat → Int) (w : World) (hB : B ≤ w.heap.size) (h : Ints B w a r D) (h' : Ints B w b s S) (hr : (r : Int) ≤ 1048576) (hs : (s : Int) ≤ 33554432) :
    Calls Try.prog 37 #[.agg #[.slice a r cap, .slice b s dap]] w fun e w' => e = .returned (.bool (tok r s D S)) ∧ Below w.heap.size w w' := by
  have bl : Below w.heap.size w (w.alloc (.cells #[.slice a r cap, .slice b s dap] 43)) := (Below.refl _ _).alloc (Nat.le_refl _) _
  have H := hide (h.below (bl.mono hB))
  have H' := hide (h'.below (bl.mono hB))
  have n0 := bx_new w (.slice a r cap) (.slice b s dap) 43
  have hB' : B ≤ (w.alloc (.cells #[.slice a r cap, .slice b s dap] 43)).heap.size := by simp; omega
  have hz : w.heap.size < (w.alloc (.cells #[.slice a r cap, .slice b s dap] 43)).heap.size := by simp
  obtain ⟨W, hW⟩ : ∃ W, w.alloc (.cells #[.slice a r cap, .slice b s dap] 43) = W := ⟨_, rfl⟩
  rw [hW] at H H' n0 bl hB' hz
  have BL := hide bl
  have k0 := cell_regrown n0.1
  have k1 := cell_regrown n0.2
  have N0 := hide n0
  have cD : ∀ q os, Calls Try.prog 38 #[.slice a r cap] (Sort.grow (redrawn W q) os) fun e w'' => e = .returned (.bool (dok r D)) ∧ ∃ p : Regrown, w'' = Sort.grow (redrawn W p.d) p.os := fun q os => Calls.regrown_of ((Vs.specDimsOk B a r cap D _ (H.out.below ((below_regrown W q os).mono hB')) hr).mono (fun e w' q => ⟨q.1, q.2 ▸ Below.refl _ _⟩))
  have cS : ∀ q os, Calls Try.prog 60 #[.slice a r cap] (Sort.grow (redrawn W q) os) fun e w'' => e = .returned (.int .i64 (szR D r)) ∧ ∃ p : Regrown, w'' = Sort.grow (redrawn W p.d) p.os := fun q os => Calls.regrown_of ((Vs.l3Size B a r cap D _ (H.out.below ((below_regrown W q os).mono hB')) hr).mono (fun e w' q => ⟨q.1, q.2 ▸ Below.refl _ _⟩))
  have CD := hide cD
  have CS := hide cS
  clear h h' bl n0 cD cS
  cases hd : dok r D with
  | false =>
    rw [hd] at CD
    have e := hide (tok_no1 (s := s) (S := S) hd)
    clear hd
    go_enter Try.func37, Try.ntmps37
    go_wp2_with fail
    refine wp_region_quiet_below (by kernel_rfl) (by kernel_rfl) ?_
    repeat (quiet_step (first | (go_at_call 38; exact CD.out _ _) | (go_at_call 60; exact CS.out _ _)))
    refine wpQuiet_nil ?_
    intro _ hw'
    obtain ⟨⟨dq, osq⟩, hw''⟩ := hw'
    subst hw''
    go_wp2_with fail
    go_ret
    exact ⟨ret_bool e.out.symm, BL.out.trans ((below_regrown W dq osq).mono BL.out.size)⟩
  | true =>
    rw [hd] at CD
    have HD := hide hd
    clear hd
    by_cases hs2 : (s : Int) = szR D r
    rotate_left
    · have e := hide (tok_no2 (S := S) hs2)
      have hs3 : ((s : Int) != szR D r) = true := by rw [bne_iff_ne]; exact hs2
      clear hs2
      go_enter Try.func37, Try.ntmps37
      go_wp2_with fail
      refine wp_region_quiet_below (by kernel_rfl) (by kernel_rfl) ?_
      repeat (quiet_step (first | (go_at_call 38; exact CD.out _ _) | (go_at_call 60; exact CS.out _ _)))
      refine wpQuiet_nil ?_
      intro _ hw'
      obtain ⟨⟨dq, osq⟩, hw''⟩ := hw'
      subst hw''
      go_wp2_with fail
      go_ret
      exact ⟨ret_bool e.out.symm, BL.out.trans ((below_regrown W dq osq).mono BL.out.size)⟩
    · have HS2 := hide hs2
      have hs3 : ((s : Int) != szR D r) = false := by rw [bne_eq_false_iff_eq]; exact hs2
      clear hs2
      go_enter Try.func37, Try.ntmps37
      go_wp2_with fail
      refine wp_region_quiet_below (by kernel_rfl) (by kernel_rfl) ?_
      repeat (quiet_step (first | (go_at_call 38; exact CD.out _ _) | (go_at_call 60; exact CS.out _ _)))
      refine wpQuiet_nil ?_
      intro _ hw'
      obtain ⟨⟨dq, osq⟩, hw''⟩ := hw'
      subst hw''
      go_wp2_with fail
      go_loopw [3] (fun i wx => ∃ k : Nat, k ≤ s ∧ i = .int .i64 k ∧ WI k S 2147483647 ∧ wx = Sort.grow (redrawn W dq) osq) (fun i _ => s - (intOf i).toNat)
      case atStart => exact ⟨0, Nat.zero_le _, rfl, fun j hj => by omega, rfl⟩
      case round =>
        obtain ⟨k, hk, rfl, hall, rfl⟩ := hrel
        have HA := hide hall
        clear hall
        by_cases hlt : k < s
        · rcases H'.out.below ((below_regrown W dq osq).mono hB') with h0 | ⟨b', off, rfl, hbB, hc⟩
          · omega
          have c1 := (hc k hlt).1
          have kI : (k : Int) < s := by omega
          clear hc
          by_cases q1 : S k < 0
          · have e := hide (tok_no3 (r := r) (D := D) hlt (.inl q1))
            have q1' : decide (S k < 0) = true := decide_eq_true q1
            clear q1
            go_wp2_with fail
            go_ret
            exact ⟨ret_bool e.out.symm, BL.out.trans ((below_regrown W dq osq).mono BL.out.size)⟩
          · have q1' : decide (S k < 0) = false := decide_eq_false q1
            by_cases q2 : 2147483647 ≤ S k
            · have e := hide (tok_no3 (r := r) (D := D) hlt (.inr q2))
              have q2' : decide (2147483647 ≤ S k) = true := decide_eq_true q2
              clear q1 q2
              go_wp2_with fail
              go_ret
              exact ⟨ret_bool e.out.symm, BL.out.trans ((below_regrown W dq osq).mono BL.out.size)⟩
            · have q2' : decide (2147483647 ≤ S k) = false := decide_eq_false q2
              have f := hide (show WI (k + 1) S 2147483647 from fun j hj => by
                by_cases ej : j = k
                · subst ej; omega
                · exact HA.out j (by omega))
              clear q1 q2
              go_wp2_with fail
              go_roundw
              case rel => exact ⟨k + 1, by omega, by go_num, f.out, trivial⟩
              case measure => simp [intOf]; omega
        · obtain rfl : k = s := by omega
          have e := hide (tok_yes HD.out HS2.out HA.out)
          go_wp2_with fail
          go_ret
          exact ⟨ret_bool e.out.symm, BL.out.trans ((below_regrown W dq osq).mono BL.out.size)⟩
theorem specTensorOk (B : Nat) (a b : Option Addr) (r s cap dap : Nat) (D S : Nat → Int) (w : World) (hB : B ≤ w.heap.size) (h : Ints B w a r D) (h' : Ints B w b s S) (hr : (r : Int) ≤ 1048576) (hs : (s : Int) ≤ 1048576) :
    Calls Try.prog 37 #[.agg #[.slice a r cap, .slice b s dap]] w fun e w' => e = .returned (.bool (tok r s D S)) ∧ Below w.heap.size w w' := specTensorOkL B a b r s cap dap D S w hB h h' hr (by omega)
set_option maxRecDepth 100000 in
set_option maxHeartbeats 1000000 in
theorem tensorOk (B : Nat) (a b : Option Addr) (r s cap dap : Nat) (D S : Nat → Int) (w : World) (hB : B ≤ w.heap.size) (h : Ints B w a r D) (h' : Ints B w b s S) (hr : (r : Int) ≤ 1048576) (hs : (s : Int) ≤ 1048576) :
    Calls Try.prog 29 #[.agg #[.slice a r cap, .slice b s dap]] w fun e w' => e = .returned (.bool (tok r s D S)) ∧ Below w.heap.size w w' := by
  have bl : Below w.heap.size w (w.alloc (.cells #[.slice a r cap, .slice b s dap] 43)) := (Below.refl _ _).alloc (Nat.le_refl _) _
  have H := hide (h.below (bl.mono hB))
  have H' := hide (h'.below (bl.mono hB))
  have n0 := bx_new w (.slice a r cap) (.slice b s dap) 43
  have hB' : B ≤ (w.alloc (.cells #[.slice a r cap, .slice b s dap] 43)).heap.size := by simp; omega
  obtain ⟨W, hW⟩ : ∃ W, w.alloc (.cells #[.slice a r cap, .slice b s dap] 43) = W := ⟨_, rfl⟩
  rw [hW] at H H' n0 bl hB'
  have BL := hide bl
  have k0 := cell_regrown n0.1
  have k1 := cell_regrown n0.2
  have cD : ∀ q os, Calls Try.prog 52 #[.slice a r cap] (Sort.grow (redrawn W q) os) fun e w'' => e = .returned (.bool (dok r D)) ∧ ∃ p : Regrown, w'' = Sort.grow (redrawn W p.d) p.os := fun q os => Calls.regrown_of ((Vs.dimsOk B a r cap D _ (H.out.below ((below_regrown W q os).mono hB')) hr).mono (fun e w' q => ⟨q.1, q.2 ▸ Below.refl _ _⟩))
  have cS : ∀ q os, Calls Try.prog 54 #[.slice a r cap] (Sort.grow (redrawn W q) os) fun e w'' => e = .returned (.int .i64 (sz r D)) ∧ ∃ p : Regrown, w'' = Sort.grow (redrawn W p.d) p.os := fun q os => Calls.regrown_of ((Vs.sizeOf B a r cap D _ (H.out.below ((below_regrown W q os).mono hB')) hr).mono (fun e w' q => ⟨q.1, q.2 ▸ Below.refl _ _⟩))
  have cW : ∀ q os, Calls Try.prog 55 #[.slice b s dap, .int .i64 2147483647] (Sort.grow (redrawn W q) os) fun e w'' => e = .returned (.bool (wi s S 2147483647)) ∧ ∃ p : Regrown, w'' = Sort.grow (redrawn W p.d) p.os := fun q os => Calls.regrown_of (within B b s dap S 2147483647 _ (Nat.le_trans hB' (below_regrown W q os).size) (H'.out.below ((below_regrown W q os).mono hB')) hs)
  have CD := hide cD
  have CS := hide cS
  have CW := hide cW
  clear h h' bl n0 cD cS cW
  cases hd : dok r D with
  | false =>
    rw [hd] at CD
    have e := hide (tok_no1 (s := s) (S := S) hd)
    clear hd
    go_enter Try.func29, Try.ntmps29
    go_wp2_with fail
    refine wp_region_quiet_below (by kernel_rfl) (by kernel_rfl) ?_
    repeat (quiet_step (first | (go_at_call 52; exact CD.out _ _) | (go_at_call 54; exact CS.out _ _) | (go_at_call 55; exact CW.out _ _)))
    refine wpQuiet_nil ?_
    intro _ hw'
    obtain ⟨⟨dq, osq⟩, hw''⟩ := hw'
    subst hw''
    go_wp2_with fail
    go_ret
    exact ⟨ret_bool e.out.symm, BL.out.trans ((below_regrown W dq osq).mono BL.out.size)⟩
  | true =>
    rw [hd] at CD
    rw [sz_dok hd] at CS
    have HD := hide hd
    clear hd
    by_cases hs2 : (s : Int) = szR D r
    rotate_left
    · have e := hide (tok_no2 (S := S) hs2)
      have hs3 : ((s : Int) == szR D r) = false := beq_eq_false_iff_ne.2 hs2
      clear hs2
      go_enter Try.func29, Try.ntmps29
      go_wp2_with fail
      refine wp_region_quiet_below (by kernel_rfl) (by kernel_rfl) ?_
      repeat (quiet_step (first | (go_at_call 52; exact CD.out _ _) | (go_at_call 54; exact CS.out _ _) | (go_at_call 55; exact CW.out _ _)))
      refine wpQuiet_nil ?_
      intro _ hw'
      obtain ⟨⟨dq, osq⟩, hw''⟩ := hw'
      subst hw''
      go_wp2_with fail
      go_ret
      exact ⟨ret_bool e.out.symm, BL.out.trans ((below_regrown W dq osq).mono BL.out.size)⟩
    · have e := hide (show tok r s D S = wi s S 2147483647 by unfold tok; rw [HD.out, decide_eq_true hs2]; rfl)
      have hs3 : ((s : Int) == szR D r) = true := beq_iff_eq.2 hs2
      clear hs2
      go_enter Try.func29, Try.ntmps29
      go_wp2_with fail
      refine wp_region_quiet_below (by kernel_rfl) (by kernel_rfl) ?_
      repeat (quiet_step (first | (go_at_call 52; exact CD.out _ _) | (go_at_call 54; exact CS.out _ _) | (go_at_call 55; exact CW.out _ _)))
      refine wpQuiet_nil ?_
      intro _ hw'
      obtain ⟨⟨dq, osq⟩, hw''⟩ := hw'
      subst hw''
      go_wp2_with fail
      go_ret
      exact ⟨ret_bool e.out.symm, BL.out.trans ((below_regrown W dq osq).mono BL.out.size)⟩
end Vo
end Go.Proofs.Ytjlmbeachanlfaa

/- A range over a function whose rounds are numbered: the k-th one is handed 'encs k'. What the body may write is a list of blocks of the caller's; the iterator may write what it laid itself. -/
namespace Go.Proofs.Ytjlmbeachanlfaa
namespace Vr
open Go.RowKit
open Vl
set_option linter.unusedVariables false

variable {P : Program}

/-- the blocks that a round may turn: the caller's own ones, and the loop's two -/
def Turn (own : Nat → Prop) (z : Nat) : Nat → Prop := fun k => own k ∨ k = z ∨ k = z + 1
/-- an iterator of N rounds -/
def SeqN (P : Program) (gf : Nat) (lb : Array Value) (encs : Nat → Array Value) (N : Nat) (own : Nat → Prop) (w : World) : Prop :=
  ∀ (J Jx : Nat → World → Prop) (W : World), Below w.heap.size w W → W.heap.size = w.heap.size + 2 →
    (∀ k A B, J k A → Below (w.heap.size + 2) A B → J k B) → (∀ k A B, Jx k A → Below (w.heap.size + 2) A B → Jx k B) →
    (∀ k A, J k A → k < N → YieldAt Fence.wide 0 P (w.heap.size + 1) (encs k) A fun e A' => (e = .returned (.bool true) ∧ J (k + 1) A' ∧ Kept (Turn own w.heap.size) A A') ∨ (e = .returned (.bool false) ∧ Jx k A' ∧ Kept (Turn own w.heap.size) A A')) →
    J 0 W →
    Calls P gf (#[.func (.yield (w.heap.size + 1)) #[] #[]] ++ lb) W fun e W' => (∃ v, e = .returned v) ∧ (J N W' ∨ ∃ k, k < N ∧ Jx k W')
/-- how a round may be left: off its end, or by a return -/
def rpost (own : Nat → Prop) (I Ix : Nat → World → Prop) (k : Nat) (W : World) : Exit → Act → World → Prop
  | .normal, _, W' => Kept own W W' ∧ I (k + 1) W'
  | .ret, _, W' => Kept own W W' ∧ Ix k W'
  | _, _, _ => False
/-- the loop's record -/
def lrec (fn : FuncId) (tmps : Array Value) (ps : Array Tmp) (assign body : Code) (z : Nat) (st : LoopState) (pe : Option Code) : Loop :=
  { state := st, pending := pe, fn := fn, tmps := tmps, params := ps, assign := assign, body := body, defers := z }

theorem kept_put (w : World) (r : Nat) (o : Obj) : Kept (· = r) w (w.putObj r o) := ⟨rfl, rfl, rfl, by simp, fun k _ hn => World.putObj_heap_other hn⟩
theorem below_put {B : Nat} (w : World) (r : Nat) (o : Obj) (h : B ≤ r) : Below B w (w.putObj r o) := ⟨rfl, rfl, rfl, by simp, fun k hk => World.putObj_heap_other (by omega)⟩
theorem new_heap (w : World) (o : Obj) : (w.alloc o).heap[w.heap.size]? = some o := by
  show (w.heap.push o)[w.heap.size]? = some o
  simp

theorem range_nat {g : Operand} {ps : Array Tmp} {assign body : Code} {Q : Exit → Act → World → Prop} {a : Act} {w : World} {gf : Nat} {lb : Array Value}
    (hg : a.eval g = .func (.func gf) #[] lb) (eg : ∀ args w, (callFunc gf args).run P w = .ok (.enter gf args) w)
    (encs : Nat → Array Value) (N : Nat) (own : Nat → Prop) (hown : ∀ k, own k → k < w.heap.size) (hps : ∀ k, (encs k).size = ps.size)
    (hit : SeqN P gf lb encs N own w) (I Ix : Nat → World → Prop) (hI : ∀ k A B, I k A → Below w.heap.size A B → I k B) (hIx : ∀ k A B, Ix k A → Below w.heap.size A B → Ix k B) (h0 : I 0 w)
    (a₁ : Nat → Act)
    (hassign : ∀ (l k : Nat) (W : World) (K : Act → World → Prop), K (a₁ k) W → assign.wpIn (Fence.wide.inRound l) 0 P (Exit.then K (fun _ _ _ => False)) { tmps := (ps.zip (encs k)).foldl (fun t (p, v) => t.setIfInBounds p v) a.tmps, defers := [] } W)
    (hbody : ∀ (l k : Nat) (W : World), I k W → k < N → w.heap.size + 2 ≤ W.heap.size → body.wpIn (Fence.wide.inRound l) 0 P (rpost own I Ix k W) (a₁ k) W)
    (hdone : ∀ W : World, I N W → W.heap[w.heap.size]? = some (.deferred (some [])) → Q .normal { a with defers := { target := .collected w.heap.size, args := #[] } :: a.defers } W)
    (hstop : ∀ (k : Nat) (W : World), k < N → Ix k W → W.heap[w.heap.size]? = some (.deferred (some [])) → Code.ret.wp P Q { a with defers := { target := .collected w.heap.size, args := #[] } :: a.defers } W) :
    (Code.rangeFunc g ps assign body).wp P Q a w := by
  refine (wpIn_wide (n := 0)).1 (wpIn_rangeFunc ?_)
  intro fn _
  generalize hz : w.heap.size = z at *
  obtain ⟨rec, hrec⟩ : ∃ rec : LoopState → Option Code → Loop, rec = lrec fn a.tmps ps assign body z := ⟨_, rfl⟩
  obtain ⟨W1, hW1⟩ : ∃ W1, (w.alloc (.deferred (some []))).alloc (.loop (rec .ready none)) = W1 := ⟨_, rfl⟩
  have hs1 : W1.heap.size = z + 2 := by rw [← hW1]; simp [hz]
  have hL1 : W1.heap[z + 1]? = some (.loop (rec .ready none)) := by
    have := new_heap (w.alloc (.deferred (some []))) (.loop (rec .ready none))
    rw [World.size_alloc, hz] at this; rw [← hW1]; exact this
  have hK1 : W1.heap[z]? = some (.deferred (some [])) := by
    have := new_heap w (.deferred (some []))
    rw [hz] at this
    rw [← hW1, Below.heap_alloc _ _ _ (by simp [hz])]; exact this
  have hb1 : Below z w W1 := by
    rw [← hW1]; exact ((Below.refl z w).alloc (by omega) _).alloc (by simp; omega) _
  refine ⟨z + 1, [{ target := .collected z, args := #[] }], W1, { target := .fn (.func gf) lb, args := #[.func (.yield (z + 1)) #[] #[]] }, W1, gf, #[.func (.yield (z + 1)) #[] #[]] ++ lb, W1, ?_, ?_, fun _ _ => trivial, ?_, (fun h => by cases h), callsIn_wide.2 ?_⟩
  · rw [← hW1, hrec, ← hz]; exact run_enterLoop_outer _ _ _ _ _
  · simp only [resolve, hg]
    simp [go_sem]
  · simp [invoke, go_sem, eg]
  · have hit' := hit (fun k A => I k A ∧ A.heap[z + 1]? = some (.loop (rec .ready none)) ∧ A.heap[z]? = some (.deferred (some [])))
      (fun k A => Ix k A ∧ A.heap[z + 1]? = some (.loop (rec .done (some .ret))) ∧ A.heap[z]? = some (.deferred (some []))) W1
    rw [hz] at hit'
    refine (hit' hb1 hs1 (fun k A B h hb => ⟨hI k A B h.1 (hb.mono (by omega)), (hb.block (z + 1) (by omega)).trans h.2.1, (hb.block z (by omega)).trans h.2.2⟩)
      (fun k A B h hb => ⟨hIx k A B h.1 (hb.mono (by omega)), (hb.block (z + 1) (by omega)).trans h.2.1, (hb.block z (by omega)).trans h.2.2⟩) ?_ ⟨hI 0 w W1 h0 hb1, hL1, hK1⟩).mono ?_
    · rintro k A ⟨hi, hl, hk⟩ hkN
      have hlt : z + 1 < A.heap.size := (Array.getElem?_eq_some_iff.1 hl).1
      have hy := run_yield (P := P) (args := encs k) hl (by rw [hrec]; exact hps k)
      rw [hrec] at hy
      refine ⟨fn, _, assign, body, hy, roundIn_of_wpIn trivial (hassign _ k A _ ⟨_, run_beginRound hl (by rw [hrec]; rfl), ?_⟩)⟩
      have hA1 : ∀ o, (A.putObj (z + 1) o).heap[z + 1]? = some o := fun o => World.putObj_heap_same hlt
      refine wpIn_mono (hbody _ k _ (hI k A _ hi (below_put A _ _ (by omega))) hkN (by simp; omega)) ?_
      rintro e a3 W3 hp
      have step : ∀ (jump : Option Code), Kept own (A.putObj (z + 1) (.loop { rec .ready none with state := .busy })) W3 →
          (Instr.endRound (z + 1) jump).run P W3 = .ok (.bool jump.isNone) (W3.putObj (z + 1) (.loop (rec (if jump.isNone then .ready else .done) jump))) ∧
          (W3.putObj (z + 1) (.loop (rec (if jump.isNone then .ready else .done) jump))).heap[z + 1]? = some (.loop (rec (if jump.isNone then .ready else .done) jump)) ∧
          (W3.putObj (z + 1) (.loop (rec (if jump.isNone then .ready else .done) jump))).heap[z]? = some (.deferred (some [])) ∧
          Kept (Turn own z) A (W3.putObj (z + 1) (.loop (rec (if jump.isNone then .ready else .done) jump))) := fun jump hk3 => by
        have hn1 : ¬ own (z + 1) := fun h => by have := hown _ h; omega
        have hn0 : ¬ own z := fun h => by have := hown _ h; omega
        have hl3 := (hk3.block (z + 1) (by simp; omega) hn1).trans (hA1 _)
        have hk0 : W3.heap[z]? = some (.deferred (some [])) := (hk3.block z (by simp; omega) hn0).trans ((World.putObj_heap_other (by omega)).trans hk)
        have hr := run_endRound (P := P) jump hl3
        refine ⟨?_, World.putObj_heap_same (Array.getElem?_eq_some_iff.1 hl3).1, (World.putObj_heap_other (by omega)).trans hk0, ?_⟩
        · rw [hrec] at hr ⊢; exact hr
        · exact (((kept_put A (z + 1) _).mono (fun _ _ e => .inr (.inr e))).trans (hk3.mono (fun _ _ e => .inl e))).trans ((kept_put W3 (z + 1) _).mono (fun _ _ e => .inr (.inr e)))
      cases e with
      | normal =>
        obtain ⟨hk3, hi3⟩ := hp
        obtain ⟨q1, q2, q3, q4⟩ := step none hk3
        exact ⟨_, _, q1, .inl ⟨rfl, ⟨hI _ _ _ hi3 (below_put W3 _ _ (by omega)), q2, q3⟩, q4⟩⟩
      | ret =>
        obtain ⟨hk3, hi3⟩ := hp
        obtain ⟨q1, q2, q3, q4⟩ := step (some .ret) hk3
        exact ⟨_, _, q1, .inr ⟨rfl, ⟨hIx _ _ _ hi3 (below_put W3 _ _ (by omega)), q2, q3⟩, q4⟩⟩
      | exit id => exact hp.elim
      | goto t => exact hp.elim
      | panic ch => exact hp.elim
      | outgrown => exact hp.elim
    · rintro e W2 ⟨⟨v, rfl⟩, (⟨hi, hl, hk⟩ | ⟨k, hkN, hi, hl, hk⟩)⟩
      · refine ⟨none, _, by have := run_endLoop (P := P) hl (by rw [hrec]; simp [lrec]); rw [hrec] at this; exact this, hdone _ (hI _ _ _ hi (below_put W2 _ _ (by omega))) ((World.putObj_heap_other (by omega)).trans hk)⟩
      · refine ⟨some .ret, _, by have := run_endLoop (P := P) hl (by rw [hrec]; simp [lrec]); rw [hrec] at this; exact this, (wpIn_wide (n := 0)).2 (hstop k _ hkN (hIx _ _ _ hi (below_put W2 _ _ (by omega))) ((World.putObj_heap_other (by omega)).trans hk))⟩

/-- a function that holds such a loop: its contract out of its body -/
theorem calls_marks {f : FuncId} {fn : Func} {c : Code} {args : Array Value} {w : World} {R : Ending → World → Prop} (hf : P.funcs[f]? = some fn) (hb : fn.body = some c)
    (h : c.wp P (bodyPostM Fence.wide 0 P fn R) { tmps := args ++ Array.replicate (fn.ntmps - args.size) undef, defers := [] } w) : Calls P f args w R :=
  (callsIn_wide (n := 0)).1 (callsIn_of_wp_marks hf hb trivial (wpIn_wide.2 h))
/-- its end behind no loop -/
theorem end0 {fn : Func} {R : Ending → World → Prop} {a : Act} {W : World} {v : Value} (ha : a.defers = []) (hv : (results fn a.tmps).run P W = .ok v W) (hR : R (.returned v) W) : bodyPostM Fence.wide 0 P fn R .ret a W := by
  show LeavesInM Fence.wide 0 P fn a.tmps R a.defers .returning W
  rw [ha]
  exact ⟨v, hv, hR⟩
/-- behind one loop -/
theorem end1 {fn : Func} {R : Ending → World → Prop} {a : Act} {W : World} {v : Value} {D : Nat} (ha : a.defers = [{ target := .collected D, args := #[] }]) (hD : W.heap[D]? = some (.deferred (some [])))
    (hv : (results fn a.tmps).run P (W.putObj D (.deferred none)) = .ok v (W.putObj D (.deferred none))) (hR : R (.returned v) (W.putObj D (.deferred none))) : bodyPostM Fence.wide 0 P fn R .ret a W := by
  show LeavesInM Fence.wide 0 P fn a.tmps R a.defers .returning W
  rw [ha]
  exact ⟨by simp, .inl ⟨D, _, rfl, run_takeDeferred hD, v, hv, hR⟩⟩
/-- behind two -/
theorem end2 {fn : Func} {R : Ending → World → Prop} {a : Act} {W : World} {v : Value} {D E : Nat} (ha : a.defers = [{ target := .collected D, args := #[] }, { target := .collected E, args := #[] }]) (hD : W.heap[D]? = some (.deferred (some []))) (hE : W.heap[E]? = some (.deferred (some []))) (hne : E ≠ D)
    (hv : (results fn a.tmps).run P ((W.putObj D (.deferred none)).putObj E (.deferred none)) = .ok v ((W.putObj D (.deferred none)).putObj E (.deferred none))) (hR : R (.returned v) ((W.putObj D (.deferred none)).putObj E (.deferred none))) : bodyPostM Fence.wide 0 P fn R .ret a W := by
  show LeavesInM Fence.wide 0 P fn a.tmps R a.defers .returning W
  rw [ha]
  exact ⟨by simp, .inl ⟨D, _, rfl, run_takeDeferred hD, by simp, .inl ⟨E, _, rfl, run_takeDeferred ((World.putObj_heap_other hne).trans hE), v, hv, hR⟩⟩⟩
end Vr
end Go.Proofs.Ytjlmbeachanlfaa
