/- Worst of the program; both sides. -/
import Derived.Test.YtabjpemneimljaaIj
namespace Go.Proofs.Ytabjpemneimljaa
namespace Vo
open Go.ChangeShapes Go.WideShapes Go.ChangeAt Go.RowKit Go.Joins Go.Sort
open Vl
set_option linter.unusedVariables false
set_option linter.unusedSimpArgs false
theorem wst_step (S V : Nat → Int) (k : Nat) (m : Int) (hm : wst S V k = m) (h0 : 0 ≤ m) : wst S V (k + 1) = if (if m < S k - V k then S k - V k else m) < -(S k - V k) then -(S k - V k) else (if m < S k - V k then S k - V k else m) := by
  show (if wst S V k < ab (S k - V k) then ab (S k - V k) else wst S V k) = _
  rw [hm]
  unfold ab
  generalize S k - V k = d
  split <;> split <;> (try split) <;> (try split) <;> omega
theorem max3 (m o p : Int) (W : World) : Sem.run Try.prog (Builtin.max_ #[3, 3, 3] 3 #[.int .i64 m, .int .i64 o, .int .i64 p]) W = .ok (.int .i64 (if p > (if o > m then o else m) then p else if o > m then o else m)) W := by
  rfl
set_option maxHeartbeats 1000000 in
theorem iWor_no1 (s z : Int) (a : Option Addr) (r cap : Nat) (w : World) (hs : bd s) (hz : bd z) (g : scOk s z = false) :
    Calls Try.prog 17 #[.agg #[.int .i64 s, .int .i64 z], .slice a r cap] w fun e w' => e = .returned (.int .i64 0) ∧ Below w.heap.size w w' := by
  have C := hide (fun w => gScaleI s z false hs hz g w)
  clear g hs hz
  go_enter Try.func17, Try.ntmps17
  go_wp2_with fail
  refine (C.out _).mono ?_; rintro e1 w1 ⟨rfl, b1⟩
  go_wp2_with fail
  go_ret
  exact ⟨rfl, ((Below.refl _ _).alloc (Nat.le_refl _) _).trans (b1.mono (by simp))⟩
set_option maxHeartbeats 1000000 in
theorem iWor_no2 (s z : Int) (a : Option Addr) (r cap : Nat) (w : World) (hs : bd s) (hz : bd z) (g : scOk s z = true) (g2 : 4096 < (r : Int)) :
    Calls Try.prog 17 #[.agg #[.int .i64 s, .int .i64 z], .slice a r cap] w fun e w' => e = .returned (.int .i64 0) ∧ Below w.heap.size w w' := by
  have C := hide (fun w => gScaleI s z true hs hz g w)
  clear g hs hz
  go_enter Try.func17, Try.ntmps17
  go_wp2_with fail
  refine (C.out _).mono ?_; rintro e1 w1 ⟨rfl, b1⟩
  go_wp2_with fail
  go_ret
  exact ⟨rfl, ((Below.refl _ _).alloc (Nat.le_refl _) _).trans (b1.mono (by simp))⟩
set_option maxHeartbeats 1000000 in
theorem iWor_no3 (s z : Int) (B : Nat) (a : Option Addr) (r cap : Nat) (S : Nat → Int) (w : World) (hB : B ≤ w.heap.size) (h : Ints B w a r S) (hs : bd s) (hz : bd z) (g : scOk s z = true) (g2 : ¬ 4096 < (r : Int)) (g3 : ib (-1099511627776) 1099511627776 r S = false) :
    Calls Try.prog 17 #[.agg #[.int .i64 s, .int .i64 z], .slice a r cap] w fun e w' => e = .returned (.int .i64 0) ∧ Below w.heap.size w w' := by
  have C := hide (fun w => gScaleI s z true hs hz g w)
  have H := hide h
  have CR := hide (fun (X : World) (hX : Below w.heap.size w X) => areRealsF B a r cap S X (Nat.le_trans hB hX.size) (H.out.below (hX.mono hB)) (by omega))
  rw [g3] at CR
  have g4 : decide (4096 < (r : Int)) = false := decide_eq_false g2
  clear g hs hz h g3 g2
  go_enter Try.func17, Try.ntmps17
  go_wp2_with fail
  refine (C.out _).mono ?_; rintro e1 w1 ⟨rfl, b1⟩
  have B1 := hide (((Below.refl _ _).alloc (Nat.le_refl _) _).trans (b1.mono (by simp)))
  clear b1
  go_wp2_with fail
  refine (CR.out _ B1.out).mono ?_; rintro e1 w2 ⟨rfl, b2⟩
  go_wp2_with fail
  go_ret
  exact ⟨rfl, B1.out.trans (b2.mono B1.out.size)⟩
set_option maxHeartbeats 4000000 in
theorem iWor_yes (s z : Int) (B : Nat) (a : Option Addr) (r cap : Nat) (S Q V : Nat → Int) (w : World) (hB : B ≤ w.heap.size) (h : Ints B w a r S) (hs : bd s) (hz : bd z) (g : scOk s z = true) (g2 : ¬ 4096 < (r : Int)) (g3 : ib (-1099511627776) 1099511627776 r S = true) (hq : QV 11 10 s z r S Q V) :
    Calls Try.prog 17 #[.agg #[.int .i64 s, .int .i64 z], .slice a r cap] w fun e w' => e = .returned (.int .i64 (wst S V r)) ∧ Below w.heap.size w w' := by
  obtain ⟨W0, hW0⟩ : ∃ W0, w.alloc (.cells #[.int .i64 s, .int .i64 z] 25) = W0 := ⟨_, rfl⟩
  have BL := hide (show Below w.heap.size w W0 from hW0 ▸ (Below.refl _ _).alloc (Nat.le_refl _) _)
  have Y := hide (show Box2 W0 w.heap.size s z from hW0 ▸ box2_new _ _ _ _)
  have C := hide (fun w => gScaleI s z true hs hz g w)
  have H := hide (h.below (BL.out.mono hB))
  have CR := hide (fun (X : World) (hX : Below W0.heap.size W0 X) => areRealsF B a r cap S X (Nat.le_trans hB (Nat.le_trans BL.out.size hX.size)) (H.out.below (hX.mono (Nat.le_trans hB BL.out.size))) (by omega))
  rw [g3] at CR
  have g4 : decide (4096 < (r : Int)) = false := decide_eq_false g2
  have HQ := hide hq
  have RI : (r : Int) ≤ 4096 := by omega
  clear g hs hz h g3 g2 hq
  obtain ⟨-, k0, k1⟩ := Y.out
  go_enter Try.func17, Try.ntmps17
  go_wp2_with fail
  refine (C.out _).mono ?_; rintro e1 w1 ⟨rfl, b1⟩
  clear k0 k1
  have B1 := hide b1
  clear b1
  go_wp2_with fail
  refine (CR.out _ B1.out).mono ?_; rintro e1 w2 ⟨rfl, b2⟩
  have B2 := hide (B1.out.trans (b2.mono B1.out.size))
  clear b2 B1 C CR g4
  go_wp2_with fail
  go_loopw [5, 24] (fun m i wx => ∃ k : Nat, k ≤ r ∧ i = .int .i64 k ∧ m = .int .i64 (wst S V k) ∧ Below W0.heap.size W0 wx) (fun _ i _ => r - (intOf i).toNat)
  case atStart => exact ⟨0, Nat.zero_le _, rfl, rfl, B2.out⟩
  case round =>
    obtain ⟨k, hk, rfl, rfl, hb⟩ := hrel
    have HB := hide hb
    by_cases hlt : k < r
    · have kI : (k : Int) < (r : Int) := by omega
      obtain hz | ⟨b, off, rfl, hb', hc⟩ := H.out.below (HB.out.mono (Nat.le_trans hB BL.out.size))
      · omega
      have c1 := (hc k hlt).1
      obtain ⟨-, k0, k1⟩ := Y.out.below hb
      replace k0 := cell_regrown k0
      replace k1 := cell_regrown k1
      obtain ⟨⟨v0, v1⟩, ⟨x0, x1⟩, hQ, hV⟩ := HQ.out k hlt
      have m0 := (wst_bd (S := S) (V := V) (K := 281474976710656) (by decide) k (fun j hj => by have := HQ.out j (by omega); omega))
      obtain ⟨m, hm⟩ : ∃ m, wst S V k = m := ⟨_, rfl⟩
      rw [hm] at m0 ⊢
      have E1 := hide (wst_step S V k m hm m0.1)
      obtain ⟨m0, m1⟩ := m0
      have CQ := hide (fun d os => Calls.regrown_of (d := d) (os := os) (w := wr) (hQ _))
      have CV := hide (fun d os => Calls.regrown_of (d := d) (os := os) (w := wr) (hV _))
      clear hc hb' hQ hV hm hb
      generalize hS : S k = x at *
      generalize hVV : V k = v at *
      generalize hQQ : Q k = q at *
      clear hS hVV hQQ
      go_wp2_with fail
      refine wp_region_quiet_below (by kernel_rfl) (by kernel_rfl) ?_
      repeat (go_big_quiet_step (first | (go_at_call 11; exact CQ.out _ _) | (go_at_call 10; exact CV.out _ _)))
      refine wpQuiet_nil ?_
      intro _ hw'
      obtain ⟨⟨dq, osq⟩, hw''⟩ := hw'
      subst hw''
      have H3 := hide (HB.out.trans ((below_regrown _ dq osq).mono HB.out.size))
      clear c1 k0 k1 CQ CV
      have o0 : -281474976710656 ≤ x - v := by omega
      have o1 : x - v ≤ 281474976710656 := by omega
      generalize x - v = o at *
      by_cases d1 : m < o
      · by_cases d2 : o < -o
        · omega
        · have e := hide (show wst S V (k + 1) = o by rw [E1.out, if_pos d1, if_neg d2])
          have ev := hide (show (if -o > (if o > m then o else m) then -o else if o > m then o else m) = o by split <;> split at * <;> omega)
          go_wp2_with fail
          rw [max3, ev.out]
          go_wp2_with fail
          go_roundw
          case rel => exact ⟨k + 1, by omega, by go_num, by rw [e.out], H3.out⟩
          case measure => simp [intOf]; omega
      · by_cases d2 : m < -o
        · have e := hide (show wst S V (k + 1) = -o by rw [E1.out, if_neg d1, if_pos d2])
          have ev := hide (show (if -o > (if o > m then o else m) then -o else if o > m then o else m) = -o by split <;> split at * <;> omega)
          go_wp2_with fail
          rw [max3, ev.out]
          go_wp2_with fail
          go_roundw
          case rel => exact ⟨k + 1, by omega, by go_num, by rw [e.out], H3.out⟩
          case measure => simp [intOf]; omega
        · have e := hide (show wst S V (k + 1) = m by rw [E1.out, if_neg d1, if_neg d2])
          have ev := hide (show (if -o > (if o > m then o else m) then -o else if o > m then o else m) = m by split <;> split at * <;> omega)
          go_wp2_with fail
          rw [max3, ev.out]
          go_wp2_with fail
          go_roundw
          case rel => exact ⟨k + 1, by omega, by go_num, by rw [e.out], H3.out⟩
          case measure => simp [intOf]; omega
    · obtain rfl : k = r := by omega
      have lk : decide ((k : Int) < (k : Int)) = false := decide_eq_false (by omega)
      clear hb
      go_wp2_with fail
      go_ret
      exact ⟨rfl, BL.out.trans (HB.out.mono BL.out.size)⟩
theorem worBoth (s z : Int) (r : Nat) (S : Nat → Int) (hs : bd s) (hz : bd z) (hr : (r : Int) ≤ 1048576) : ∃ v : Int,
    (∀ (B : Nat) (a : Option Addr) (cap : Nat) (w : World), B ≤ w.heap.size → Ints B w a r S → Calls Try.prog 25 #[.agg #[.int .i64 s, .int .i64 z], .slice a r cap] w fun e w' => e = .returned (.int .i64 v) ∧ Below w.heap.size w w') ∧
    (∀ (B : Nat) (a : Option Addr) (cap : Nat) (w : World), B ≤ w.heap.size → Ints B w a r S → Calls Try.prog 17 #[.agg #[.int .i64 s, .int .i64 z], .slice a r cap] w fun e w' => e = .returned (.int .i64 v) ∧ Below w.heap.size w w') := by
  cases g1 : scOk s z
  · refine ⟨0, fun B a cap w hB h => ?_, fun B a cap w hB h => iWor_no1 s z a r cap w hs hz g1⟩
    by_cases r0 : r = 0
    · subst r0; exact sWor_no0 s z a cap w
    · exact sWor_no1 s z a r cap w (by omega) g1
  by_cases g2 : 4096 < (r : Int)
  · have g : rls r S = false := by unfold rls; rw [decide_eq_false (p := 0 < (r : Int) ∧ (r : Int) ≤ 4096) (by omega), Bool.and_false]
    exact ⟨0, fun B a cap w hB h => sWor_no2 s z B a r cap S w hB h hr (by omega) g1 g, fun B a cap w hB h => iWor_no2 s z a r cap w hs hz g1 g2⟩
  cases g3 : ib (-1099511627776) 1099511627776 r S
  · have r0 : 0 < r := by
      by_cases c : r = 0
      · subst c
        have : ib (-1099511627776) 1099511627776 0 S = true := decide_eq_true (fun i hi => by omega)
        rw [this] at g3
        cases g3
      · omega
    have g : rls r S = false := by unfold rls; rw [g3, Bool.false_and]
    exact ⟨0, fun B a cap w hB h => sWor_no2 s z B a r cap S w hB h hr r0 g1 g, fun B a cap w hB h => iWor_no3 s z B a r cap S w hB h hs hz g1 g2 g3⟩
  obtain ⟨Q, V, q1, q2⟩ := qv_both s z r S hs hz (of_decide_eq_true g3)
  refine ⟨wst S V r, fun B a cap w hB h => ?_, fun B a cap w hB h => iWor_yes s z B a r cap S Q V w hB h hs hz g1 g2 g3 q2⟩
  by_cases r0 : r = 0
  · subst r0; exact sWor_no0 s z a cap w
  · have g : rls r S = true := by unfold rls; rw [g3, decide_eq_true (p := 0 < (r : Int) ∧ (r : Int) ≤ 4096) (by omega)]; rfl
    exact sWor_yes s z B a r cap S Q V w hB h hr g1 g q1
end Vo
end Go.Proofs.Ytabjpemneimljaa
