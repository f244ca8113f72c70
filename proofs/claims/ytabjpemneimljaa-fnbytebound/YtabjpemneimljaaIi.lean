/- Calibrate of the program; both sides. -/
import Derived.Test.YtabjpemneimljaaIh
namespace Go.Proofs.Ytabjpemneimljaa
namespace Vo
open Go.ChangeShapes Go.WideShapes Go.ChangeAt Go.RowKit Go.Joins Go.Sort
open Vl
set_option linter.unusedVariables false
set_option linter.unusedSimpArgs false
set_option maxHeartbeats 1000000 in
theorem iCal_no1 (a : Option Addr) (cap : Nat) (w : World) :
    Calls Try.prog 15 #[.slice a 0 cap] w fun e w' => e = .returned (.tuple #[.agg #[.int .i64 0, .int .i64 0], .bool false]) ∧ Below w.heap.size w w' := by
  obtain ⟨W0, hW0⟩ : ∃ W0, w.alloc (.cells #[.int .i64 0, .int .i64 0] 25) = W0 := ⟨_, rfl⟩
  have b0 : Below w.heap.size w W0 := hW0 ▸ (Below.refl _ _).alloc (Nat.le_refl _) _
  have y0 : BoxW W0 w.heap.size 0 0 := hW0 ▸ boxW_new _ _ _ _
  have BL := hide b0
  obtain ⟨⟨-, k0, k1⟩, f0, f1⟩ := y0
  clear b0
  go_enter Try.func15, Try.ntmps15
  go_wp2_with fail
  exact bodyPost_ret (v := .tuple #[.agg #[.int .i64 0, .int .i64 0], .bool false]) (by simp [results, Try.results15, go_sem, k0, k1]) rfl
    ⟨rfl, (BL.out.setCell (Nat.le_refl _) _).setCell (Nat.le_refl _) _⟩
set_option maxHeartbeats 1000000 in
theorem iCal_no2 (B : Nat) (a : Option Addr) (r cap : Nat) (S : Nat → Int) (w : World) (hB : B ≤ w.heap.size) (h : Ints B w a r S) (hr : (r : Int) ≤ 1048576) (g1 : ¬ r = 0) (g2 : 4096 < (r : Int)) :
    Calls Try.prog 15 #[.slice a r cap] w fun e w' => e = .returned (.tuple #[.agg #[.int .i64 0, .int .i64 0], .bool false]) ∧ Below w.heap.size w w' := by
  obtain ⟨W0, hW0⟩ : ∃ W0, w.alloc (.cells #[.int .i64 0, .int .i64 0] 25) = W0 := ⟨_, rfl⟩
  have b0 : Below w.heap.size w W0 := hW0 ▸ (Below.refl _ _).alloc (Nat.le_refl _) _
  have y0 : BoxW W0 w.heap.size 0 0 := hW0 ▸ boxW_new _ _ _ _
  have C := hide (areRealsF B a r cap S W0 (Nat.le_trans hB b0.size) (h.below (b0.mono hB)) hr)
  have BL := hide b0
  have Y := hide y0
  clear b0 y0 h
  obtain ⟨⟨-, k0, k1⟩, f0, f1⟩ := Y.out
  clear Y C
  have g3 : decide ((r : Int) = 0) = false := decide_eq_false (by omega)
  go_enter Try.func15, Try.ntmps15
  go_wp2_with fail
  exact bodyPost_ret (v := .tuple #[.agg #[.int .i64 0, .int .i64 0], .bool false]) (by simp [results, Try.results15, go_sem, k0, k1]) rfl
    ⟨rfl, (BL.out.setCell (Nat.le_refl _) _).setCell (Nat.le_refl _) _⟩
set_option maxHeartbeats 1000000 in
theorem iCal_no3 (B : Nat) (a : Option Addr) (r cap : Nat) (S : Nat → Int) (w : World) (hB : B ≤ w.heap.size) (h : Ints B w a r S) (hr : (r : Int) ≤ 1048576) (g1 : ¬ r = 0) (g2 : ¬ 4096 < (r : Int)) (g : ib (-1099511627776) 1099511627776 r S = false) :
    Calls Try.prog 15 #[.slice a r cap] w fun e w' => e = .returned (.tuple #[.agg #[.int .i64 0, .int .i64 0], .bool false]) ∧ Below w.heap.size w w' := by
  obtain ⟨W0, hW0⟩ : ∃ W0, w.alloc (.cells #[.int .i64 0, .int .i64 0] 25) = W0 := ⟨_, rfl⟩
  have b0 : Below w.heap.size w W0 := hW0 ▸ (Below.refl _ _).alloc (Nat.le_refl _) _
  have y0 : BoxW W0 w.heap.size 0 0 := hW0 ▸ boxW_new _ _ _ _
  have C := hide (areRealsF B a r cap S W0 (Nat.le_trans hB b0.size) (h.below (b0.mono hB)) hr)
  rw [g] at C
  have H0 := hide (h.below (b0.mono hB))
  have BL := hide b0
  have Y := hide y0
  clear b0 y0 h
  have g3 : decide ((r : Int) = 0) = false := decide_eq_false (by omega)
  have g4 : decide (4096 < (r : Int)) = false := decide_eq_false g2
  clear g g2
  go_enter Try.func15, Try.ntmps15
  go_wp2_with fail
  refine C.out.mono ?_; rintro e1 w1 ⟨rfl, b1⟩
  have Y1 := hide (Y.out.below b1)
  have H1 := hide (H0.out.below (b1.mono (Nat.le_trans hB BL.out.size)))
  replace BL := hide (BL.out.trans (b1.mono BL.out.size))
  clear b1 Y C H0
  obtain ⟨⟨-, k0, k1⟩, f0, f1⟩ := Y1.out
  clear Y1
  go_wp2_with fail
  exact bodyPost_ret (v := .tuple #[.agg #[.int .i64 0, .int .i64 0], .bool false]) (by simp [results, Try.results15, go_sem, k0, k1]) rfl
    ⟨rfl, (BL.out.setCell (Nat.le_refl _) _).setCell (Nat.le_refl _) _⟩
set_option maxHeartbeats 4000000 in
theorem iCal_yes (B : Nat) (a : Option Addr) (r cap : Nat) (S : Nat → Int) (w : World) (hB : B ≤ w.heap.size) (h : Ints B w a r S) (hr : (r : Int) ≤ 1048576) (g1 : ¬ r = 0) (g2 : ¬ 4096 < (r : Int)) (g : ib (-1099511627776) 1099511627776 r S = true) (mi M lo hi U st z : Int)
    (hmi : m1 S (r - 1) = mi) (hM : M1 S (r - 1) = M) (elo : lo = if 0 < mi then 0 else mi) (ehi : hi = if M < 0 then 0 else M) (mi0 : -1099511627776 ≤ mi) (mi1 : mi ≤ 1099511627776) (M0 : -1099511627776 ≤ M) (M1 : M ≤ 1099511627776) (U0 : 0 ≤ U) (U1 : U ≤ 2199023255806) (est : st = if U < 1 then 1 else U)
    (hR : ∀ n w, n = hi - lo → Calls Try.prog 38 #[.int .i64 n, .int .i64 255] w fun e w' => e = .returned (.int .i64 U) ∧ Below w.heap.size w w')
    (hN : ∀ n d w, n = -lo → d = st → Calls Try.prog 32 #[.int .i64 n, .int .i64 d] w fun e w' => e = .returned (.int .i64 z) ∧ Below w.heap.size w w') :
    Calls Try.prog 15 #[.slice a r cap] w fun e w' => e = .returned (.tuple #[.agg #[.int .i64 st, .int .i64 z], .bool true]) ∧ Below w.heap.size w w' := by
  obtain ⟨W0, hW0⟩ : ∃ W0, w.alloc (.cells #[.int .i64 0, .int .i64 0] 25) = W0 := ⟨_, rfl⟩
  have b0 : Below w.heap.size w W0 := hW0 ▸ (Below.refl _ _).alloc (Nat.le_refl _) _
  have y0 : BoxW W0 w.heap.size 0 0 := hW0 ▸ boxW_new _ _ _ _
  have C := hide (areRealsF B a r cap S W0 (Nat.le_trans hB b0.size) (h.below (b0.mono hB)) hr)
  rw [g] at C
  have H0 := hide (h.below (b0.mono hB))
  have BL := hide b0
  have Y := hide y0
  clear b0 y0 h
  have g3 : decide ((r : Int) = 0) = false := decide_eq_false (by omega)
  have g4 : decide (4096 < (r : Int)) = false := decide_eq_false g2
  have EMI := hide hmi
  have EM := hide hM
  have ELO := hide elo
  have EHI := hide ehi
  have EST := hide est
  have HR := hide hR
  have HN := hide hN
  clear g g2 hmi hM elo ehi est hR hN
  go_enter Try.func15, Try.ntmps15
  go_wp2_with fail
  refine C.out.mono ?_; rintro e1 w1 ⟨rfl, b1⟩
  have Y1 := hide (Y.out.below b1)
  have H1 := hide (H0.out.below (b1.mono (Nat.le_trans hB BL.out.size)))
  replace BL := hide (BL.out.trans (b1.mono BL.out.size))
  clear b1 Y C H0
  have CM := hide (minF B a r cap S w1 H1.out (by omega) hr)
  have CX := hide (maxF B a r cap S w1 H1.out (by omega) hr)
  rw [EMI.out] at CM
  rw [EM.out] at CX
  clear H1 EMI EM g3 g4
  go_wp2_with fail
  refine CM.out.mono ?_; rintro e1 w2 ⟨rfl, rfl⟩
  by_cases c1 : 0 < mi
  · skip
    by_cases c2 : M < 0
    · skip
      by_cases c3 : U < 1
      · skip
        have EL := hide (show lo = 0 by rw [ELO.out, if_pos c1])
        have EH := hide (show hi = 0 by rw [EHI.out, if_pos c2])
        have ES := hide (show st = 1 by rw [EST.out, if_pos c3])
        clear ELO EHI EST
        go_wp2_with fail
        refine CX.out.mono ?_; rintro e1 w3 ⟨rfl, rfl⟩
        go_wp2_with fail
        refine (HR.out _ _ (by have := EL.out; have := EH.out; omega)).mono ?_; rintro e1 w4 ⟨rfl, b4⟩
        have Y4 := hide (Y1.out.below b4)
        have BL4 := hide (BL.out.trans (b4.mono BL.out.size))
        clear b4 Y1
        go_wp2_with fail
        refine (HN.out _ _ _ (by have := EL.out; omega) (by have := ES.out; omega)).mono ?_; rintro e1 w5 ⟨rfl, b5⟩
        obtain ⟨⟨-, k0, k1⟩, f0, f1⟩ := Y4.out.below b5
        have BL5 := hide (BL4.out.trans (b5.mono BL4.out.size))
        clear b5 Y4
        go_wp2_with fail
        exact bodyPost_ret (v := .tuple #[.agg #[.int .i64 1, .int .i64 z], .bool true]) (by simp [results, Try.results15, go_sem, k0, k1]) rfl
          ⟨by rw [ES.out], (BL5.out.setCell (Nat.le_refl _) _).setCell (Nat.le_refl _) _⟩
      · skip
        have EL := hide (show lo = 0 by rw [ELO.out, if_pos c1])
        have EH := hide (show hi = 0 by rw [EHI.out, if_pos c2])
        have ES := hide (show st = U by rw [EST.out, if_neg c3])
        clear ELO EHI EST
        go_wp2_with fail
        refine CX.out.mono ?_; rintro e1 w3 ⟨rfl, rfl⟩
        go_wp2_with fail
        refine (HR.out _ _ (by have := EL.out; have := EH.out; omega)).mono ?_; rintro e1 w4 ⟨rfl, b4⟩
        have Y4 := hide (Y1.out.below b4)
        have BL4 := hide (BL.out.trans (b4.mono BL.out.size))
        clear b4 Y1
        go_wp2_with fail
        refine (HN.out _ _ _ (by have := EL.out; omega) (by have := ES.out; omega)).mono ?_; rintro e1 w5 ⟨rfl, b5⟩
        obtain ⟨⟨-, k0, k1⟩, f0, f1⟩ := Y4.out.below b5
        have BL5 := hide (BL4.out.trans (b5.mono BL4.out.size))
        clear b5 Y4
        go_wp2_with fail
        exact bodyPost_ret (v := .tuple #[.agg #[.int .i64 U, .int .i64 z], .bool true]) (by simp [results, Try.results15, go_sem, k0, k1]) rfl
          ⟨by rw [ES.out], (BL5.out.setCell (Nat.le_refl _) _).setCell (Nat.le_refl _) _⟩
    · skip
      by_cases c3 : U < 1
      · skip
        have EL := hide (show lo = 0 by rw [ELO.out, if_pos c1])
        have EH := hide (show hi = M by rw [EHI.out, if_neg c2])
        have ES := hide (show st = 1 by rw [EST.out, if_pos c3])
        clear ELO EHI EST
        go_wp2_with fail
        refine CX.out.mono ?_; rintro e1 w3 ⟨rfl, rfl⟩
        go_wp2_with fail
        refine (HR.out _ _ (by have := EL.out; have := EH.out; omega)).mono ?_; rintro e1 w4 ⟨rfl, b4⟩
        have Y4 := hide (Y1.out.below b4)
        have BL4 := hide (BL.out.trans (b4.mono BL.out.size))
        clear b4 Y1
        go_wp2_with fail
        refine (HN.out _ _ _ (by have := EL.out; omega) (by have := ES.out; omega)).mono ?_; rintro e1 w5 ⟨rfl, b5⟩
        obtain ⟨⟨-, k0, k1⟩, f0, f1⟩ := Y4.out.below b5
        have BL5 := hide (BL4.out.trans (b5.mono BL4.out.size))
        clear b5 Y4
        go_wp2_with fail
        exact bodyPost_ret (v := .tuple #[.agg #[.int .i64 1, .int .i64 z], .bool true]) (by simp [results, Try.results15, go_sem, k0, k1]) rfl
          ⟨by rw [ES.out], (BL5.out.setCell (Nat.le_refl _) _).setCell (Nat.le_refl _) _⟩
      · skip
        have EL := hide (show lo = 0 by rw [ELO.out, if_pos c1])
        have EH := hide (show hi = M by rw [EHI.out, if_neg c2])
        have ES := hide (show st = U by rw [EST.out, if_neg c3])
        clear ELO EHI EST
        go_wp2_with fail
        refine CX.out.mono ?_; rintro e1 w3 ⟨rfl, rfl⟩
        go_wp2_with fail
        refine (HR.out _ _ (by have := EL.out; have := EH.out; omega)).mono ?_; rintro e1 w4 ⟨rfl, b4⟩
        have Y4 := hide (Y1.out.below b4)
        have BL4 := hide (BL.out.trans (b4.mono BL.out.size))
        clear b4 Y1
        go_wp2_with fail
        refine (HN.out _ _ _ (by have := EL.out; omega) (by have := ES.out; omega)).mono ?_; rintro e1 w5 ⟨rfl, b5⟩
        obtain ⟨⟨-, k0, k1⟩, f0, f1⟩ := Y4.out.below b5
        have BL5 := hide (BL4.out.trans (b5.mono BL4.out.size))
        clear b5 Y4
        go_wp2_with fail
        exact bodyPost_ret (v := .tuple #[.agg #[.int .i64 U, .int .i64 z], .bool true]) (by simp [results, Try.results15, go_sem, k0, k1]) rfl
          ⟨by rw [ES.out], (BL5.out.setCell (Nat.le_refl _) _).setCell (Nat.le_refl _) _⟩
  · skip
    by_cases c2 : M < 0
    · skip
      by_cases c3 : U < 1
      · skip
        have EL := hide (show lo = mi by rw [ELO.out, if_neg c1])
        have EH := hide (show hi = 0 by rw [EHI.out, if_pos c2])
        have ES := hide (show st = 1 by rw [EST.out, if_pos c3])
        clear ELO EHI EST
        go_wp2_with fail
        refine CX.out.mono ?_; rintro e1 w3 ⟨rfl, rfl⟩
        go_wp2_with fail
        refine (HR.out _ _ (by have := EL.out; have := EH.out; omega)).mono ?_; rintro e1 w4 ⟨rfl, b4⟩
        have Y4 := hide (Y1.out.below b4)
        have BL4 := hide (BL.out.trans (b4.mono BL.out.size))
        clear b4 Y1
        go_wp2_with fail
        refine (HN.out _ _ _ (by have := EL.out; omega) (by have := ES.out; omega)).mono ?_; rintro e1 w5 ⟨rfl, b5⟩
        obtain ⟨⟨-, k0, k1⟩, f0, f1⟩ := Y4.out.below b5
        have BL5 := hide (BL4.out.trans (b5.mono BL4.out.size))
        clear b5 Y4
        go_wp2_with fail
        exact bodyPost_ret (v := .tuple #[.agg #[.int .i64 1, .int .i64 z], .bool true]) (by simp [results, Try.results15, go_sem, k0, k1]) rfl
          ⟨by rw [ES.out], (BL5.out.setCell (Nat.le_refl _) _).setCell (Nat.le_refl _) _⟩
      · skip
        have EL := hide (show lo = mi by rw [ELO.out, if_neg c1])
        have EH := hide (show hi = 0 by rw [EHI.out, if_pos c2])
        have ES := hide (show st = U by rw [EST.out, if_neg c3])
        clear ELO EHI EST
        go_wp2_with fail
        refine CX.out.mono ?_; rintro e1 w3 ⟨rfl, rfl⟩
        go_wp2_with fail
        refine (HR.out _ _ (by have := EL.out; have := EH.out; omega)).mono ?_; rintro e1 w4 ⟨rfl, b4⟩
        have Y4 := hide (Y1.out.below b4)
        have BL4 := hide (BL.out.trans (b4.mono BL.out.size))
        clear b4 Y1
        go_wp2_with fail
        refine (HN.out _ _ _ (by have := EL.out; omega) (by have := ES.out; omega)).mono ?_; rintro e1 w5 ⟨rfl, b5⟩
        obtain ⟨⟨-, k0, k1⟩, f0, f1⟩ := Y4.out.below b5
        have BL5 := hide (BL4.out.trans (b5.mono BL4.out.size))
        clear b5 Y4
        go_wp2_with fail
        exact bodyPost_ret (v := .tuple #[.agg #[.int .i64 U, .int .i64 z], .bool true]) (by simp [results, Try.results15, go_sem, k0, k1]) rfl
          ⟨by rw [ES.out], (BL5.out.setCell (Nat.le_refl _) _).setCell (Nat.le_refl _) _⟩
    · skip
      by_cases c3 : U < 1
      · skip
        have EL := hide (show lo = mi by rw [ELO.out, if_neg c1])
        have EH := hide (show hi = M by rw [EHI.out, if_neg c2])
        have ES := hide (show st = 1 by rw [EST.out, if_pos c3])
        clear ELO EHI EST
        go_wp2_with fail
        refine CX.out.mono ?_; rintro e1 w3 ⟨rfl, rfl⟩
        go_wp2_with fail
        refine (HR.out _ _ (by have := EL.out; have := EH.out; omega)).mono ?_; rintro e1 w4 ⟨rfl, b4⟩
        have Y4 := hide (Y1.out.below b4)
        have BL4 := hide (BL.out.trans (b4.mono BL.out.size))
        clear b4 Y1
        go_wp2_with fail
        refine (HN.out _ _ _ (by have := EL.out; omega) (by have := ES.out; omega)).mono ?_; rintro e1 w5 ⟨rfl, b5⟩
        obtain ⟨⟨-, k0, k1⟩, f0, f1⟩ := Y4.out.below b5
        have BL5 := hide (BL4.out.trans (b5.mono BL4.out.size))
        clear b5 Y4
        go_wp2_with fail
        exact bodyPost_ret (v := .tuple #[.agg #[.int .i64 1, .int .i64 z], .bool true]) (by simp [results, Try.results15, go_sem, k0, k1]) rfl
          ⟨by rw [ES.out], (BL5.out.setCell (Nat.le_refl _) _).setCell (Nat.le_refl _) _⟩
      · skip
        have EL := hide (show lo = mi by rw [ELO.out, if_neg c1])
        have EH := hide (show hi = M by rw [EHI.out, if_neg c2])
        have ES := hide (show st = U by rw [EST.out, if_neg c3])
        clear ELO EHI EST
        go_wp2_with fail
        refine CX.out.mono ?_; rintro e1 w3 ⟨rfl, rfl⟩
        go_wp2_with fail
        refine (HR.out _ _ (by have := EL.out; have := EH.out; omega)).mono ?_; rintro e1 w4 ⟨rfl, b4⟩
        have Y4 := hide (Y1.out.below b4)
        have BL4 := hide (BL.out.trans (b4.mono BL.out.size))
        clear b4 Y1
        go_wp2_with fail
        refine (HN.out _ _ _ (by have := EL.out; omega) (by have := ES.out; omega)).mono ?_; rintro e1 w5 ⟨rfl, b5⟩
        obtain ⟨⟨-, k0, k1⟩, f0, f1⟩ := Y4.out.below b5
        have BL5 := hide (BL4.out.trans (b5.mono BL4.out.size))
        clear b5 Y4
        go_wp2_with fail
        exact bodyPost_ret (v := .tuple #[.agg #[.int .i64 U, .int .i64 z], .bool true]) (by simp [results, Try.results15, go_sem, k0, k1]) rfl
          ⟨by rw [ES.out], (BL5.out.setCell (Nat.le_refl _) _).setCell (Nat.le_refl _) _⟩
/-- a list's scale: both sides answer the same -/
theorem calBoth (r : Nat) (S : Nat → Int) (hr : (r : Int) ≤ 1048576) : ∃ (s z : Int) (b : Bool),
    (∀ (B : Nat) (a : Option Addr) (cap : Nat) (w : World), B ≤ w.heap.size → Ints B w a r S → Calls Try.prog 21 #[.slice a r cap] w fun e w' => e = .returned (.tuple #[.agg #[.int .i64 s, .int .i64 z], .bool b]) ∧ Below w.heap.size w w') ∧
    (∀ (B : Nat) (a : Option Addr) (cap : Nat) (w : World), B ≤ w.heap.size → Ints B w a r S → Calls Try.prog 15 #[.slice a r cap] w fun e w' => e = .returned (.tuple #[.agg #[.int .i64 s, .int .i64 z], .bool b]) ∧ Below w.heap.size w w') := by
  by_cases g1 : r = 0
  · subst g1
    have g : rls 0 S = false := by unfold rls; rw [decide_eq_false (p := 0 < ((0 : Nat) : Int) ∧ ((0 : Nat) : Int) ≤ 4096) (by omega), Bool.and_false]
    exact ⟨0, 0, false, fun B a cap w hB h => sCal_no B a 0 cap S w hB h hr g, fun B a cap w hB h => iCal_no1 a cap w⟩
  by_cases g2 : 4096 < (r : Int)
  · have g : rls r S = false := by unfold rls; rw [decide_eq_false (p := 0 < (r : Int) ∧ (r : Int) ≤ 4096) (by omega), Bool.and_false]
    exact ⟨0, 0, false, fun B a cap w hB h => sCal_no B a r cap S w hB h hr g, fun B a cap w hB h => iCal_no2 B a r cap S w hB h hr g1 g2⟩
  cases g3 : ib (-1099511627776) 1099511627776 r S
  · have g : rls r S = false := by unfold rls; rw [g3, Bool.false_and]
    exact ⟨0, 0, false, fun B a cap w hB h => sCal_no B a r cap S w hB h hr g, fun B a cap w hB h => iCal_no3 B a r cap S w hB h hr g1 g2 g3⟩
  have g : rls r S = true := by unfold rls; rw [g3, decide_eq_true (p := 0 < (r : Int) ∧ (r : Int) ≤ 4096) (by omega)]; rfl
  have hall := of_decide_eq_true g3
  obtain ⟨k, rfl⟩ : ∃ k, r = k + 1 := ⟨r - 1, by omega⟩
  obtain ⟨l0, l1⟩ := mn_bd (K := 1099511627776) (by decide) (k + 1) hall
  obtain ⟨h0, h1⟩ := mx_bd (K := 1099511627776) (by decide) (k + 1) hall
  obtain ⟨⟨mi0, mi1⟩, M0, M1'⟩ := m1_bd (K := 1099511627776) k hall
  obtain ⟨c0, c1⟩ := cst_bd (d := mxP S (k + 1) - mnP S (k + 1)) (by omega) (by omega)
  obtain ⟨z, -, -, hS, hI⟩ := nearB (-mnP S (k + 1)) (cst (mxP S (k + 1) - mnP S (k + 1))) 1099511627776 (by omega) (by omega) (by decide) c0 (by omega)
  refine ⟨_, z, true, fun B a cap w hB h => sCal_yes B a (k + 1) cap S w hB h hr g z hS, fun B a cap w hB h => ?_⟩
  refine iCal_yes B a (k + 1) cap S w hB h hr g1 g2 g3 (m1 S k) (M1 S k) (mnP S (k + 1)) (mxP S (k + 1)) ((mxP S (k + 1) - mnP S (k + 1) + 254).tdiv 255) _ z rfl rfl (mn_is S k).symm (mx_is S k).symm mi0 mi1 M0 M1' (Int.tdiv_nonneg (by omega) (by omega)) ?_ rfl (fun n w e => ?_) (fun n d w e1 e2 => ?_)
  · have := tdiv_abs (mxP S (k + 1) - mnP S (k + 1) + 254) 255
    omega
  · subst e
    have := roundedUpF (mxP S (k + 1) - mnP S (k + 1)) 255 w (by omega) (by omega) (by decide) (by decide)
    rwa [show mxP S (k + 1) - mnP S (k + 1) + 255 - 1 = mxP S (k + 1) - mnP S (k + 1) + 254 by omega] at this
  · subst e1 e2
    exact hI w
end Vo
end Go.Proofs.Ytabjpemneimljaa
