/- Quotients of floats, the model's side: the finite ones. -/
import Derived.Test.YteoogkcjcfnniaaDoorFlW
import Derived.Test.YteoogkcjcfnniaaDoorTwo
namespace Go.Proofs.YteoogkcjcfnniaaDoor
namespace FlV
open Go.ChangeShapes Go.WideShapes Go.ChangeAt Go.RowKit Go.Joins
open Flo (hide ret_int ret_bool)
set_option linter.unusedVariables false

/-- two structures on the model's side, in the world behind the walk so far -/
structure Laid2 (w wx : World) (P Q : Nat) (m e m2 e2 : Int) : Prop where
  ne : P ≠ Q
  c2 : wx.cell? ⟨P, 2, none⟩ = some (.int .i64 m)
  c3 : wx.cell? ⟨P, 3, none⟩ = some (.int .i64 e)
  d2 : wx.cell? ⟨Q, 2, none⟩ = some (.int .i64 m2)
  d3 : wx.cell? ⟨Q, 3, none⟩ = some (.int .i64 e2)
  f2 : wx.frozen? ⟨P, 2, none⟩ = false
  f3 : wx.frozen? ⟨P, 3, none⟩ = false
  le : w.heap.size ≤ P
  be : Below w.heap.size w wx
theorem Laid2.set {w wx : World} {P Q : Nat} {m e m2 e2 : Int} (h : Laid2 w wx P Q m e m2 e2) (m' e' : Int) : Laid2 w ((wx.setCell ⟨P, 2, none⟩ (.int .i64 m')).setCell ⟨P, 3, none⟩ (.int .i64 e')) P Q m' e' m2 e2 := by
  have n1 : (⟨P, 3, none⟩ : Addr) ≠ ⟨P, 2, none⟩ := by intro h; cases h
  have n2 : ∀ i j, (⟨P, i, none⟩ : Addr) ≠ ⟨Q, j, none⟩ := by intro i j h'; cases h'; exact h.ne rfl
  refine ⟨h.ne, ?_, ?_, ?_, ?_, ?_, ?_, h.le, ?_⟩
  · rw [World.cell?_setCell_other _ _ _ _ n1]; exact World.cell?_setCell_same _ _ _ h.c2
  · exact World.cell?_setCell_same _ _ _ (u := .int .i64 e) (by rw [World.cell?_setCell_other _ _ _ _ n1.symm]; exact h.c3)
  · rw [World.cell?_setCell_other _ _ _ _ (n2 3 2), World.cell?_setCell_other _ _ _ _ (n2 2 2)]; exact h.d2
  · rw [World.cell?_setCell_other _ _ _ _ (n2 3 3), World.cell?_setCell_other _ _ _ _ (n2 2 3)]; exact h.d3
  · rw [World.frozen?_setCell, World.frozen?_setCell]; exact h.f2
  · rw [World.frozen?_setCell, World.frozen?_setCell]; exact h.f3
  · exact (h.be.setCell h.le _).setCell h.le _

/-- what stands in a cell, as a number -/
def cellInt (w : World) (P i : Nat) : Int := match w.cell? ⟨P, i, none⟩ with | some v => intOf v | none => 0
theorem cellInt_eq {w : World} {P i : Nat} {x : Int} (h : w.cell? ⟨P, i, none⟩ = some (.int .i64 x)) : cellInt w P i = x := by unfold cellInt; rw [h]; rfl
set_option maxHeartbeats 2000000 in
theorem specDivFin (a b m e m2 e2 mT E n q r : Int) (T : Nat) (s1 s2 : Int) (neg st : Bool) (w : World)
    (oA : ∀ w, Calls Tryd.prog 28 #[.int .i64 a] w fun e' w' => e' = .returned (.agg #[.int .i64 0, .bool (s1 == 1), .int .i64 m, .int .i64 e]) ∧ Below w.heap.size w w')
    (oB : ∀ w, Calls Tryd.prog 28 #[.int .i64 b] w fun e' w' => e' = .returned (.agg #[.int .i64 0, .bool (s2 == 1), .int .i64 m2, .int .i64 e2]) ∧ Below w.heap.size w w')
    (hneg : (!(s1 == 1) == (s2 == 1)) = neg) (h2 : (m2 == 0) = false) (h20 : 1 ≤ m2) (h21 : m2 < 16777216) (e0 : -1000 ≤ e) (e1 : e ≤ 1000) (e20 : -1000 ≤ e2) (e21 : e2 ≤ 1000) (hT : (T : Int) ≤ 64)
    (hm : ∀ t : Nat, t < T → 0 < m * 2 ^ t ∧ m * 2 ^ t < 8388608) (hmT : m * 2 ^ T = mT) (hT2 : mT = 0 ∨ 8388608 ≤ mT) (hT0 : 0 ≤ mT) (hT3 : mT < 16777216) (hn : mT * 137438953472 = n) (hq : wrap64 (n.tdiv m2) = q) (hst : (n % m2 != 0) = st)
    (hE : e - T - 37 - e2 = E) (hP : ∀ w : World, Calls Tryd.prog 30 #[.bool neg, .int .i64 q, .int .i64 E, .bool st] w fun e w' => e = .returned (.int .i64 r) ∧ w' = w) :
    Calls Tryd.prog 19 #[.int .i64 a, .int .i64 b] w fun e w' => e = .returned (.int .i64 r) ∧ Below w.heap.size w w' := by
  have OA := hide oA
  have OB := hide oB
  have HP := hide hP
  have HM := hide hm
  clear oA oB hP hm
  cases hz : (m == 0)
  all_goals
    go_enter Tryd.func19, Tryd.ntmps19
    go_wp2_with fail
    refine (OA.out _).mono ?_; rintro e' w1 ⟨rfl, b1⟩
    go_wp2_with fail
    refine (OB.out _).mono ?_; rintro e' w2 ⟨rfl, b2⟩
    have s2' := b2.size
    rw [World.size_alloc] at s2'
    refine keep_then b2 w1.heap.size (by simp) ?_; intro g1 g2 g3 g4 g5 g6
    have hL : Laid2 w (w2.alloc (.cells #[.int .i64 0, .bool (s2 == 1), .int .i64 m2, .int .i64 e2] 42)) w1.heap.size w2.heap.size m e m2 e2 := by
      have h1 : Below w.heap.size w (w1.alloc (.cells #[.int .i64 0, .bool (s1 == 1), .int .i64 m, .int .i64 e] 42)) := b1.alloc b1.size _
      have h2 : Below w.heap.size w w2 := h1.trans (b2.mono h1.size)
      exact ⟨by omega, by rw [g3]; simp [go_sem], by rw [g3]; simp [go_sem], by simp [go_sem], by simp [go_sem], by rw [g4]; simp [go_sem], by rw [g4]; simp [go_sem], b1.size, h2.alloc h2.size _⟩
    have HL := hide hL
    clear hL
    go_wp2_with fail
    generalize (w2.alloc (.cells #[.int .i64 0, .bool (s2 == 1), .int .i64 m2, .int .i64 e2] 42)) = W at *
    generalize w1.heap.size = P at *
    generalize w2.heap.size = Q at *
    clear g1 g2 g3 g4 g5 g6 b1 b2 s2'
    go_loopw [] (fun wx => ∃ t : Nat, t ≤ T ∧ Laid2 w wx P Q (m * 2 ^ t) (e - (t : Int)) m2 e2) (fun wx => (cellInt wx P 3 + 100000).toNat)
    case atStart => exact ⟨0, by omega, by simpa using HL.out⟩
    case round =>
      obtain ⟨t, ht, hl⟩ := hrel
      have c2 := hl.c2
      have c3 := hl.c3
      have d2 := hl.d2
      have d3 := hl.d3
      have f2 := hl.f2
      have f3 := hl.f3
      have ne := hl.ne
      have mz := cellInt_eq c3
      by_cases hlt : t < T
      · obtain ⟨p0, p1⟩ := HM.out t hlt
        have hs : Hid (m * 2 ^ t * 2 = m * 2 ^ (t + 1)) := by show _ = _; rw [Int.pow_succ, Int.mul_assoc]
        have ht1 : (t : Int) < 64 := by omega
        have HLL := hide hl
        have c2' : ∀ v, (wr.setCell ⟨P, 2, none⟩ v).cell? ⟨P, 3, none⟩ = some (.int .i64 (e - (t : Int))) := fun v => by
          rw [World.cell?_setCell_other _ _ _ _ (by intro h; cases h)]; exact c3
        clear hl HL HM HP d2 d3
        generalize m * 2 ^ t = y at *
        go_wp2_with fail
        go_roundw
        case rel => exact ⟨t + 1, by omega, by rw [← hs.out]; have := HLL.out.set (y * 2) (e - (t : Int) - 1); rw [show e - ((t + 1 : Nat) : Int) = e - (t : Int) - 1 by omega]; exact this⟩
        case measure =>
          rw [cellInt_eq (HLL.out.set (y * 2) (e - (t : Int) - 1)).c3, mz]; omega
      · obtain rfl : t = T := by omega
        rw [hmT] at c2
        have tb : (decide (0 < mT) && decide (mT < 8388608)) = false := by
          rcases hT2 with rfl | h
          · rfl
          · rw [decide_eq_false (by omega : ¬ mT < 8388608)]; simp
        have hbe := hl.be
        have nb : n ≤ 2305843009213693952 := by omega
        have n0 : 0 ≤ n := by omega
        clear hl HL HM mz f2 f3
        have hq2 : IntKind.i64.wrap (n.tdiv m2) = q := by rw [← hq]; simp [IntKind.wrap_i64, wrap64]
        obtain ⟨E1, hE1⟩ : ∃ E1 : Int, e - (t : Int) - 37 = E1 := ⟨_, rfl⟩
        have hE1' : IntKind.i64.wrap (e - (t : Int) - 37) = E1 := by rw [IntKind.wrap_i64]; omega
        have hE2 : IntKind.i64.wrap (E1 - e2) = E := by rw [IntKind.wrap_i64]; omega
        have hE3 : E1 - e2 = E := by omega
        rcases hT2 with h0 | h8
        · have t1 : decide (0 < mT) = false := decide_eq_false (by omega)
          clear h0 tb hE
          go_wp2_with fail
          go_quiet (first | (go_at_call 30; exact Calls.quiet_of_same (HP.out _)))
          go_wp2_with fail
          go_ret
          exact ⟨rfl, hbe.trans (below_draws _ _ _)⟩
        · have t1 : decide (mT < 8388608) = false := decide_eq_false (by omega)
          have t2 : decide (0 < mT) = true := decide_eq_true (by omega)
          clear h8 tb hE
          go_wp2_with fail
          go_quiet (first | (go_at_call 30; exact Calls.quiet_of_same (HP.out _)))
          go_wp2_with fail
          go_ret
          exact ⟨rfl, hbe.trans (below_draws _ _ _)⟩

end FlV
end Go.Proofs.YteoogkcjcfnniaaDoor
