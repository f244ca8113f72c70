/- ToFrac on both sides: every denominator in turn, and Euclid's steps: each answers the one that must be answered. -/
import Derived.Test.YtbbmbgjjhaajjaaGreatDoorFrac
import Derived.Test.YtbbmbgjjhaajjaaGreatDoorRec
namespace Go.Proofs.YtbbmbgjjhaajjaaGreatDoor
namespace Base
open Go.ChangeShapes Go.WideShapes Go.ChangeAt Go.RowKit
set_option linter.unusedVariables false

/-- how a call of ToFrac at the remainder x ends -/
def Fracs (x : Int) (w : World) (e : Ending) (w' : World) : Prop :=
  ∃ n d b, e = .returned (.tuple #[.agg #[.int .i64 n, .int .i64 d], .bool b]) ∧ Rec.Ans x n d b ∧ Below w.heap.size w w'

set_option maxHeartbeats 1000000 in
theorem specToFrac (a : Int) (w : World) (a0 : -9223372036854775808 ≤ a) (a1 : a ≤ 9223372036854775807) :
    Calls Tryz.prog 67 #[.int .i64 a] w fun e w' => Fracs (a % 2147483647) w e w' := by
  have x0 : 0 ≤ a % 2147483647 := by omega
  have x1 : a % 2147483647 < 2147483647 := by omega
  go_enter Tryz.func67, Tryz.ntmps67
  go_wp2_with fail
  refine (specMod _ _ a0 a1).mono ?_; rintro e w1 ⟨rfl, rfl⟩
  go_wp2_with fail
  go_loop [5, 6] (fun y d => ∃ y' k : Int, 1 ≤ k ∧ k ≤ 32768 ∧ 0 ≤ y' ∧ y' < 2147483647 ∧ y = .int .i64 y' ∧ d = .int .i64 k ∧ Hid (y' = (k - 1) * (a % 2147483647) % 2147483647) ∧ Hid (Rec.Clear (a % 2147483647) k)) (fun _ d => (32768 - intOf d).toNat)
  case atStart => exact ⟨0, 1, by omega, by omega, by omega, by omega, rfl, rfl, by show _ = _; simp, Rec.clear_one _⟩
  case round =>
    obtain ⟨y, k, k0, k1, y0, y1, rfl, rfl, hy, hc⟩ := hrel
    by_cases hk : k ≤ 32767
    · have hn := hide (Rec.next_mul x0 x1 hy.out)
      by_cases c1 : 2147483647 ≤ y + a % 2147483647
      · have hz : Hid (k * (a % 2147483647) % 2147483647 = y + a % 2147483647 - 2147483647) := by show _ = _; rw [hn.out, if_pos c1]
        clear hn hy
        by_cases c2 : 1073741823 < y + a % 2147483647 - 2147483647
        · by_cases c3 : -32767 ≤ y + a % 2147483647 - 2147483647 - 2147483647
          · have c4 : y + a % 2147483647 - 2147483647 - 2147483647 ≤ 32767 := by omega
            go_wp2_with fail
            exact bodyPost_ret (v := .tuple #[.agg #[.int .i64 (y + a % 2147483647 - 2147483647 - 2147483647), .int .i64 k], .bool true]) (by simp [results, Tryz.results67, go_sem]) rfl
              ⟨_, _, _, rfl, Rec.try_hit hc k0 hk c3 c4 (by rw [hz.out]; omega), (Below.refl _ _).alloc (Nat.le_refl _) _⟩
          · have c5 : decide (-32767 ≤ y + a % 2147483647 - 2147483647 - 2147483647) = false := by rw [decide_eq_false_iff_not]; exact c3
            have hc' := hide (Rec.try_miss hc.out (by rw [hz.out]; omega))
            go_wp2_with fail
            go_round
            case rel => exact ⟨_, k + 1, by omega, by omega, by omega, by omega, rfl, rfl, by show _ = _; rw [Int.add_sub_cancel, hz.out], hc'⟩
            case measure => simp [intOf]; omega
        · by_cases c3 : y + a % 2147483647 - 2147483647 ≤ 32767
          · have c4 : -32767 ≤ y + a % 2147483647 - 2147483647 := by omega
            go_wp2_with fail
            exact bodyPost_ret (v := .tuple #[.agg #[.int .i64 (y + a % 2147483647 - 2147483647), .int .i64 k], .bool true]) (by simp [results, Tryz.results67, go_sem]) rfl
              ⟨_, _, _, rfl, Rec.try_hit hc k0 hk c4 c3 (by rw [hz.out]; omega), (Below.refl _ _).alloc (Nat.le_refl _) _⟩
          · have c5 : -32767 ≤ y + a % 2147483647 - 2147483647 := by omega
            have hc' := hide (Rec.try_miss hc.out (by rw [hz.out]; omega))
            go_wp2_with fail
            go_round
            case rel => exact ⟨_, k + 1, by omega, by omega, by omega, by omega, rfl, rfl, by show _ = _; rw [Int.add_sub_cancel, hz.out], hc'⟩
            case measure => simp [intOf]; omega
      · have hz : Hid (k * (a % 2147483647) % 2147483647 = y + a % 2147483647) := by show _ = _; rw [hn.out, if_neg c1]
        clear hn hy
        by_cases c2 : 1073741823 < y + a % 2147483647
        · by_cases c3 : -32767 ≤ y + a % 2147483647 - 2147483647
          · have c4 : y + a % 2147483647 - 2147483647 ≤ 32767 := by omega
            go_wp2_with fail
            exact bodyPost_ret (v := .tuple #[.agg #[.int .i64 (y + a % 2147483647 - 2147483647), .int .i64 k], .bool true]) (by simp [results, Tryz.results67, go_sem]) rfl
              ⟨_, _, _, rfl, Rec.try_hit hc k0 hk c3 c4 (by rw [hz.out]; omega), (Below.refl _ _).alloc (Nat.le_refl _) _⟩
          · have c5 : decide (-32767 ≤ y + a % 2147483647 - 2147483647) = false := by rw [decide_eq_false_iff_not]; exact c3
            have hc' := hide (Rec.try_miss hc.out (by rw [hz.out]; omega))
            go_wp2_with fail
            go_round
            case rel => exact ⟨_, k + 1, by omega, by omega, by omega, by omega, rfl, rfl, by show _ = _; rw [Int.add_sub_cancel, hz.out], hc'⟩
            case measure => simp [intOf]; omega
        · by_cases c3 : y + a % 2147483647 ≤ 32767
          · have c4 : -32767 ≤ y + a % 2147483647 := by omega
            go_wp2_with fail
            exact bodyPost_ret (v := .tuple #[.agg #[.int .i64 (y + a % 2147483647), .int .i64 k], .bool true]) (by simp [results, Tryz.results67, go_sem]) rfl
              ⟨_, _, _, rfl, Rec.try_hit hc k0 hk c4 c3 (by rw [hz.out]; omega), (Below.refl _ _).alloc (Nat.le_refl _) _⟩
          · have c5 : -32767 ≤ y + a % 2147483647 := by omega
            have hc' := hide (Rec.try_miss hc.out (by rw [hz.out]; omega))
            go_wp2_with fail
            go_round
            case rel => exact ⟨_, k + 1, by omega, by omega, by omega, by omega, rfl, rfl, by show _ = _; rw [Int.add_sub_cancel, hz.out], hc'⟩
            case measure => simp [intOf]; omega
    · obtain rfl : k = 32768 := by omega
      have hc' := hide (Rec.clear_end hc.out)
      clear hc hy
      go_wp2_with fail
      exact bodyPost_ret (v := .tuple #[.agg #[.int .i64 0, .int .i64 0], .bool false]) (by simp [results, Tryz.results67, go_sem]) rfl
        ⟨_, _, _, rfl, hc'.out, (Below.refl _ _).alloc (Nat.le_refl _) _⟩

theorem fraction (x : Int) (w : World) (x0 : 0 ≤ x) (x1 : x < 2147483647) :
    Calls Tryz.prog 80 #[.int .i64 x] w fun e w' => ∃ u0 u1 l0 l1, Rec.Row x u0 u1 l0 l1 ∧ l0 ≤ 32767 ∧ e = .returned (.agg #[.int .i64 (Rec.top l0 l1), .int .i64 (Rec.bot l1)]) ∧ Below w.heap.size w w' := by
  go_enter Tryz.func80, Tryz.ntmps80
  go_wp2_with fail
  go_loopw [14] (fun t w' => ∃ u0 u1 l0 l1 : Int, Rec.Row x u0 u1 l0 l1 ∧ w' = ((w.alloc (.cells #[.int .i64 0, .int .i64 0] 78)).alloc (.cells #[.int .i64 u0, .int .i64 u1] 112)).alloc (.cells #[.int .i64 l0, .int .i64 l1] 112)) (fun _ w' => match w'.cell? ⟨w.heap.size + 2, 0, none⟩ with | some v => (intOf v).toNat | none => 0)
  case atStart => exact ⟨2147483647, 0, x, 1, Rec.row_start x x0 x1, rfl⟩
  case round =>
    obtain ⟨u0, u1, l0, l1, hr, rfl⟩ := hrel
    by_cases hl : 32767 < l0
    · obtain ⟨s1, s2, s3, s4, s5, s6, s7, s8, s9, s10⟩ := Rec.step_bd hr hl
      have hr' := hide (Rec.row_step hr hl)
      have t1 := hr.u0lo
      have t2 := hr.u0hi
      have t3 := hr.l0hi
      have t4 := hr'.out.l0hi
      have t5 := hr'.out.l0lo
      have t5 := hide t5
      clear hr
      go_wp2
      go_end0
      go_wp2
      go_roundw
      case rel => exact ⟨l0, l1, _, _, hr'.out, rfl⟩
      case measure => simp [intOf, go_sem]; omega
    · have hl' : l0 ≤ 32767 := by omega
      have t5 := hr.l0lo
      have t6 := Rec.row_bd hr
      obtain ⟨t7, t8, _⟩ := t6
      have hrh := hide hr
      clear hr
      by_cases hs : l1 < 0
      · have e1 : Hid (-l0 = Rec.top l0 l1) := by show _ = _; unfold Rec.top; rw [if_pos hs]
        have e2 : Hid (-l1 = Rec.bot l1) := by show _ = _; unfold Rec.bot; rw [if_pos hs]
        go_wp2_with fail
        exact bodyPost_ret (v := .agg #[.int .i64 (-l0), .int .i64 (-l1)]) (by simp [results, Tryz.results80, go_sem]) rfl
          ⟨u0, u1, l0, l1, hrh.out, hl', by rw [← e1.out, ← e2.out], (((Below.refl _ _).alloc (Nat.le_refl _) _).alloc (by simp) _).alloc (by simp; omega) _⟩
      · have e1 : Hid (l0 = Rec.top l0 l1) := by show _ = _; unfold Rec.top; rw [if_neg hs]
        have e2 : Hid (l1 = Rec.bot l1) := by show _ = _; unfold Rec.bot; rw [if_neg hs]
        go_wp2_with fail
        exact bodyPost_ret (v := .agg #[.int .i64 l0, .int .i64 l1]) (by simp [results, Tryz.results80, go_sem]) rfl
          ⟨u0, u1, l0, l1, hrh.out, hl', by rw [← e1.out, ← e2.out], (((Below.refl _ _).alloc (Nat.le_refl _) _).alloc (by simp) _).alloc (by simp; omega) _⟩

theorem implToFrac (a : Int) (w : World) (a0 : -9223372036854775808 ≤ a) (a1 : a ≤ 9223372036854775807) :
    Calls Tryz.prog 57 #[.int .i64 a] w fun e w' => Fracs (a % 2147483647) w e w' := by
  go_enter Tryz.func57, Tryz.ntmps57
  go_wp2_with fail
  refine (residueOf _ _ a0 a1).mono ?_; rintro e w1 ⟨rfl, rfl⟩
  go_wp2_with fail
  refine (fraction _ _ (by omega) (by omega)).mono ?_; rintro e w2 ⟨u0, u1, l0, l1, hr, hl, rfl, b2⟩
  have s2 := b2.size
  simp at s2
  obtain ⟨g1, g2⟩ := Rec.end_Ans hr hl
  have h1 := Rec.bot_pos hr
  obtain ⟨h2, h3⟩ := Rec.top_bd hr hl
  have k0 : w2.cell? ⟨w.heap.size, 0, none⟩ = some (.int .i64 0) := by
    rw [b2.cell (p := ⟨w.heap.size, 0, none⟩) (by simp)]; simp [go_sem]
  have k1 : w2.cell? ⟨w.heap.size, 1, none⟩ = some (.int .i64 0) := by
    rw [b2.cell (p := ⟨w.heap.size, 1, none⟩) (by simp)]; simp [go_sem]
  have f0 : w2.frozen? ⟨w.heap.size, 0, none⟩ = false := by
    rw [b2.frozen (p := ⟨w.heap.size, 0, none⟩) (by simp)]; simp [go_sem]
  have f1 : w2.frozen? ⟨w.heap.size, 1, none⟩ = false := by
    rw [b2.frozen (p := ⟨w.heap.size, 1, none⟩) (by simp)]; simp [go_sem]
  have bb : Below w.heap.size w w2 := ((Below.refl _ _).alloc (Nat.le_refl _) _).trans (b2.mono (by simp))
  replace g1 := hide g1
  replace g2 := hide g2
  clear hr b2
  generalize Rec.top l0 l1 = n at *
  generalize Rec.bot l1 = d at *
  go_wp2_with fail
  refine (implFracOk _ _ _).mono ?_; rintro e w3 ⟨rfl, b3⟩
  have b4 : Below w2.heap.size w2 w3 := ((Below.refl _ _).alloc (Nat.le_refl _) _).trans (b3.mono (by simp))
  have m0 : w3.cell? ⟨w.heap.size, 0, none⟩ = some (.int .i64 0) := by
    rw [b4.cell (p := ⟨w.heap.size, 0, none⟩) s2]; exact k0
  have m1 : w3.cell? ⟨w.heap.size, 1, none⟩ = some (.int .i64 0) := by
    rw [b4.cell (p := ⟨w.heap.size, 1, none⟩) s2]; exact k1
  have f3 : w3.frozen? ⟨w.heap.size, 0, none⟩ = false := by
    rw [b4.frozen (p := ⟨w.heap.size, 0, none⟩) s2]; exact f0
  have f4 : w3.frozen? ⟨w.heap.size, 1, none⟩ = false := by
    rw [b4.frozen (p := ⟨w.heap.size, 1, none⟩) s2]; exact f1
  have m2 : w3.cell? ⟨w2.heap.size, 0, none⟩ = some (.int .i64 n) := by
    rw [b3.cell (p := ⟨w2.heap.size, 0, none⟩) (by simp)]; simp [go_sem]
  have m3 : w3.cell? ⟨w2.heap.size, 1, none⟩ = some (.int .i64 d) := by
    rw [b3.cell (p := ⟨w2.heap.size, 1, none⟩) (by simp)]; simp [go_sem]
  have bw : Below w.heap.size w w3 := bb.trans (b4.mono (by omega))
  clear k0 k1 f0 f1 b3 b4
  cases ho : okB n d
  · go_wp2_with fail
    refine bodyPost_ret (v := .tuple #[.agg #[.int .i64 0, .int .i64 0], .bool false]) (by simp [results, Tryz.results57, go_sem, m0, m1]) rfl
      ⟨0, 0, false, rfl, g2.out (fun hh => ?_), (bw.setCell (Nat.le_refl _) _).setCell (Nat.le_refl _) _⟩
    have := okB_in (n := n) (d := d) h1 hh.1 h2 h3
    rw [ho, decide_eq_false_iff_not] at this
    exact this hh.2
  · go_wp2_with fail
    refine bodyPost_ret (v := .tuple #[.agg #[.int .i64 n, .int .i64 d], .bool true]) (by simp [results, Tryz.results57, go_sem, m0, m1]) rfl
      ⟨n, d, true, rfl, g1.out ?_, (bw.setCell (Nat.le_refl _) _).setCell (Nat.le_refl _) _⟩
    unfold okB at ho; rw [decide_eq_true_eq] at ho; exact ⟨ho.2.1, ho.2.2.2.2⟩


end Base
end Go.Proofs.YtbbmbgjjhaajjaaGreatDoor
