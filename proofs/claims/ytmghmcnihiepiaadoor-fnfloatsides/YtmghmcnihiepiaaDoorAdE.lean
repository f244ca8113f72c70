/- Sums of floats, the model's side. -/
import Derived.Test.YtmghmcnihiepiaaDoorTwo
import Derived.Test.YtmghmcnihiepiaaDoorFlM
import Derived.Lib.SmallJoins
import Derived.Deep.DeepCutAuto
namespace Go.Proofs.YtmghmcnihiepiaaDoor
namespace FlV
open Go.ChangeShapes Go.WideShapes Go.ChangeAt Go.RowKit Go.Joins
open Flo (hide ret_int ret_bool)
set_option linter.unusedVariables false
set_option linter.unusedSimpArgs false
set_option maxRecDepth 100000 in
set_option maxHeartbeats 4000000 in
theorem specAddFarA (a b : Int) (np nq nb mo : Bool) (ep eq : Int) (mp mq J : Nat) (kk M E r : Int) (w : World)
    (oA : ∀ w, Calls Tryd.prog 34 #[.int .i64 a] w fun e w' => e = .returned (.agg #[.int .i64 0, .bool nq, .int .i64 mq, .int .i64 eq]) ∧ Below w.heap.size w w')
    (oB : ∀ w, Calls Tryd.prog 34 #[.int .i64 b] w fun e w' => e = .returned (.agg #[.int .i64 0, .bool np, .int .i64 mp, .int .i64 ep]) ∧ Below w.heap.size w w')
    (x1 : -149 ≤ ep) (x2 : ep ≤ 104) (x3 : -149 ≤ eq) (x4 : eq ≤ 104) (y1 : (mp : Int) < 16777216) (y2 : (mq : Int) < 16777216)
    (hE : ep - 30 = E)
    (hP : ∀ w, Calls Tryd.prog 36 #[.bool nb, .int .i64 M, .int .i64 E, .bool mo] w fun e w' => e = .returned (.int .i64 r) ∧ w' = w)
    (hc1 : eq < ep)
    (hd : (J : Int) + 30 = ep - eq) (hJ : 1 ≤ J) (hkk : ((mq / 2 ^ J : Nat) : Int) = kk) (hmo : Flo.lost mq J false = mo) (yb : 8388608 ≤ (mp : Int)) (kk1 : kk < 16777216)
    (hf : ((np == nq) = true ∧ nb = np ∧ (mp : Int) * 1073741824 + kk = M) ∨ ((np == nq) = false ∧ nb = np ∧ mo = true ∧ (mp : Int) * 1073741824 - kk - 1 = M) ∨ ((np == nq) = false ∧ nb = np ∧ mo = false ∧ (mp : Int) * 1073741824 - kk = M)) :
    Calls Tryd.prog 19 #[.int .i64 a, .int .i64 b] w fun e w' => e = .returned (.int .i64 r) ∧ Below w.heap.size w w' := by
  have OA := hide oA
  have OB := hide oB
  have HP := hide hP
  have m1 := Flo.mask1
  have m10 : (0 : Int) ≤ (mp : Int) := Int.natCast_nonneg _
  have m20 : (0 : Int) ≤ (mq : Int) := Int.natCast_nonneg _
  have z0 := hide (Flo.lost_zero mq false)
  have J0 : (1 : Int) ≤ (J : Int) := by omega
  have hd30 : decide (ep - eq ≤ 30) = false := decide_eq_false (by omega)
  clear oA oB hP
  have c1 : decide (eq < ep) = true := decide_eq_true hc1
  rcases hf with ⟨hs, hnb, hM⟩ | ⟨hs, hnb, rfl, hM⟩ | ⟨hs, hnb, rfl, hM⟩
  · rw [hnb] at HP
    clear hnb
    go_enter Tryd.func19, Tryd.ntmps19
    go_wp2_with fail
    refine (OA.out _).mono ?_; rintro e w1 ⟨rfl, b1⟩
    go_wp2_with fail
    refine (OB.out _).mono ?_; rintro e w2 ⟨rfl, b2⟩
    have sz := b2.size
    have sz1 := b1.size
    rw [World.size_alloc] at sz
    refine keep_then b2 w1.heap.size (by simp) ?_; intro g1 g2 g3 g4 g5 g6
    refine ne_then w1.heap.size w2.heap.size (by omega) ?_; intro n00 n00'
    refine ne_then w1.heap.size (w2.heap.size + 1) (by omega) ?_; intro n01 n01'
    go_upto_if 72 with fail
    go_cut [] (fun wx => wx.cell? ⟨w1.heap.size, 0, none⟩ = some (.int .i64 0) ∧ wx.cell? ⟨w1.heap.size, 1, none⟩ = some (.bool np) ∧ wx.cell? ⟨w1.heap.size, 2, none⟩ = some (.int .i64 mp) ∧ wx.cell? ⟨w1.heap.size, 3, none⟩ = some (.int .i64 ep) ∧ wx.cell? ⟨w2.heap.size, 0, none⟩ = some (.int .i64 0) ∧ wx.cell? ⟨w2.heap.size, 1, none⟩ = some (.bool nq) ∧ wx.cell? ⟨w2.heap.size, 2, none⟩ = some (.int .i64 mq) ∧ wx.cell? ⟨w2.heap.size, 3, none⟩ = some (.int .i64 eq) ∧ wx.frozen? ⟨w1.heap.size, 1, none⟩ = false ∧ Below w.heap.size w wx)
    case first =>
      go_wp2_with fail
      go_meet
      refine ⟨?_, ?_, ?_, ?_, ?_, ?_, ?_, ?_, ?_, ?_⟩
      all_goals first
        | (simp [go_sem, *]; done)
        | (repeat (first | with_reducible exact Below.refl _ _ | with_reducible apply bl_drew | with_reducible apply bl_alloc | (with_reducible apply bl_set; (focus (dsimp only; omega))) | (with_reducible apply bl_below; (focus (with_reducible assumption)))))
    case rest =>
      obtain ⟨p0, p1, p2, p3, q0, q1, q2, q3, pf, bP⟩ := hcut
      clear g1 g2 g3 g4 g5 g6 n00 n00' n01 n01' b1 b2 OA OB c1
      go_wp2_with fail
      go_loop [10, 11, 12] (fun a b i => ∃ j : Nat, j ≤ J ∧ a = .int .i64 ((mq / 2 ^ j : Nat) : Int) ∧ b = .bool (Flo.lost mq j false) ∧ i = .int .i64 ((j : Int) + 30)) (fun _ _ i => J + 30 - (intOf i).toNat)
      case atStart => exact ⟨0, by omega, by simp, by rw [z0.out], rfl⟩
      case round =>
        clear z0
        obtain ⟨j, hj, rfl, rfl, rfl⟩ := hrel
        have hle : ((mq / 2 ^ j : Nat) : Int) ≤ 4611686018427387904 := by have := Nat.div_le_self mq (2 ^ j); omega
        have h0 : (0 : Int) ≤ ((mq / 2 ^ j : Nat) : Int) := Int.natCast_nonneg _
        have hs' : Hid (((mq / 2 ^ j : Nat) : Int) / 2 = ((mq / 2 ^ (j + 1) : Nat) : Int)) := by
          show _ = _
          rw [Nat.pow_succ, ← Nat.div_div_eq_div_mul]; rfl
        have hl := hide (Flo.lost_step mq j false)
        have hb : Hid ((((mq / 2 ^ j : Nat) : Int) % 2 == 1) = decide (mq / 2 ^ j % 2 = 1)) := by
          show _ = _
          rw [Bool.eq_iff_iff, beq_iff_eq, decide_eq_true_eq]; omega
        by_cases hlt : (j : Int) + 30 < ep - eq
        · clear hkk hmo hM
          cases hL : Flo.lost mq j false
          · have hn : Hid (Flo.lost mq (j + 1) false = (((mq / 2 ^ j : Nat) : Int) % 2 == 1)) := by show _ = _; rw [hl.out, hL, hb.out]; rfl
            clear hl hb
            generalize ((mq / 2 ^ j : Nat) : Int) = z at *
            go_wp2_with fail
            go_round
            case rel => exact ⟨j + 1, by omega, by rw [← hs'.out], by rw [hn.out], by go_num⟩
            case measure => simp [intOf]; omega
          · have hn := hide (Flo.lost_yes mq j false hL)
            clear hl hb
            generalize ((mq / 2 ^ j : Nat) : Int) = z at *
            go_wp2_with fail
            go_round
            case rel => exact ⟨j + 1, by omega, by rw [← hs'.out], by rw [hn.out], by go_num⟩
            case measure => simp [intOf]; omega
        · have hjJ : j = J := by omega
          subst hjJ
          have hlt2 : decide ((j : Int) + 30 < ep - eq) = false := decide_eq_false hlt
          rw [hkk] at h0 ⊢
          rw [hmo]
          clear hs' hl hb hlt hle hkk hmo
          go_wp2_with fail
          refine (HP.out _).mono ?_; rintro e w3 ⟨rfl, rfl⟩
          go_wp2_with fail
          go_ret
          exact ⟨rfl, by first | exact bP | exact bP.setCell (by omega) _⟩
  · rw [hnb] at HP
    clear hnb
    go_enter Tryd.func19, Tryd.ntmps19
    go_wp2_with fail
    refine (OA.out _).mono ?_; rintro e w1 ⟨rfl, b1⟩
    go_wp2_with fail
    refine (OB.out _).mono ?_; rintro e w2 ⟨rfl, b2⟩
    have sz := b2.size
    have sz1 := b1.size
    rw [World.size_alloc] at sz
    refine keep_then b2 w1.heap.size (by simp) ?_; intro g1 g2 g3 g4 g5 g6
    refine ne_then w1.heap.size w2.heap.size (by omega) ?_; intro n00 n00'
    refine ne_then w1.heap.size (w2.heap.size + 1) (by omega) ?_; intro n01 n01'
    go_upto_if 72 with fail
    go_cut [] (fun wx => wx.cell? ⟨w1.heap.size, 0, none⟩ = some (.int .i64 0) ∧ wx.cell? ⟨w1.heap.size, 1, none⟩ = some (.bool np) ∧ wx.cell? ⟨w1.heap.size, 2, none⟩ = some (.int .i64 mp) ∧ wx.cell? ⟨w1.heap.size, 3, none⟩ = some (.int .i64 ep) ∧ wx.cell? ⟨w2.heap.size, 0, none⟩ = some (.int .i64 0) ∧ wx.cell? ⟨w2.heap.size, 1, none⟩ = some (.bool nq) ∧ wx.cell? ⟨w2.heap.size, 2, none⟩ = some (.int .i64 mq) ∧ wx.cell? ⟨w2.heap.size, 3, none⟩ = some (.int .i64 eq) ∧ wx.frozen? ⟨w1.heap.size, 1, none⟩ = false ∧ Below w.heap.size w wx)
    case first =>
      go_wp2_with fail
      go_meet
      refine ⟨?_, ?_, ?_, ?_, ?_, ?_, ?_, ?_, ?_, ?_⟩
      all_goals first
        | (simp [go_sem, *]; done)
        | (repeat (first | with_reducible exact Below.refl _ _ | with_reducible apply bl_drew | with_reducible apply bl_alloc | (with_reducible apply bl_set; (focus (dsimp only; omega))) | (with_reducible apply bl_below; (focus (with_reducible assumption)))))
    case rest =>
      obtain ⟨p0, p1, p2, p3, q0, q1, q2, q3, pf, bP⟩ := hcut
      clear g1 g2 g3 g4 g5 g6 n00 n00' n01 n01' b1 b2 OA OB c1
      go_wp2_with fail
      go_loop [10, 11, 12] (fun a b i => ∃ j : Nat, j ≤ J ∧ a = .int .i64 ((mq / 2 ^ j : Nat) : Int) ∧ b = .bool (Flo.lost mq j false) ∧ i = .int .i64 ((j : Int) + 30)) (fun _ _ i => J + 30 - (intOf i).toNat)
      case atStart => exact ⟨0, by omega, by simp, by rw [z0.out], rfl⟩
      case round =>
        clear z0
        obtain ⟨j, hj, rfl, rfl, rfl⟩ := hrel
        have hle : ((mq / 2 ^ j : Nat) : Int) ≤ 4611686018427387904 := by have := Nat.div_le_self mq (2 ^ j); omega
        have h0 : (0 : Int) ≤ ((mq / 2 ^ j : Nat) : Int) := Int.natCast_nonneg _
        have hs' : Hid (((mq / 2 ^ j : Nat) : Int) / 2 = ((mq / 2 ^ (j + 1) : Nat) : Int)) := by
          show _ = _
          rw [Nat.pow_succ, ← Nat.div_div_eq_div_mul]; rfl
        have hl := hide (Flo.lost_step mq j false)
        have hb : Hid ((((mq / 2 ^ j : Nat) : Int) % 2 == 1) = decide (mq / 2 ^ j % 2 = 1)) := by
          show _ = _
          rw [Bool.eq_iff_iff, beq_iff_eq, decide_eq_true_eq]; omega
        by_cases hlt : (j : Int) + 30 < ep - eq
        · clear hkk hmo hM
          cases hL : Flo.lost mq j false
          · have hn : Hid (Flo.lost mq (j + 1) false = (((mq / 2 ^ j : Nat) : Int) % 2 == 1)) := by show _ = _; rw [hl.out, hL, hb.out]; rfl
            clear hl hb
            generalize ((mq / 2 ^ j : Nat) : Int) = z at *
            go_wp2_with fail
            go_round
            case rel => exact ⟨j + 1, by omega, by rw [← hs'.out], by rw [hn.out], by go_num⟩
            case measure => simp [intOf]; omega
          · have hn := hide (Flo.lost_yes mq j false hL)
            clear hl hb
            generalize ((mq / 2 ^ j : Nat) : Int) = z at *
            go_wp2_with fail
            go_round
            case rel => exact ⟨j + 1, by omega, by rw [← hs'.out], by rw [hn.out], by go_num⟩
            case measure => simp [intOf]; omega
        · have hjJ : j = J := by omega
          subst hjJ
          have hlt2 : decide ((j : Int) + 30 < ep - eq) = false := decide_eq_false hlt
          rw [hkk] at h0 ⊢
          rw [hmo]
          clear hs' hl hb hlt hle hkk hmo
          have hz : (M == 0) = false := beq_eq_false_iff_ne.2 (by omega)
          have hz2 : decide (M < 0) = false := decide_eq_false (by omega)
          go_wp2_with fail
          refine (HP.out _).mono ?_; rintro e w3 ⟨rfl, rfl⟩
          go_wp2_with fail
          go_ret
          exact ⟨rfl, by first | exact bP | exact bP.setCell (by omega) _⟩
  · rw [hnb] at HP
    clear hnb
    go_enter Tryd.func19, Tryd.ntmps19
    go_wp2_with fail
    refine (OA.out _).mono ?_; rintro e w1 ⟨rfl, b1⟩
    go_wp2_with fail
    refine (OB.out _).mono ?_; rintro e w2 ⟨rfl, b2⟩
    have sz := b2.size
    have sz1 := b1.size
    rw [World.size_alloc] at sz
    refine keep_then b2 w1.heap.size (by simp) ?_; intro g1 g2 g3 g4 g5 g6
    refine ne_then w1.heap.size w2.heap.size (by omega) ?_; intro n00 n00'
    refine ne_then w1.heap.size (w2.heap.size + 1) (by omega) ?_; intro n01 n01'
    go_upto_if 72 with fail
    go_cut [] (fun wx => wx.cell? ⟨w1.heap.size, 0, none⟩ = some (.int .i64 0) ∧ wx.cell? ⟨w1.heap.size, 1, none⟩ = some (.bool np) ∧ wx.cell? ⟨w1.heap.size, 2, none⟩ = some (.int .i64 mp) ∧ wx.cell? ⟨w1.heap.size, 3, none⟩ = some (.int .i64 ep) ∧ wx.cell? ⟨w2.heap.size, 0, none⟩ = some (.int .i64 0) ∧ wx.cell? ⟨w2.heap.size, 1, none⟩ = some (.bool nq) ∧ wx.cell? ⟨w2.heap.size, 2, none⟩ = some (.int .i64 mq) ∧ wx.cell? ⟨w2.heap.size, 3, none⟩ = some (.int .i64 eq) ∧ wx.frozen? ⟨w1.heap.size, 1, none⟩ = false ∧ Below w.heap.size w wx)
    case first =>
      go_wp2_with fail
      go_meet
      refine ⟨?_, ?_, ?_, ?_, ?_, ?_, ?_, ?_, ?_, ?_⟩
      all_goals first
        | (simp [go_sem, *]; done)
        | (repeat (first | with_reducible exact Below.refl _ _ | with_reducible apply bl_drew | with_reducible apply bl_alloc | (with_reducible apply bl_set; (focus (dsimp only; omega))) | (with_reducible apply bl_below; (focus (with_reducible assumption)))))
    case rest =>
      obtain ⟨p0, p1, p2, p3, q0, q1, q2, q3, pf, bP⟩ := hcut
      clear g1 g2 g3 g4 g5 g6 n00 n00' n01 n01' b1 b2 OA OB c1
      go_wp2_with fail
      go_loop [10, 11, 12] (fun a b i => ∃ j : Nat, j ≤ J ∧ a = .int .i64 ((mq / 2 ^ j : Nat) : Int) ∧ b = .bool (Flo.lost mq j false) ∧ i = .int .i64 ((j : Int) + 30)) (fun _ _ i => J + 30 - (intOf i).toNat)
      case atStart => exact ⟨0, by omega, by simp, by rw [z0.out], rfl⟩
      case round =>
        clear z0
        obtain ⟨j, hj, rfl, rfl, rfl⟩ := hrel
        have hle : ((mq / 2 ^ j : Nat) : Int) ≤ 4611686018427387904 := by have := Nat.div_le_self mq (2 ^ j); omega
        have h0 : (0 : Int) ≤ ((mq / 2 ^ j : Nat) : Int) := Int.natCast_nonneg _
        have hs' : Hid (((mq / 2 ^ j : Nat) : Int) / 2 = ((mq / 2 ^ (j + 1) : Nat) : Int)) := by
          show _ = _
          rw [Nat.pow_succ, ← Nat.div_div_eq_div_mul]; rfl
        have hl := hide (Flo.lost_step mq j false)
        have hb : Hid ((((mq / 2 ^ j : Nat) : Int) % 2 == 1) = decide (mq / 2 ^ j % 2 = 1)) := by
          show _ = _
          rw [Bool.eq_iff_iff, beq_iff_eq, decide_eq_true_eq]; omega
        by_cases hlt : (j : Int) + 30 < ep - eq
        · clear hkk hmo hM
          cases hL : Flo.lost mq j false
          · have hn : Hid (Flo.lost mq (j + 1) false = (((mq / 2 ^ j : Nat) : Int) % 2 == 1)) := by show _ = _; rw [hl.out, hL, hb.out]; rfl
            clear hl hb
            generalize ((mq / 2 ^ j : Nat) : Int) = z at *
            go_wp2_with fail
            go_round
            case rel => exact ⟨j + 1, by omega, by rw [← hs'.out], by rw [hn.out], by go_num⟩
            case measure => simp [intOf]; omega
          · have hn := hide (Flo.lost_yes mq j false hL)
            clear hl hb
            generalize ((mq / 2 ^ j : Nat) : Int) = z at *
            go_wp2_with fail
            go_round
            case rel => exact ⟨j + 1, by omega, by rw [← hs'.out], by rw [hn.out], by go_num⟩
            case measure => simp [intOf]; omega
        · have hjJ : j = J := by omega
          subst hjJ
          have hlt2 : decide ((j : Int) + 30 < ep - eq) = false := decide_eq_false hlt
          rw [hkk] at h0 ⊢
          rw [hmo]
          clear hs' hl hb hlt hle hkk hmo
          have hz : (M == 0) = false := beq_eq_false_iff_ne.2 (by omega)
          have hz2 : decide (M < 0) = false := decide_eq_false (by omega)
          go_wp2_with fail
          refine (HP.out _).mono ?_; rintro e w3 ⟨rfl, rfl⟩
          go_wp2_with fail
          go_ret
          exact ⟨rfl, by first | exact bP | exact bP.setCell (by omega) _⟩
end FlV
end Go.Proofs.YtmghmcnihiepiaaDoor
