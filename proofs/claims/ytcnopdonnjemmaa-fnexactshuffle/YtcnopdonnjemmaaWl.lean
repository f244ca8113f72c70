/- Shuffle of the model; both sides meet. -/
import Derived.Test.YtcnopdonnjemmaaWk
namespace Go.Proofs.Ytcnopdonnjemmaa
namespace Wj
open Go.ChangeShapes Go.WideShapes Go.ChangeAt Go.RowKit Go.Joins
open Vl Vo
set_option linter.unusedVariables false
set_option linter.unusedSimpArgs false
theorem rw_swapS {w : World} {g r p q : Nat} {D : Nat → Int} (h : Rw w g r D) (hp : p < r) (hq : q < r) : Rw ((w.setCell ⟨g, p, none⟩ (.int .i64 (D q))).setCell ⟨g, q, none⟩ (.int .i64 (D p))) g r (swp D p q) :=
  ((h.set p (D q) (h q hq).2.2).set q (D p) (h p hp).2.2).same fun t ht => rfl
theorem kept_swapS (w : World) (g p q : Nat) (x y : Value) : Kept (· = g) w ((w.setCell ⟨g, p, none⟩ x).setCell ⟨g, q, none⟩ y) :=
  (Kept.setCell w ⟨g, p, none⟩ x).trans (Kept.setCell _ ⟨g, q, none⟩ y)
set_option maxRecDepth 100000 in
set_option maxHeartbeats 1000000 in
theorem sShu_yes (s0 n : Int) (w : World) (hs : bd s0) (hn : bd n) (g1 : stOk s0 = true) (g2 : decide (0 ≤ n ∧ n ≤ 4096) = true) :
    Calls Try.prog 13 #[.int .i64 s0, .int .i64 n] w fun e w' => ∃ a c, e = .returned (.slice a n.toNat c) ∧ OwnL w.heap.size w' a n.toNat (shu s0 n) ∧ Below w.heap.size w w' := by
  obtain ⟨i0, hi0, hz0, hz1, hz2⟩ := info_parts infoInt
  have Hs := hide hs
  have Hn := hide hn
  have G1 := hide g1
  have G2 := hide g2
  obtain ⟨n0, n1⟩ := of_decide_eq_true g2
  obtain ⟨N, rfl⟩ : ∃ N : Nat, n = N := ⟨n.toNat, by omega⟩
  have SO := hide (of_decide_eq_true g1)
  have hown0 : (w.alloc (.cells #[] 3)).ownsRow w.heap.size 3 1 (.slice (some ⟨w.heap.size, 0, none⟩) 0 0) 0 [] :=
    ⟨rfl, .inr ⟨w.heap.size, 0, #[], rfl, Nat.le_refl _, heap_alloc_new w _, Nat.le_refl _, by simp [maxLen], rfl, rfl⟩⟩
  obtain ⟨W0, hW0⟩ : ∃ W0, w.alloc (.cells #[] 3) = W0 := ⟨_, rfl⟩
  have BL := hide (show Below w.heap.size w W0 from hW0 ▸ (Below.refl _ _).alloc (Nat.le_refl _) _)
  rw [hW0] at hown0
  have R0 := hide (show RowV w.heap.size W0 (.slice (some ⟨w.heap.size, 0, none⟩) 0 0) 0 (fun i => (i : Int)) from ⟨hown0, fun j hj => by omega⟩)
  obtain ⟨R, hR⟩ : ∃ R, shu s0 (N : Int) = R := ⟨_, rfl⟩
  have HR := hide hR
  rw [hR]
  clear hR
  clear hs hn g1 g2 hown0
  go_enter Try.func13, Try.ntmps13
  go_wp2_with fail
  clear hW0
  refine (stateS s0 true G1.out _).mono ?_
  rintro e1 w1 ⟨rfl, q1⟩
  replace R0 := hide (show RowV w.heap.size w1 _ 0 _ from ⟨own_below R0.out.1 q1, R0.out.2⟩)
  replace BL := hide (BL.out.trans (q1.mono BL.out.size))
  clear q1
  go_wp2_with fail
  refine (gInS (N : Int) 0 4096 true G2.out _).mono ?_
  rintro e1 w2 ⟨rfl, q2⟩
  replace R0 := hide (show RowV w.heap.size w2 _ 0 _ from ⟨own_below R0.out.1 q2, R0.out.2⟩)
  replace BL := hide (BL.out.trans (q2.mono BL.out.size))
  clear q2
  go_wp2_with fail
  go_loopw [5, 6] (fun o i wx => ∃ k : Nat, k ≤ N ∧ i = .int .i64 (k : Int) ∧ RowV w.heap.size wx o k (fun i => (i : Int)) ∧ Below w.heap.size w wx) (fun _ i _ => N - (intOf i).toNat)
  case atStart => exact ⟨0, by omega, rfl, R0.out, BL.out⟩
  case round =>
    obtain ⟨k, hk, rfl, hrow, hbl⟩ := hrel
    have RV := hide hrow
    have BV := hide hbl
    clear hrow hbl R0 BL
    by_cases c : (k : Int) < (N : Int)
    · have sz := BV.out.size
      have kN : k < 4096 := by omega
      have LT := hide (show ∀ i, u5.ownBlock = some i → w.heap.size ≤ i from fun i hi => (RV.out.1.lt i hi).1)
      go_wp2_with (at_builtin; refine wpList_append_own _ rfl _ _ 27 rfl w.heap.size 3 i0 (.int .i64 0) 1 8 Try.underlying27 hi0 hz0 hz1 hz2 rfl (by decide) _ _ _ rfl (RV.out.1.alloc _) ⟨wr.heap.size, 0, none⟩ 1 1 [.int .i64 (k : Int)] rfl rfl (World.news_of_block (cs := #[.int .i64 (k : Int)]) (t := 3) (fr := (0, 0)) (heap_alloc_new wr _)) (by simp [Value.oneCell']) (by unfold maxLen; omega) (by omega) (by simp; omega) ?_; intro v' w5 hown1 hgrow1 _)
      go_roundw
      case rel =>
        rw [ints_succ k (fun i => (i : Int))] at hown1
        exact ⟨k + 1, by omega, by go_num, ⟨hown1, fun j hj => id_bd j (by omega)⟩, (BV.out.alloc BV.out.size _).grown hgrow1 (by simp; omega) (fun i hi => LT.out i hi)⟩
      case measure => simp [intOf]; omega
    · obtain rfl : k = N := by omega
      have cF : decide ((k : Int) < (k : Int)) = false := by simp
      obtain ⟨a, cp, rfl, o1⟩ := RV.out.own
      have OV := hide o1
      clear c o1 RV
      go_wp2_with fail
      go_loopw [7, 8] (fun sx ix wx => ∃ (z s : Int) (E : Nat → Int), ix = .int .i64 z ∧ sx = .int .i64 s ∧ -1 ≤ z ∧ z < k ∧ (0 ≤ s ∧ s ≤ 4294967295) ∧ shf z.toNat s E = R ∧ OwnL w.heap.size wx a k E ∧ Below w.heap.size w wx) (fun _ ix _ => (intOf ix).toNat)
      case atStart => exact ⟨(k : Int) - 1, s0, _, rfl, rfl, by omega, by omega, SO.out, HR.out, OV.out, BV.out⟩
      case round =>
        obtain ⟨z, s, E, rfl, rfl, z0, z1, hs, hE, hw, hbl⟩ := hrel
        have HE := hide hE
        have HW := hide hw
        have BL := hide hbl
        have HS := hide hs
        clear hE hw hbl hs OV BV
        by_cases hlt : 1 ≤ z
        · obtain ⟨q, rfl⟩ : ∃ q : Nat, z = q := ⟨z.toNat, by omega⟩
          have q1 : 1 ≤ q := by omega
          have q2 : q < k := by omega
          rcases HW.out with h0 | ⟨g, rfl, hg, hrw⟩
          · omega
          have hj0 := blw_rng (s := s) (n := (q : Int) + 1) (by omega) (by omega)
          obtain ⟨j, hj⟩ : ∃ j : Nat, blw s ((q : Int) + 1) = (j : Int) := ⟨(blw s ((q : Int) + 1)).toNat, by omega⟩
          have jq : j < k := by omega
          have HJ := hide hj
          have C := hide (fun W => sBel_yes s ((q : Int) + 1) W (by have := HS.out; unfold bd; omega) (by unfold bd; omega) (decide_eq_true HS.out) (decide_eq_true (by omega)))
          rw [hj] at C
          have GW := hide hg
          have RW0 := hide hrw
          clear hj hj0 hg hrw
          have qI : (q : Int) < (k : Int) := by omega
          have jI : (j : Int) < (k : Int) := by omega
          have eM := hide (show ((q : Int) - 1).toNat = q - 1 by omega)
          go_wp2_with fail
          refine (C.out _).mono ?_
          rintro e1 w4 ⟨rfl, b4⟩
          have WX := hide (RW0.out.below b4 (RW0.out.lt (by omega)))
          have BX := hide (BL.out.trans (b4.mono BL.out.size))
          clear b4
          obtain ⟨cq, fq, -⟩ := WX.out q q2
          obtain ⟨cj, fj, -⟩ := WX.out j jq
          have c5 : (w4.setCell ⟨g, q, none⟩ (.int .i64 (E j))).cell? ⟨g, j, none⟩ = some (.int .i64 (E j)) := by
            have := (WX.out.set q (E j) (WX.out j jq).2.2) j jq
            rw [this.1]
            show some (Value.int .i64 (if j = q then E j else E j)) = _
            rw [ite_self]
          have N' := hide (rw_swapS WX.out q2 jq)
          have KN := hide (kept_swapS w4 g q j (.int .i64 (E j)) (.int .i64 (E q)))
          go_wp2_with fail
          go_roundw
          case rel =>
            have SD := shf_step q1 s E HJ.out
            have SR := stn_rng s
            exact ⟨(q : Int) - 1, stn s, swp E q j, rfl, rfl, by omega, by omega, SR, by rw [eM.out, ← SD]; exact HE.out, .inr ⟨g, rfl, GW.out, N'.out⟩, BX.out.trans (KN.out.below BX.out.size (fun k (e : k = g) => by have := GW.out; omega))⟩
          case measure => simp [intOf]; omega
        · have hE := HE.out
          rw [show z.toNat = 0 by omega] at hE
          have hER : E = R := hE
          subst hER
          have hkI : decide (1 ≤ z) = false := decide_eq_false hlt
          clear hlt hE
          go_wp2_with fail
          go_ret
          exact ⟨_, _, rfl, HW.out, BL.out⟩
set_option maxHeartbeats 1000000 in
theorem sShu_no1 (s n : Int) (w : World) (hs : bd s) (hn : bd n) (g1 : stOk s = false) :
    Calls Try.prog 13 #[.int .i64 s, .int .i64 n] w fun e w' => ∃ a c, e = .returned (.slice a 0 c) ∧ OwnL w.heap.size w' a 0 (shu s n) ∧ Below w.heap.size w w' := by
  have G1 := hide g1
  have BL := hide (show Below w.heap.size w (w.alloc (.cells #[] 3)) from (Below.refl _ _).alloc (Nat.le_refl _) _)
  clear hs hn g1
  go_enter Try.func13, Try.ntmps13
  go_wp2_with fail
  refine (stateS s false G1.out _).mono ?_
  rintro e1 w1 ⟨rfl, q1⟩
  replace BL := hide (BL.out.trans (q1.mono BL.out.size))
  clear q1
  go_wp2_with fail
  go_ret
  exact ⟨_, _, rfl, .inl rfl, BL.out⟩
set_option maxHeartbeats 1000000 in
theorem sShu_no2 (s n : Int) (w : World) (hs : bd s) (hn : bd n) (g1 : stOk s = true) (g2 : decide (0 ≤ n ∧ n ≤ 4096) = false) :
    Calls Try.prog 13 #[.int .i64 s, .int .i64 n] w fun e w' => ∃ a c, e = .returned (.slice a 0 c) ∧ OwnL w.heap.size w' a 0 (shu s n) ∧ Below w.heap.size w w' := by
  have G1 := hide g1
  have G2 := hide g2
  have BL := hide (show Below w.heap.size w (w.alloc (.cells #[] 3)) from (Below.refl _ _).alloc (Nat.le_refl _) _)
  clear hs hn g1 g2
  go_enter Try.func13, Try.ntmps13
  go_wp2_with fail
  refine (stateS s true G1.out _).mono ?_
  rintro e1 w1 ⟨rfl, q1⟩
  replace BL := hide (BL.out.trans (q1.mono BL.out.size))
  clear q1
  go_wp2_with fail
  refine (gInS n 0 4096 false G2.out _).mono ?_
  rintro e1 w2 ⟨rfl, q2⟩
  replace BL := hide (BL.out.trans (q2.mono BL.out.size))
  clear q2
  go_wp2_with fail
  go_ret
  exact ⟨_, _, rfl, .inl rfl, BL.out⟩
theorem specShuffle (s n : Int) (w : World) (hs : bd s) (hn : bd n) :
    Calls Try.prog 13 #[.int .i64 s, .int .i64 n] w fun e w' => ∃ a c, e = .returned (.slice a (shl s n) c) ∧ OwnL w.heap.size w' a (shl s n) (shu s n) ∧ Below w.heap.size w w' := by
  unfold shl
  cases g1 : stOk s
  · rw [if_neg (by simp)]; exact sShu_no1 s n w hs hn g1
  cases g2 : decide (0 ≤ n ∧ n ≤ 4096)
  · rw [if_neg (fun h => of_decide_eq_false g2 h.2)]; exact sShu_no2 s n w hs hn g1 g2
  · rw [if_pos ⟨rfl, of_decide_eq_true g2⟩]; exact sShu_yes s n w hs hn g1 g2
theorem shuffleBoth (s n : Int) (hs : bd s) (hn : bd n) : ∃ (m : Nat) (G : Nat → Int), m ≤ 4096 ∧
    (∀ w, Calls Try.prog 13 #[.int .i64 s, .int .i64 n] w fun e w' => ∃ a c, e = .returned (.slice a m c) ∧ OwnL w.heap.size w' a m G ∧ Below w.heap.size w w') ∧
    (∀ w, Calls Try.prog 14 #[.int .i64 s, .int .i64 n] w fun e w' => ∃ a c, e = .returned (.slice a m c) ∧ OwnL w.heap.size w' a m G ∧ Below w.heap.size w w') :=
  ⟨shl s n, shu s n, shl_le s n, fun w => specShuffle s n w hs hn, fun w => implShuffle s n w hs hn⟩
end Wj
end Go.Proofs.Ytcnopdonnjemmaa
