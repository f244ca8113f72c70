/- What a nest must be: the program's kernels. -/
import Derived.Test.YtgmjijjckedmcaaJm
namespace Go.Proofs.Ytgmjijjckedmcaa
namespace Vo
open Go.ChangeShapes Go.WideShapes Go.ChangeAt Go.RowKit Go.Joins Go.Sort
open Vl Vp
set_option linter.unusedVariables false
set_option linter.unusedSimpArgs false
set_option maxRecDepth 100000 in
set_option maxHeartbeats 8000000 in
theorem kerFits (B : Nat) (k : KV) (sa : Option Addr) (sn scap : Nat) (SD : Nat → Int) (w : World) (hB : B ≤ w.heap.size) (h : k.read B w) (hs : Ints B w sa sn SD) (hl : k.len 1048576) (sz : SzOk sn SD) :
    Calls Try.prog 57 #[k.val, .slice sa sn scap] w fun e w' => e = .returned (.bool (decide (KOk k sn SD))) ∧ Below w.heap.size w w' := by
  obtain ⟨la, lr, lcap, LD, aa, an, acap, AA, ⟨u, o, ta, tr, tcap, TD⟩, sm, ca, cn, ccap, CC⟩ := k
  obtain ⟨h1, h2, ⟨h3, ub, _⟩, h4⟩ := h
  obtain ⟨l2, l3, l4, l5, l6⟩ := hl
  unfold KV.val
  dsimp only at *
  obtain ⟨W1, hW1⟩ : ∃ W1, w.alloc (.cells #[.slice la lr lcap, .slice aa an acap, .int .i64 u, .int .i64 o, .slice ta tr tcap, .bool sm, .slice ca cn ccap] 90) = W1 := ⟨_, rfl⟩
  have BL := hide (show Below w.heap.size w W1 by rw [← hW1]; exact (Below.refl _ _).alloc (Nat.le_refl _) _)
  have p := Cells7.new w (.slice la lr lcap) (.slice aa an acap) (.int .i64 u) (.int .i64 o) (.slice ta tr tcap) (.bool sm) (.slice ca cn ccap) 90
  rw [hW1] at p
  have C1 := hide p
  have z1 : w.heap.size < W1.heap.size := World.block_lt_of_cell? _ _ p.1
  obtain ⟨p0, p1, p2, p3, p4, p5, p6⟩ := p
  have H1 := hide h1
  have H2 := hide h2
  have H3 := hide h3
  have H4 := hide h4
  have HS := hide hs
  have L4 := hide l4
  have SZ := hide sz
  have UB := hide ub
  clear h1 h2 h3 h4 hs l4 sz ub
  have CP := hide (workF B ⟨la, lr, lcap, LD, aa, an, acap, AA, ⟨u, o, ta, tr, tcap, TD⟩, sm, ca, cn, ccap, CC⟩ W1 (Nat.le_trans hB BL.out.size) (H1.out.below (BL.out.mono hB)))
  unfold KV.val at CP
  dsimp only at CP
  obtain ⟨K, hK⟩ : ∃ K : KV, K = ⟨la, lr, lcap, LD, aa, an, acap, AA, ⟨u, o, ta, tr, tcap, TD⟩, sm, ca, cn, ccap, CC⟩ := ⟨_, rfl⟩
  rw [← hK] at CP ⊢
  have UN := hide (show KOk K sn SD ↔ (lr ≤ 12 ∧ an ≤ 30 ∧ pd LD lr ≠ 0 ∧ CdOk cn CC an ∧ AcOk ⟨u, o, ta, tr, tcap, TD⟩ lr LD sn SD ∧ ∀ i, i < an → AcOk (AA i) lr LD sn SD ∧ (AA i).u ≠ u) by rw [hK]; exact Iff.rfl)
  have EW := hide (show wk K = if lr ≤ 12 then pd LD lr else 0 by rw [hK]; rfl)
  clear hK
  obtain ⟨q, hq⟩ : ∃ q, wk K = q := ⟨_, rfl⟩
  rw [hq] at CP EW
  clear hq
  go_enter Try.func57, Try.ntmps57
  by_cases q0 : q = 0
  · have e := hide (show ¬ KOk K sn SD from fun c => by have c1 := (UN.out.1 c).1; have c2 := (UN.out.1 c).2.2.1; have := EW.out; rw [if_pos c1, q0] at this; exact c2 this.symm)
    subst q0
    go_wp2_with fail
    refine CP.out.mono ?_
    rintro e1 w1 ⟨rfl, b1⟩
    have BL1 := hide (BL.out.trans (b1.mono BL.out.size))
    go_wp2_with fail
    go_ret
    exact ⟨by rw [decide_eq_false e.out]; rfl, BL1.out⟩
  have q0' : (q == 0) = false := by simp [q0]
  have ub1 : lr ≤ 12 := by
    rcases Nat.lt_or_ge 12 lr with c | c
    · have := EW.out; rw [if_neg (by omega)] at this; exact absurd this q0
    · exact c
  have QN := hide (show pd LD lr ≠ 0 by have := EW.out; rw [if_pos ub1] at this; rw [← this]; exact q0)
  have LP := hide (show LpOk lr LD from ⟨ub1, pd_each QN.out⟩)
  clear q0
  go_wp2_with fail
  refine CP.out.mono ?_
  rintro e1 w1 ⟨rfl, b1⟩
  have BL1 := hide (BL.out.trans (b1.mono BL.out.size))
  have C2 := hide (C1.out.below b1 z1)
  have z2 : w.heap.size < w1.heap.size := Nat.lt_of_lt_of_le z1 b1.size
  clear CP b1 p0 p1 p2 p3 p4 p5 p6 hW1
  obtain ⟨p0, p1, p2, p3, p4, p5, p6⟩ := C2.out
  by_cases c2 : 30 < (an : Int)
  · have e := hide (show ¬ KOk K sn SD from fun q => by have := (UN.out.1 q).2.1; omega)
    have c2'' : decide (30 < an) = true := decide_eq_true (by omega)
    go_wp2_with fail
    go_ret
    exact ⟨by rw [decide_eq_false e.out]; rfl, BL1.out⟩
  have c2' : decide (30 < (an : Int)) = false := by rw [decide_eq_false_iff_not]; exact c2
  have c2'' : decide (30 < an) = false := by rw [decide_eq_false_iff_not]; omega
  by_cases c3 : (cn : Int) < 1
  · have e := hide (show ¬ KOk K sn SD from fun q => by have := (UN.out.1 q).2.2.2.1.1; omega)
    have c3'' : decide (cn < 1) = true := decide_eq_true (by omega)
    clear c2
    go_wp2_with fail
    go_ret
    exact ⟨by rw [decide_eq_false e.out]; rfl, BL1.out⟩
  have c3' : decide ((cn : Int) < 1) = false := by rw [decide_eq_false_iff_not]; exact c3
  have c3'' : decide (cn < 1) = false := by rw [decide_eq_false_iff_not]; omega
  by_cases c4 : 60 < (cn : Int)
  · have e := hide (show ¬ KOk K sn SD from fun q => by have := (UN.out.1 q).2.2.2.1.2.1; omega)
    have c4'' : decide (60 < cn) = true := decide_eq_true (by omega)
    clear c2 c3
    go_wp2_with fail
    go_ret
    exact ⟨by rw [decide_eq_false e.out]; rfl, BL1.out⟩
  have c4' : decide (60 < (cn : Int)) = false := by rw [decide_eq_false_iff_not]; exact c4
  have c4'' : decide (60 < cn) = false := by rw [decide_eq_false_iff_not]; omega
  have ub2 : an ≤ 30 := by omega
  have ub3 : 1 ≤ cn := by omega
  have ub4 : cn ≤ 60 := by omega
  clear c2 c3 c4
  go_wp2_with fail
  clear p0 p1 p2 p3 p4 p5 p6
  go_loopw [33] (fun i wx => ∃ j : Nat, j ≤ an ∧ i = .int .i64 j ∧ (∀ t, t < j → AcOk (AA t) lr LD sn SD ∧ (AA t).u ≠ u) ∧ Below w1.heap.size w1 wx) (fun i _ => an - (intOf i).toNat)
  case atStart => exact ⟨0, Nat.zero_le _, rfl, fun t ht => by omega, Below.refl _ _⟩
  case round =>
    obtain ⟨X, rfl⟩ : ∃ X, X = wr := ⟨_, rfl⟩
    obtain ⟨j, hj, rfl, hs, hby⟩ := hrel
    have HT := hide hs
    have BX := hide (BL1.out.trans (hby.mono BL1.out.size))
    have HBY := hide hby
    have zX : w.heap.size < X.heap.size := Nat.lt_of_lt_of_le z2 hby.size
    have CX := hide (C2.out.below hby z2)
    obtain ⟨p0, p1, p2, p3, p4, p5, p6⟩ := CX.out
    clear hs hby
    by_cases hlt : j < an
    case pos =>
      have jI : (j : Int) < an := by omega
      rcases H2.out.below (BX.out.mono hB) with q0 | ⟨blk, off, rfl, hbk, hc⟩
      · omega
      obtain ⟨g0, g1, g2, gi, gu, _⟩ := hc j hlt
      have lj := L4.out j hlt
      obtain ⟨⟨u', o', a', r', cap', D'⟩, hA⟩ : ∃ x, AA j = x := ⟨_, rfl⟩
      rw [hA] at g0 g1 g2 gi gu lj
      dsimp only at g0 g1 g2 gi gu lj
      have EA := hide hA
      obtain ⟨Y, hY⟩ : ∃ Y, X.alloc (.cells #[.int .i64 u', .int .i64 o', .slice a' r' cap'] 87) = Y := ⟨_, rfl⟩
      have bY : Below X.heap.size X Y := by rw [← hY]; exact (Below.refl _ _).alloc (Nat.le_refl _) _
      have y0 : Y.cell? ⟨X.heap.size, 0, none⟩ = some (.int .i64 u') := by rw [← hY]; simp [go_sem]
      have y1 : Y.cell? ⟨X.heap.size, 1, none⟩ = some (.int .i64 o') := by rw [← hY]; simp [go_sem]
      have y2 : Y.cell? ⟨X.heap.size, 2, none⟩ = some (.slice a' r' cap') := by rw [← hY]; simp [go_sem]
      have BYY := hide (BX.out.trans (bY.mono BX.out.size))
      have HBYY := hide (HBY.out.trans (bY.mono HBY.out.size))
      obtain ⟨m0, m1, m2, m3, m4, m5, m6⟩ := CX.out.below bY zX
      have CA := hide (accFits B ⟨u', o', a', r', cap', D'⟩ la sa lr lcap sn scap LD SD Y (Nat.le_trans hB BYY.out.size) (gi.below (bY.mono (Nat.le_trans hB BX.out.size))) (H1.out.below (BYY.out.mono hB)) (HS.out.below (BYY.out.mono hB)) lj gu LP.out SZ.out)
      unfold AV.val at CA
      dsimp only at CA
      clear hc gi gu hA
      by_cases d4 : u' = u
      · have e := hide (show ¬ KOk K sn SD from fun c => ((UN.out.1 c).2.2.2.2.2 j hlt).2 (by rw [EA.out]; exact d4))
        have d4' : (u' == u) = true := by simp [d4]
        clear d4
        go_wp2_with fail
        go_ret
        exact ⟨by rw [decide_eq_false e.out]; rfl, BYY.out⟩
      have d4' : (u' == u) = false := by simp [d4]
      by_cases d3 : AcOk ⟨u', o', a', r', cap', D'⟩ lr LD sn SD
      case neg =>
        have e := hide (show ¬ KOk K sn SD from fun c => d3 (by have := ((UN.out.1 c).2.2.2.2.2 j hlt).1; rw [EA.out] at this; exact this))
        rw [decide_eq_false d3] at CA
        clear d3 d4
        go_wp2_with fail
        refine CA.out.mono ?_
        rintro e1 Y2 ⟨rfl, bY2⟩
        have BZ := hide (BYY.out.trans (bY2.mono BYY.out.size))
        go_wp2_with fail
        go_ret
        exact ⟨by rw [decide_eq_false e.out]; rfl, BZ.out⟩
      rw [decide_eq_true d3] at CA
      have e := hide (show ∀ t, t < j + 1 → AcOk (AA t) lr LD sn SD ∧ (AA t).u ≠ u from fun t ht => by
        by_cases c : t = j
        · rw [c, EA.out]; exact ⟨d3, d4⟩
        · exact HT.out t (by omega))
      clear d3 d4
      go_wp2_with fail
      refine CA.out.mono ?_
      rintro e1 Y2 ⟨rfl, bY2⟩
      have BZ := hide (HBYY.out.trans (bY2.mono HBYY.out.size))
      clear bY2 bY hY
      go_wp2_with fail
      go_roundw
      all_goals first
        | (simp only [intOf]; omega)
        | (simp [intOf]; omega)
        | exact ⟨j + 1, by omega, by go_num, e.out, BZ.out⟩
    case neg =>
      obtain rfl : j = an := by omega
      have AL := hide HT.out
      go_wp2_with fail
      clear p0 p1 p2 p3 p4 p5 p6
      go_loopw [55] (fun i wx => ∃ t : Nat, t ≤ cn ∧ i = .int .i64 t ∧ (∀ q, q < t → stp (CC q) q j) ∧ Below X.heap.size X wx) (fun i _ => cn - (intOf i).toNat)
      case atStart => exact ⟨0, Nat.zero_le _, rfl, fun t ht => by omega, Below.refl _ _⟩
      case round =>
        obtain ⟨Y, rfl⟩ : ∃ Y, Y = wr := ⟨_, rfl⟩
        obtain ⟨t, ht, rfl, hs, hby⟩ := hrel
        have HT2 := hide hs
        have BY := hide (BX.out.trans (hby.mono BX.out.size))
        have HB2 := hide hby
        have CY := hide (CX.out.below hby zX)
        have zY : w.heap.size < Y.heap.size := Nat.lt_of_lt_of_le zX hby.size
        obtain ⟨p0, p1, p2, p3, p4, p5, p6⟩ := CY.out
        clear hs hby
        by_cases hlt : t < cn
        case pos =>
          have tI : (t : Int) < cn := by omega
          rcases H4.out.below (BY.out.mono hB) with q0 | ⟨blk, off, rfl, hbk, hc⟩
          · omega
          obtain ⟨g0, g1, g2, gx, gy, gz⟩ := hc t hlt
          obtain ⟨⟨x, y, z⟩, hC⟩ : ∃ x, CC t = x := ⟨_, rfl⟩
          rw [hC] at g0 g1 g2 gy gz
          dsimp only at g0 g1 g2 gy gz
          have EC := hide hC
          obtain ⟨V, hV⟩ : ∃ V, Y.alloc (.cells #[.int .i64 x, .int .i64 y, .int .i64 z] 128) = V := ⟨_, rfl⟩
          have bV : Below Y.heap.size Y V := by rw [← hV]; exact (Below.refl _ _).alloc (Nat.le_refl _) _
          have y0 : V.cell? ⟨Y.heap.size, 0, none⟩ = some (.int .i64 x) := by rw [← hV]; simp [go_sem]
          have y1 : V.cell? ⟨Y.heap.size, 1, none⟩ = some (.int .i64 y) := by rw [← hV]; simp [go_sem]
          have y2 : V.cell? ⟨Y.heap.size, 2, none⟩ = some (.int .i64 z) := by rw [← hV]; simp [go_sem]
          have BV := hide (BY.out.trans (bV.mono BY.out.size))
          have HBV := hide (HB2.out.trans (bV.mono HB2.out.size))
          obtain ⟨m0, m1, m2, m3, m4, m5, m6⟩ := CY.out.below bV zY
          have CA := hide (calcFits x y z t j V gy gz)
          clear hc gx gy gz hC
          by_cases d3 : stp ⟨x, y, z⟩ t j
          case neg =>
            have e := hide (show ¬ KOk K sn SD from fun c => d3 (by have := (UN.out.1 c).2.2.2.1.2.2 t hlt; rw [EC.out] at this; exact this))
            rw [decide_eq_false d3] at CA
            clear d3
            go_wp2_with fail
            refine CA.out.mono ?_
            rintro e1 Y2 ⟨rfl, bY2⟩
            have BZ := hide (BV.out.trans (bY2.mono BV.out.size))
            go_wp2_with fail
            go_ret
            exact ⟨by rw [decide_eq_false e.out]; rfl, BZ.out⟩
          rw [decide_eq_true d3] at CA
          have e := hide (show ∀ q, q < t + 1 → stp (CC q) q j from fun q hq => by
            by_cases c : q = t
            · rw [c, EC.out]; exact d3
            · exact HT2.out q (by omega))
          clear d3
          go_wp2_with fail
          refine CA.out.mono ?_
          rintro e1 Y2 ⟨rfl, bY2⟩
          have BZ := hide (HBV.out.trans (bY2.mono HBV.out.size))
          clear bY2 bV hV
          go_wp2_with fail
          go_roundw
          all_goals first
            | (simp only [intOf]; omega)
            | (simp [intOf]; omega)
            | exact ⟨t + 1, by omega, by go_num, e.out, BZ.out⟩
        case neg =>
          obtain rfl : t = cn := by omega
          have CA := hide (accFits B ⟨u, o, ta, tr, tcap, TD⟩ la sa lr lcap sn scap LD SD Y (Nat.le_trans hB BY.out.size) (H3.out.below (BY.out.mono hB)) (H1.out.below (BY.out.mono hB)) (HS.out.below (BY.out.mono hB)) l5 UB.out LP.out SZ.out)
          unfold AV.val at CA
          dsimp only at CA
          have e := hide (show decide (AcOk ⟨u, o, ta, tr, tcap, TD⟩ lr LD sn SD) = decide (KOk K sn SD) from decide_eq_decide.2 ⟨fun c => UN.out.2 ⟨ub1, ub2, QN.out, ⟨ub3, ub4, HT2.out⟩, c, AL.out⟩, fun c => (UN.out.1 c).2.2.2.2.1⟩)
          rw [e.out] at CA
          go_wp2_with fail
          refine CA.out.mono ?_
          rintro e1 Y2 ⟨rfl, bY2⟩
          have BZ := hide (BY.out.trans (bY2.mono BY.out.size))
          go_wp2_with fail
          go_ret
          exact ⟨rfl, BZ.out⟩
end Vo
end Go.Proofs.Ytgmjijjckedmcaa
