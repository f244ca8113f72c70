/- What a nest must be: the model's kernels. -/
import Derived.Test.YtgmjijjckedmcaaJi
namespace Go.Proofs.Ytgmjijjckedmcaa
namespace Vo
open Go.ChangeShapes Go.WideShapes Go.ChangeAt Go.RowKit Go.Joins Go.Sort
open Vl Vp
set_option linter.unusedVariables false
set_option linter.unusedSimpArgs false
/-- a kernel that can be, over buffers of these sizes -/
def KOk (k : KV) (sn : Nat) (SD : Nat → Int) : Prop :=
  k.lr ≤ 12 ∧ k.an ≤ 30 ∧ pd k.LD k.lr ≠ 0 ∧ CdOk k.cn k.CC k.an ∧ AcOk k.st k.lr k.LD sn SD ∧ ∀ i, i < k.an → AcOk (k.AA i) k.lr k.LD sn SD ∧ (k.AA i).u ≠ k.st.u
instance (k : KV) (sn : Nat) (SD : Nat → Int) : Decidable (KOk k sn SD) := by unfold KOk; infer_instance
set_option maxRecDepth 100000 in
set_option maxHeartbeats 8000000 in
theorem l11Kernel (B : Nat) (k : KV) (sa : Option Addr) (sn scap : Nat) (SD : Nat → Int) (w : World) (hB : B ≤ w.heap.size) (h : k.read B w) (hs : Ints B w sa sn SD) (hl : k.len 1048576) (sz : SzOk sn SD) :
    Calls Try.prog 48 #[k.val, .slice sa sn scap] w fun e w' => e = .returned (.bool (decide (KOk k sn SD))) ∧ Below w.heap.size w w' := by
  obtain ⟨la, lr, lcap, LD, aa, an, acap, AA, ⟨u, o, ta, tr, tcap, TD⟩, sm, ca, cn, ccap, CC⟩ := k
  obtain ⟨h1, h2, ⟨h3, _⟩, h4⟩ := h
  obtain ⟨l2, l3, l4, l5, l6⟩ := hl
  unfold KV.val
  dsimp only at *
  obtain ⟨W1, hW1⟩ : ∃ W1, w.alloc (.cells #[.slice la lr lcap, .slice aa an acap, .int .i64 u, .int .i64 o, .slice ta tr tcap, .bool sm, .slice ca cn ccap] 90) = W1 := ⟨_, rfl⟩
  have BL := hide (show Below w.heap.size w W1 by rw [← hW1]; exact (Below.refl _ _).alloc (Nat.le_refl _) _)
  have p := Cells7.new w (.slice la lr lcap) (.slice aa an acap) (.int .i64 u) (.int .i64 o) (.slice ta tr tcap) (.bool sm) (.slice ca cn ccap) 90
  rw [hW1] at p
  have C1 := hide p
  have z1 : w.heap.size < W1.heap.size := World.block_lt_of_cell? _ _ p.1
  obtain ⟨p0, p1, p2, p3, p4, p5, p6⟩ := p
  have H1 := hide h1
  have H2 := hide h2
  have H3 := hide h3
  have H4 := hide h4
  have HS := hide hs
  have L4 := hide l4
  have SZ := hide sz
  clear h1 h2 h3 h4 hs l4 sz
  obtain ⟨K, hK⟩ : ∃ K : KV, K = ⟨la, lr, lcap, LD, aa, an, acap, AA, ⟨u, o, ta, tr, tcap, TD⟩, sm, ca, cn, ccap, CC⟩ := ⟨_, rfl⟩
  rw [← hK]
  have UN := hide (show KOk K sn SD ↔ (lr ≤ 12 ∧ an ≤ 30 ∧ pd LD lr ≠ 0 ∧ CdOk cn CC an ∧ AcOk ⟨u, o, ta, tr, tcap, TD⟩ lr LD sn SD ∧ ∀ i, i < an → AcOk (AA i) lr LD sn SD ∧ (AA i).u ≠ u) by rw [hK]; exact Iff.rfl)
  clear hK
  go_enter Try.func48, Try.ntmps48
  by_cases c1 : 12 < (lr : Int)
  · have e := hide (show ¬ KOk K sn SD from fun q => by have := (UN.out.1 q).1; omega)
    go_wp2_with fail
    go_ret
    exact ⟨by rw [decide_eq_false e.out]; rfl, BL.out⟩
  have c1' : decide (12 < (lr : Int)) = false := by rw [decide_eq_false_iff_not]; exact c1
  have c1'' : decide (12 < lr) = false := by rw [decide_eq_false_iff_not]; omega
  by_cases c2 : 30 < (an : Int)
  · have e := hide (show ¬ KOk K sn SD from fun q => by have := (UN.out.1 q).2.1; omega)
    clear c1
    go_wp2_with fail
    go_ret
    exact ⟨by rw [decide_eq_false e.out]; rfl, BL.out⟩
  have c2' : decide (30 < (an : Int)) = false := by rw [decide_eq_false_iff_not]; exact c2
  have c2'' : decide (30 < an) = false := by rw [decide_eq_false_iff_not]; omega
  have u1 : lr ≤ 12 := by omega
  have u2 : an ≤ 30 := by omega
  clear c1 c2
  obtain ⟨q, hq⟩ : ∃ q, pd LD lr = q := ⟨_, rfl⟩
  have CP := hide (show Calls Try.prog 49 #[.slice la lr lcap] W1 (fun e w' => e = .returned (.int .i64 q) ∧ w' = W1) by rw [← hq]; exact l11Product B la lr lcap LD W1 (H1.out.below (BL.out.mono hB)) l2)
  have EQ := hide hq
  clear hq
  by_cases q0 : q = 0
  · have e := hide (show ¬ KOk K sn SD from fun c => (UN.out.1 c).2.2.1 (by rw [EQ.out]; exact q0))
    subst q0
    go_wp2_with fail
    refine CP.out.mono ?_
    rintro e1 w1 ⟨rfl, rfl⟩
    go_wp2_with fail
    go_ret
    exact ⟨by rw [decide_eq_false e.out]; rfl, BL.out⟩
  have q0' : (q == 0) = false := by simp [q0]
  have LP := hide (show LpOk lr LD from ⟨u1, pd_each (by rw [EQ.out]; exact q0)⟩)
  have QN := hide q0
  clear q0
  go_wp2_with fail
  refine CP.out.mono ?_
  rintro e1 w1 ⟨rfl, rfl⟩
  clear CP
  have CC1 := hide (l11Code B ca cn ccap CC an w1 (Nat.le_trans hB BL.out.size) (H4.out.below (BL.out.mono hB)) l6 (by omega) (by omega))
  by_cases d1 : CdOk cn CC an
  case neg =>
    have e := hide (show ¬ KOk K sn SD from fun c => d1 (UN.out.1 c).2.2.2.1)
    rw [decide_eq_false d1] at CC1
    clear d1
    go_wp2_with fail
    refine CC1.out.mono ?_
    rintro e1 w2 ⟨rfl, b2⟩
    have BL2 := hide (BL.out.trans (b2.mono BL.out.size))
    go_wp2_with fail
    go_ret
    exact ⟨by rw [decide_eq_false e.out]; rfl, BL2.out⟩
  rw [decide_eq_true d1] at CC1
  have D1 := hide d1
  clear d1
  go_wp2_with fail
  refine CC1.out.mono ?_
  rintro e1 w2 ⟨rfl, b2⟩
  have BL2 := hide (BL.out.trans (b2.mono BL.out.size))
  have C2 := hide (C1.out.below b2 z1)
  have z2 : w.heap.size < w2.heap.size := Nat.lt_of_lt_of_le z1 b2.size
  clear CC1 b2 p0 p1 p2 p3 p4 p5 p6
  obtain ⟨p0, p1, p2, p3, p4, p5, p6⟩ := C2.out
  have CA := hide (l11Access B ⟨u, o, ta, tr, tcap, TD⟩ la sa lr lcap sn scap LD SD w2 (Nat.le_trans hB BL2.out.size) (H3.out.below (BL2.out.mono hB)) (H1.out.below (BL2.out.mono hB)) (HS.out.below (BL2.out.mono hB)) l5 LP.out SZ.out)
  unfold AV.val at CA
  dsimp only at CA
  by_cases d2 : AcOk ⟨u, o, ta, tr, tcap, TD⟩ lr LD sn SD
  case neg =>
    have e := hide (show ¬ KOk K sn SD from fun c => d2 (UN.out.1 c).2.2.2.2.1)
    rw [decide_eq_false d2] at CA
    clear d2
    go_wp2_with fail
    refine CA.out.mono ?_
    rintro e1 w3 ⟨rfl, b3⟩
    have BL3 := hide (BL2.out.trans (b3.mono BL2.out.size))
    go_wp2_with fail
    go_ret
    exact ⟨by rw [decide_eq_false e.out]; rfl, BL3.out⟩
  rw [decide_eq_true d2] at CA
  have D2 := hide d2
  clear d2
  go_wp2_with fail
  refine CA.out.mono ?_
  rintro e1 w3 ⟨rfl, b3⟩
  have BL3 := hide (BL2.out.trans (b3.mono BL2.out.size))
  have C3 := hide (C2.out.below b3 z2)
  have z3 : w.heap.size < w3.heap.size := Nat.lt_of_lt_of_le z2 b3.size
  clear CA b3 p0 p1 p2 p3 p4 p5 p6 hW1
  obtain ⟨p0, p1, p2, p3, p4, p5, p6⟩ := C3.out
  go_wp2_with fail
  clear p0 p1 p2 p3 p4 p5 p6
  go_loopw [5] (fun i wx => ∃ j : Nat, j ≤ an ∧ i = .int .i64 j ∧ (∀ t, t < j → AcOk (AA t) lr LD sn SD ∧ (AA t).u ≠ u) ∧ Below w3.heap.size w3 wx) (fun i _ => an - (intOf i).toNat)
  case atStart => exact ⟨0, Nat.zero_le _, rfl, fun t ht => by omega, Below.refl _ _⟩
  case round =>
    obtain ⟨X, rfl⟩ : ∃ X, X = wr := ⟨_, rfl⟩
    obtain ⟨j, hj, rfl, hs, hby⟩ := hrel
    have HT := hide hs
    have BX := hide (BL3.out.trans (hby.mono BL3.out.size))
    have HBY := hide hby
    obtain ⟨p0, p1, p2, p3, p4, p5, p6⟩ := C3.out.below hby z3
    clear hs hby
    by_cases hlt : j < an
    case neg =>
      obtain rfl : j = an := by omega
      have e := hide (show KOk K sn SD from UN.out.2 ⟨u1, u2, by rw [EQ.out]; exact QN.out, D1.out, D2.out, HT.out⟩)
      go_wp2_with fail
      go_ret
      exact ⟨by rw [decide_eq_true e.out]; rfl, BX.out⟩
    have jI : (j : Int) < an := by omega
    rcases H2.out.below (BX.out.mono hB) with q0 | ⟨blk, off, rfl, hbk, hc⟩
    · omega
    obtain ⟨g0, g1, g2, gi, _⟩ := hc j hlt
    have CA := hide (fun (W : World) (hW : Below X.heap.size X W) => l11Access B (AA j) la sa lr lcap sn scap LD SD W (Nat.le_trans (Nat.le_trans hB BX.out.size) hW.size) (gi.below (hW.mono (Nat.le_trans hB BX.out.size))) (H1.out.below ((BX.out.trans (hW.mono BX.out.size)).mono hB)) (HS.out.below ((BX.out.trans (hW.mono BX.out.size)).mono hB)) (L4.out j hlt) LP.out SZ.out)
    unfold AV.val at CA
    clear hc gi
    have k0 := cell_regrown p0
    have k1 := cell_regrown p1
    have k2 := cell_regrown p2
    have k3 := cell_regrown g0
    have k4 := cell_regrown g1
    have k5 := cell_regrown g2
    by_cases d3 : AcOk (AA j) lr LD sn SD
    case neg =>
      have e := hide (show ¬ KOk K sn SD from fun c => d3 ((UN.out.1 c).2.2.2.2.2 j hlt).1)
      have CF := hide (fun (q1 : Nat) (os : Array Obj) => show Calls Try.prog 79 #[.agg #[.int .i64 (AA j).u, .int .i64 (AA j).o, .slice (AA j).a (AA j).r (AA j).cap], .slice la lr lcap, .slice sa sn scap] (Sort.grow (redrawn X q1) os) (fun e w'' => e = .returned (.bool false) ∧ ∃ p : Regrown, w'' = Sort.grow (redrawn X p.d) p.os) from Calls.regrown_of (by have := CA.out (Sort.grow (redrawn X q1) os) (below_regrown X q1 os); rwa [decide_eq_false d3] at this))
      clear CA d3
      go_wp2_with fail
      refine wp_region_quiet_below (by kernel_rfl) (by kernel_rfl) ?_
      repeat (go_big_quiet_step (first | (go_at_call 79; exact CF.out _ _)))
      refine wpQuiet_nil ?_
      intro _ hw'
      obtain ⟨⟨dq, osq⟩, hw''⟩ := hw'
      subst hw''
      go_wp2_with fail
      go_ret
      exact ⟨by rw [decide_eq_false e.out]; rfl, BX.out.trans ((below_regrown X dq osq).mono BX.out.size)⟩
    have CF := hide (fun (q1 : Nat) (os : Array Obj) => show Calls Try.prog 79 #[.agg #[.int .i64 (AA j).u, .int .i64 (AA j).o, .slice (AA j).a (AA j).r (AA j).cap], .slice la lr lcap, .slice sa sn scap] (Sort.grow (redrawn X q1) os) (fun e w'' => e = .returned (.bool true) ∧ ∃ p : Regrown, w'' = Sort.grow (redrawn X p.d) p.os) from Calls.regrown_of (by have := CA.out (Sort.grow (redrawn X q1) os) (below_regrown X q1 os); rwa [decide_eq_true d3] at this))
    have D3 := hide d3
    clear CA d3
    by_cases d4 : (AA j).u = u
    · have e := hide (show ¬ KOk K sn SD from fun c => ((UN.out.1 c).2.2.2.2.2 j hlt).2 d4)
      have d4' : ((AA j).u == u) = true := by simp [d4]
      clear d4
      go_wp2_with fail
      refine wp_region_quiet_below (by kernel_rfl) (by kernel_rfl) ?_
      repeat (go_big_quiet_step (first | (go_at_call 79; exact CF.out _ _)))
      refine wpQuiet_nil ?_
      intro _ hw'
      obtain ⟨⟨dq, osq⟩, hw''⟩ := hw'
      subst hw''
      go_wp2_with fail
      go_ret
      exact ⟨by rw [decide_eq_false e.out]; rfl, BX.out.trans ((below_regrown X dq osq).mono BX.out.size)⟩
    have d4' : ((AA j).u == u) = false := by simp [d4]
    have D4 := hide d4
    clear d4
    go_wp2_with fail
    refine wp_region_quiet_below (by kernel_rfl) (by kernel_rfl) ?_
    repeat (go_big_quiet_step (first | (go_at_call 79; exact CF.out _ _)))
    refine wpQuiet_nil ?_
    intro _ hw'
    obtain ⟨⟨dq, osq⟩, hw''⟩ := hw'
    subst hw''
    go_wp2_with fail
    go_roundw
    all_goals first
      | (simp only [intOf]; omega)
      | (simp [intOf]; omega)
      | exact ⟨j + 1, by omega, by go_num, fun t ht => by
          by_cases c : t = j
          · rw [c]; exact ⟨D3.out, D4.out⟩
          · exact HT.out t (by omega), HBY.out.trans ((below_regrown X dq osq).mono HBY.out.size)⟩
end Vo
end Go.Proofs.Ytgmjijjckedmcaa
