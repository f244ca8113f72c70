/- Rooms: what is left when one is taken. -/
import Derived.Test.YtbdcbanbnbaoiaaHc
namespace Go.Proofs.Ytbdcbanbnbaoiaa
namespace Vo
open Go.ChangeShapes Go.WideShapes Go.ChangeAt Go.RowKit Go.Joins Go.Sort
open Vl Vp
set_option linter.unusedVariables false
set_option linter.unusedSimpArgs false
theorem grown_below {w w' : World} {g B : Nat} (h : w.grownBy w' (some g)) (hB : B ≤ w.heap.size) (hg : B ≤ g) : Below B w w' :=
  Kept.below (S := fun q => some g = some q) ⟨h.os, h.tape, h.output, h.size, fun b hb hn => h.block b hb (fun q => hn q.symm)⟩ hB (fun k e => by injection e with e; omega)
theorem infoRoom : (Try.prog.info? 40).map (fun i => (i.zero, i.size, i.bytes)) = some (some (.agg #[.int .i64 0, .int .i64 0]), 2, 16) := by kernel_rfl
theorem make_room (c : Nat) (hc : (c : Int) ≤ 4194304) (w : World) : (Instr.makeSlice 41 (.int .i64 0) (.int .i64 c)).run Try.prog w = .ok (.slice (some ⟨w.heap.size, 0, none⟩) 0 c) (w.alloc (.cells (madeCells #[.int .i64 0, .int .i64 0] (c * 2)) 40)) := by
  obtain ⟨i, h1, h2⟩ := Option.map_eq_some_iff.1 infoRoom
  simp only [Prod.mk.injEq] at h2
  obtain ⟨hz, hs, hb⟩ := h2
  have := run_make (P := Try.prog) w 41 40 i (.agg #[.int .i64 0, .int .i64 0]) Try.underlying41 h1 hz .i64 .i64 0 c (by omega) (by omega) (by rw [hb]; omega) (by omega)
  rw [hs] at this
  simpa [Value.cells] using this
theorem row_made (c : Nat) (hc : c ≤ maxLen) (w : World) (C : Nat → RV) : (w.alloc (.cells (madeCells #[.int .i64 0, .int .i64 0] (c * 2)) 40)).ownsRow w.heap.size 40 2 (.slice (some ⟨w.heap.size, 0, none⟩) 0 c) 0 (rvs C 0) :=
  ⟨rfl, .inr ⟨w.heap.size, c, _, rfl, Nat.le_refl _, heap_alloc_new w _, Nat.zero_le _, hc, by simp [madeCells], by simp [rvs]⟩⟩
set_option maxRecDepth 100000 in
set_option maxHeartbeats 4000000 in
theorem deletedF (B g n cap : Nat) (a b : Int) (D : Nat → RV) (w : World) (h : OR B w g n D) (hn : (n : Int) ≤ 1000000) (hb : ∀ i, i < n → rb (D i)) (ha : rb ⟨a, b⟩) :
    Calls Try.prog 17 #[.agg #[.int .i64 a, .int .i64 b], .slice (some ⟨g, 0, none⟩) n cap] w fun e w' => ∃ gl, e = .returned (.slice (some ⟨gl, 0, none⟩) (kr 1 (cutR a b D) (2 * n)).length (2 * n)) ∧ OR w.heap.size w' gl (kr 1 (cutR a b D) (2 * n)).length (lfR 1 (cutR a b D) (2 * n)) ∧ Below w.heap.size w w' := by
  obtain ⟨i0, hi0, hii⟩ := Option.map_eq_some_iff.1 infoRoom
  simp only [Prod.mk.injEq] at hii
  obtain ⟨hz0, hz1, hz2⟩ := hii
  obtain ⟨W0, hW0⟩ : ∃ W0, w.alloc (.cells #[.int .i64 a, .int .i64 b] 40) = W0 := ⟨_, rfl⟩
  have bl : Below w.heap.size w W0 := by rw [← hW0]; exact (Below.refl _ _).alloc (Nat.le_refl _) _
  have z0 : W0.heap.size = w.heap.size + 1 := by rw [← hW0]; simp
  have m0 : W0.cell? ⟨w.heap.size, 0, none⟩ = some (.int .i64 a) := by rw [← hW0]; simp [go_sem]
  have m1 : W0.cell? ⟨w.heap.size, 1, none⟩ = some (.int .i64 b) := by rw [← hW0]; simp [go_sem]
  obtain ⟨c, hc⟩ : ∃ c : Nat, c = 2 * n := ⟨_, rfl⟩
  have e2 : 2 * (n : Int) = c := by omega
  have hmk := make_room c (by omega)
  obtain ⟨W1, hW1⟩ : ∃ W1, W0.alloc (.cells (madeCells #[.int .i64 0, .int .i64 0] (c * 2)) 40) = W1 := ⟨_, rfl⟩
  have RW := hide (show W1.ownsRow W0.heap.size 40 2 (.slice (some ⟨W0.heap.size, 0, none⟩) 0 c) 0 (rvs (cutR a b D) 0) by rw [← hW1]; exact row_made c (by unfold maxLen; omega) W0 _)
  have bl1 : Below W0.heap.size W0 W1 := by rw [← hW1]; exact (Below.refl _ _).alloc (Nat.le_refl _) _
  have H := hide h
  have HB := hide hb
  have HA := hide ha
  have BL := hide bl
  have BL1 := hide bl1
  have M0 := hide (And.intro m0 m1)
  have Z0 := hide z0
  have hg := h.lt
  have EC := hide hc
  clear h hb ha bl bl1 z0 hc
  go_enter Try.func17, Try.ntmps17
  go_wp2_with fail
  clear hmk hW0 hW1 m0 m1
  go_loopw [5, 14] (fun v i wx => ∃ j : Nat, j ≤ n ∧ i = .int .i64 j ∧ v = .slice (some ⟨W0.heap.size, 0, none⟩) (2 * j) c ∧ wx.ownsRow W0.heap.size 40 2 v (2 * j) (rvs (cutR a b D) (2 * j)) ∧ Below W0.heap.size W0 wx) (fun _ i _ => n - (intOf i).toNat)
  case atStart => exact ⟨0, Nat.zero_le _, rfl, rfl, RW.out, BL1.out⟩
  case round =>
    obtain ⟨X, rfl⟩ : ∃ X, X = wr := ⟨_, rfl⟩
    obtain ⟨j, hj, rfl, rfl, hrw, hby⟩ := hrel
    have HRW := hide hrw
    have HBY := hide hby
    clear hrw hby
    have M1 := And.intro ((HBY.out.cell (p := ⟨w.heap.size, 0, none⟩) (by have := Z0.out; show w.heap.size < W0.heap.size; omega)).trans M0.out.1) ((HBY.out.cell (p := ⟨w.heap.size, 1, none⟩) (by have := Z0.out; show w.heap.size < W0.heap.size; omega)).trans M0.out.2)
    obtain ⟨m0, m1⟩ := M1
    by_cases hlt : j < n
    case neg =>
      obtain rfl : j = n := by omega
      have OO := hide (or_of_row HRW.out)
      have CW := hide (withoutF W0.heap.size W0.heap.size (2 * j) c 1 (cutR a b D) X OO.out (by omega) (by have := EC.out; omega) (fun i hi => by
        have q := HB.out (i / 2) (by omega)
        have r := HA.out
        unfold rb at q r ⊢
        dsimp only at r
        unfold cutR cutA cutB
        split
        · dsimp only; split <;> omega
        · dsimp only; split <;> omega))
      go_wp2_with fail
      refine CW.out.mono ?_
      rintro e W3 ⟨rfl, o3, k3⟩
      have O3 := hide o3
      have B3 := hide (BL.out.trans ((HBY.out.trans (k3.below HBY.out.size (fun q e => by have e : q = W0.heap.size := e; omega))).mono (by have := Z0.out; omega)))
      clear o3 k3
      go_wp2_with fail
      go_ret
      exact ⟨W0.heap.size, by rw [← EC.out]; rfl, ⟨by have := Z0.out; omega, O3.out.lt, O3.out.laid, O3.out.free⟩, B3.out⟩
    have jI : (j : Int) < n := by omega
    obtain ⟨x, hx⟩ : ∃ x, D j = x := ⟨_, rfl⟩
    obtain ⟨c0, c1⟩ := H.out.laid j hlt
    rw [hx] at c0 c1
    replace c0 := (HBY.out.cell (p := ⟨g, j * 2, none⟩) (by have := Z0.out; show g < W0.heap.size; omega)).trans ((BL.out.cell (p := ⟨g, j * 2, none⟩) hg).trans c0)
    replace c1 := (HBY.out.cell (p := ⟨g, j * 2 + 1, none⟩) (by have := Z0.out; show g < W0.heap.size; omega)).trans ((BL.out.cell (p := ⟨g, j * 2 + 1, none⟩) hg).trans c1)
    have EX := hide hx
    clear hx
    obtain ⟨Y, hY⟩ : ∃ Y, X.alloc (.cells #[.int .i64 x.f, .int .i64 x.e] 40) = Y := ⟨_, rfl⟩
    have bY : Below X.heap.size X Y := by rw [← hY]; exact (Below.refl _ _).alloc (Nat.le_refl _) _
    have zX : w.heap.size < X.heap.size := by have := Z0.out; have := HBY.out.size; omega
    have k0 : Y.cell? ⟨X.heap.size, 0, none⟩ = some (.int .i64 x.f) := by rw [← hY]; simp [go_sem]
    have k1 : Y.cell? ⟨X.heap.size, 1, none⟩ = some (.int .i64 x.e) := by rw [← hY]; simp [go_sem]
    have n0 := (bY.cell (p := ⟨w.heap.size, 0, none⟩) zX).trans m0
    have n1 := (bY.cell (p := ⟨w.heap.size, 1, none⟩) zX).trans m1
    have RY := hide (own_below HRW.out bY)
    have BY := hide (HBY.out.trans (bY.mono HBY.out.size))
    clear m0 m1 bY
    have SVX := hide (fun (pa pb : Int) (h1 : pa = (cutA a x).e) (h2 : pb = (cutB b x).f) => show rvs (cutR a b D) (2 * j) ++ [.int .i64 x.f, .int .i64 pa, .int .i64 pb, .int .i64 x.e] = rvs (cutR a b D) (2 * (j + 1)) by
      rw [show 2 * (j + 1) = 2 * j + 1 + 1 by omega, rvs, rvs, List.append_assoc]
      congr 1
      have q1 : cutR a b D (2 * j) = cutA a x := by unfold cutR; rw [if_pos (by omega), show 2 * j / 2 = j by omega, EX.out]
      have q2 : cutR a b D (2 * j + 1) = cutB b x := by unfold cutR; rw [if_neg (by omega), show (2 * j + 1) / 2 = j by omega, EX.out]
      rw [q1, q2, h1, h2]
      rfl)
    by_cases t1 : a < x.e
    case pos =>
      have E1 := hide (show a = (cutA a x).e by unfold cutA; rw [if_pos t1])
      have t1' : ¬ x.e ≤ a := by omega
      have t1'' : ¬ x.e < a := by omega
      by_cases t2 : x.f < b
      case pos =>
        have SV := hide (SVX.out a b E1.out (by unfold cutB; rw [if_pos t2]))
        have t2' : ¬ b ≤ x.f := by omega
        have t2'' : ¬ b < x.f := by omega
        go_wp2_with (at_builtin; refine wpList_append_own_spare _ rfl _ _ 41 rfl W0.heap.size 40 i0 2 Try.underlying41 hi0 hz1 W0.heap.size (2 * j) c _ rfl (RY.out.alloc _) ⟨Y.heap.size, 0, none⟩ 2 2 [.int .i64 x.f, .int .i64 a, .int .i64 b, .int .i64 x.e] rfl rfl (World.news_of_block (cs := #[.int .i64 x.f, .int .i64 a, .int .i64 b, .int .i64 x.e]) (t := 40) (fr := (0, 0)) (heap_alloc_new Y _)) (by simp [Value.oneCell']) (by have := EC.out; omega) ?_; intro X3 hown1 hgrow1)
        go_roundw
        case rel =>
          rw [SV.out] at hown1
          have BA := (BY.out.alloc BY.out.size (.cells #[.int .i64 x.f, .int .i64 a, .int .i64 b, .int .i64 x.e] 40))
          exact ⟨j + 1, by omega, by go_num, rfl, hown1, BA.trans (grown_below hgrow1 BA.size (Nat.le_refl _))⟩
        case measure => simp [intOf]; omega
      case neg =>
        have SV := hide (SVX.out a x.f E1.out (by unfold cutB; rw [if_neg t2]))
        go_wp2_with (at_builtin; refine wpList_append_own_spare _ rfl _ _ 41 rfl W0.heap.size 40 i0 2 Try.underlying41 hi0 hz1 W0.heap.size (2 * j) c _ rfl (RY.out.alloc _) ⟨Y.heap.size, 0, none⟩ 2 2 [.int .i64 x.f, .int .i64 a, .int .i64 x.f, .int .i64 x.e] rfl rfl (World.news_of_block (cs := #[.int .i64 x.f, .int .i64 a, .int .i64 x.f, .int .i64 x.e]) (t := 40) (fr := (0, 0)) (heap_alloc_new Y _)) (by simp [Value.oneCell']) (by have := EC.out; omega) ?_; intro X3 hown1 hgrow1)
        go_roundw
        case rel =>
          rw [SV.out] at hown1
          have BA := (BY.out.alloc BY.out.size (.cells #[.int .i64 x.f, .int .i64 a, .int .i64 x.f, .int .i64 x.e] 40))
          exact ⟨j + 1, by omega, by go_num, rfl, hown1, BA.trans (grown_below hgrow1 BA.size (Nat.le_refl _))⟩
        case measure => simp [intOf]; omega
    case neg =>
      have E1 := hide (show x.e = (cutA a x).e by unfold cutA; rw [if_neg t1])
      by_cases t2 : x.f < b
      case pos =>
        have SV := hide (SVX.out x.e b E1.out (by unfold cutB; rw [if_pos t2]))
        have t2' : ¬ b ≤ x.f := by omega
        have t2'' : ¬ b < x.f := by omega
        go_wp2_with (at_builtin; refine wpList_append_own_spare _ rfl _ _ 41 rfl W0.heap.size 40 i0 2 Try.underlying41 hi0 hz1 W0.heap.size (2 * j) c _ rfl (RY.out.alloc _) ⟨Y.heap.size, 0, none⟩ 2 2 [.int .i64 x.f, .int .i64 x.e, .int .i64 b, .int .i64 x.e] rfl rfl (World.news_of_block (cs := #[.int .i64 x.f, .int .i64 x.e, .int .i64 b, .int .i64 x.e]) (t := 40) (fr := (0, 0)) (heap_alloc_new Y _)) (by simp [Value.oneCell']) (by have := EC.out; omega) ?_; intro X3 hown1 hgrow1)
        go_roundw
        case rel =>
          rw [SV.out] at hown1
          have BA := (BY.out.alloc BY.out.size (.cells #[.int .i64 x.f, .int .i64 x.e, .int .i64 b, .int .i64 x.e] 40))
          exact ⟨j + 1, by omega, by go_num, rfl, hown1, BA.trans (grown_below hgrow1 BA.size (Nat.le_refl _))⟩
        case measure => simp [intOf]; omega
      case neg =>
        have SV := hide (SVX.out x.e x.f E1.out (by unfold cutB; rw [if_neg t2]))
        go_wp2_with (at_builtin; refine wpList_append_own_spare _ rfl _ _ 41 rfl W0.heap.size 40 i0 2 Try.underlying41 hi0 hz1 W0.heap.size (2 * j) c _ rfl (RY.out.alloc _) ⟨Y.heap.size, 0, none⟩ 2 2 [.int .i64 x.f, .int .i64 x.e, .int .i64 x.f, .int .i64 x.e] rfl rfl (World.news_of_block (cs := #[.int .i64 x.f, .int .i64 x.e, .int .i64 x.f, .int .i64 x.e]) (t := 40) (fr := (0, 0)) (heap_alloc_new Y _)) (by simp [Value.oneCell']) (by have := EC.out; omega) ?_; intro X3 hown1 hgrow1)
        go_roundw
        case rel =>
          rw [SV.out] at hown1
          have BA := (BY.out.alloc BY.out.size (.cells #[.int .i64 x.f, .int .i64 x.e, .int .i64 x.f, .int .i64 x.e] 40))
          exact ⟨j + 1, by omega, by go_num, rfl, hown1, BA.trans (grown_below hgrow1 BA.size (Nat.le_refl _))⟩
        case measure => simp [intOf]; omega
end Vo
end Go.Proofs.Ytbdcbanbnbaoiaa
