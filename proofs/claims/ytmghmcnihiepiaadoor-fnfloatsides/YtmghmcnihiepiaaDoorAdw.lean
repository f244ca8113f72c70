/- Sums of floats, the program's side. -/
import Derived.Test.YtmghmcnihiepiaaDoorTwo
import Derived.Test.YtmghmcnihiepiaaDoorLeb
import Derived.Lib.SmallJoins
import Derived.Deep.RegionHeld3
import Derived.Deep.DeepCutAuto
import Derived.Lib.QuietBelow
namespace Go.Proofs.YtmghmcnihiepiaaDoor
namespace FlV
open Go.ChangeShapes Go.WideShapes Go.ChangeAt Go.RowKit Go.Joins
open Flo (hide ret_int ret_bool)
set_option linter.unusedVariables false
set_option linter.unusedSimpArgs false
set_option maxHeartbeats 4000000 in
theorem addWalk (a b k1 s1 x1 y1 k2 s2 x2 y2 : Int) (s3 r : Int) (A B S : Nat → Int) (w : World) (hv : SV w)
  (hA : ∀ w, Calls Tryd.prog 24 #[.agg #[.int .u8 8, .int .u8 23], .int .i64 a] w fun e w' => e = .returned (.agg #[.int .u8 k1, .int .u8 s1, .int .i16 x1, .int .u32 y1]) ∧ Below w.heap.size w w')
  (hB : ∀ w, Calls Tryd.prog 24 #[.agg #[.int .u8 8, .int .u8 23], .int .i64 b] w fun e w' => e = .returned (.agg #[.int .u8 k2, .int .u8 s2, .int .i16 x2, .int .u32 y2]) ∧ Below w.heap.size w w')
  (hc : (k1 = 3 ∧ r = 2143289344) ∨ ((k1 == 3) = false ∧ k2 = 3 ∧ r = 2143289344) ∨ (k1 = 2 ∧ k2 = 2 ∧ (s1 == s2) = false ∧ r = 2143289344) ∨ (k1 = 2 ∧ k2 = 2 ∧ s1 = s2 ∧ r = a) ∨ (k1 = 2 ∧ (k2 = 0 ∨ k2 = 1) ∧ r = a) ∨ ((k1 = 0 ∨ k1 = 1) ∧ k2 = 2 ∧ r = b) ∨
    (k1 = 0 ∧ k2 = 0 ∧ bits .and .u8 s1 s2 = s3 ∧ 0 ≤ s3 ∧ s3 ≤ 1 ∧ r = s3 * 2147483648) ∨
    (((k1 = 1 ∧ (k2 = 0 ∨ k2 = 1)) ∨ (k1 = 0 ∧ k2 = 1)) ∧
      (∀ w, SV w → Calls Tryd.prog 26 #[.agg #[.int .u8 k1, .int .u8 s1, .int .i16 x1, .int .u32 y1]] w fun e w' => e = .returned (.agg #[.int .u64 (A 0), .int .u64 (A 1), .int .u64 (A 2), .int .u64 (A 3), .int .u64 (A 4)]) ∧ Below w.heap.size w w') ∧
      (∀ w, SV w → Calls Tryd.prog 26 #[.agg #[.int .u8 k2, .int .u8 s2, .int .i16 x2, .int .u32 y2]] w fun e w' => e = .returned (.agg #[.int .u64 (B 0), .int .u64 (B 1), .int .u64 (B 2), .int .u64 (B 3), .int .u64 (B 4)]) ∧ Below w.heap.size w w') ∧
      (∀ w, Calls Tryd.prog 27 #[.agg #[.int .u64 (A 0), .int .u64 (A 1), .int .u64 (A 2), .int .u64 (A 3), .int .u64 (A 4)], .agg #[.int .u64 (B 0), .int .u64 (B 1), .int .u64 (B 2), .int .u64 (B 3), .int .u64 (B 4)]] w fun e w' => e = .returned (.agg #[.int .u64 (S 0), .int .u64 (S 1), .int .u64 (S 2), .int .u64 (S 3), .int .u64 (S 4)]) ∧ Below w.heap.size w w') ∧
      (∀ w, SV w → Calls Tryd.prog 28 #[.agg #[.int .u64 (S 0), .int .u64 (S 1), .int .u64 (S 2), .int .u64 (S 3), .int .u64 (S 4)]] w fun e w' => e = .returned (.int .i64 r) ∧ Below w.heap.size w w'))) :
    Calls Tryd.prog 11 #[.int .i64 a, .int .i64 b] w fun e w' => e = .returned (.int .i64 r) ∧ Below w.heap.size w w' := by
  obtain ⟨v0, v1⟩ := hv.cells
  have hw0 : 0 < w.heap.size := block_lt_of_cell v0
  have HA := hide hA
  have HB := hide hB
  have HC := hide hc
  have HV := hide hv
  clear hA hB hc hv
  go_enter Tryd.func11, Tryd.ntmps11
  go_wp2_with fail
  go_cut [5, 6] (fun p q wx => Pair w wx p q k1 s1 x1 y1 k2 s2 x2 y2)
  case first =>
    go_region_held3 (fun w' => w'.cell? ⟨0, 0, none⟩ = some (.int .u8 8) ∧ w'.cell? ⟨0, 1, none⟩ = some (.int .u8 23)) ((try dsimp only) <;> (repeat' apply And.intro) <;> (repeat (first | with_reducible assumption | with_reducible apply drew_old | with_reducible apply alloc_old' | (with_reducible apply set_old; (focus (first | (dsimp only; omega) | (simp; done) | (simp; omega)))) | (with_reducible apply below_old; (focus (with_reducible assumption))))))
      (first
        | (go_at_call_of 24 (Value.int IntKind.i64 a); refine (HA.out _).mono ?_; rintro e w1 ⟨rfl, b1⟩; have s1' := b1.size; (try simp only [World.size_drew, World.size_alloc, World.size_setCell] at s1');
            (try (refine keep_then b1 w.heap.size ?_ ?_; (focus ((try simp only [World.size_drew, World.size_alloc, World.size_setCell]) <;> omega)); intro g1 g2 g1a g1b g1c g1d)); (try (refine keep_then b1 (w.heap.size + 1) ?_ ?_; (focus ((try simp only [World.size_drew, World.size_alloc, World.size_setCell]) <;> omega)); intro g3 g4 g3a g3b g3c g3d)); (try (refine ne_then (w.heap.size) (w1.heap.size) ?_ ?_; (focus omega); intro n00 n00')); (try (refine ne_then (w.heap.size) (w1.heap.size + 1) ?_ ?_; (focus omega); intro n01 n01')); (try (refine ne_then (w.heap.size + 1) (w1.heap.size) ?_ ?_; (focus omega); intro n10 n10')); (try (refine ne_then (w.heap.size + 1) (w1.heap.size + 1) ?_ ?_; (focus omega); intro n11 n11')))
        | (go_at_call_of 24 (Value.int IntKind.i64 b); refine (HB.out _).mono ?_; rintro e w2 ⟨rfl, b2⟩; have s2' := b2.size; (try simp only [World.size_drew, World.size_alloc, World.size_setCell] at s2');
            (try (refine keep_then b2 w.heap.size ?_ ?_; (focus ((try simp only [World.size_drew, World.size_alloc, World.size_setCell]) <;> omega)); intro h1 h2 h1a h1b h1c h1d)); (try (refine keep_then b2 (w.heap.size + 1) ?_ ?_; (focus ((try simp only [World.size_drew, World.size_alloc, World.size_setCell]) <;> omega)); intro h3 h4 h3a h3b h3c h3d)); (try (refine keep_then b2 w1.heap.size ?_ ?_; (focus ((try simp only [World.size_drew, World.size_alloc, World.size_setCell]) <;> omega)); intro h5 h6 h5a h5b h5c h5d)); (try (refine keep_then b2 (w1.heap.size + 1) ?_ ?_; (focus ((try simp only [World.size_drew, World.size_alloc, World.size_setCell]) <;> omega)); intro h7 h8 h7a h7b h7c h7d)); (try (refine ne_then (w.heap.size) (w2.heap.size) ?_ ?_; (focus omega); intro m00 m00')); (try (refine ne_then (w.heap.size) (w2.heap.size + 1) ?_ ?_; (focus omega); intro m01 m01')); (try (refine ne_then (w.heap.size + 1) (w2.heap.size) ?_ ?_; (focus omega); intro m10 m10')); (try (refine ne_then (w.heap.size + 1) (w2.heap.size + 1) ?_ ?_; (focus omega); intro m11 m11')); (try (refine ne_then (w1.heap.size) (w2.heap.size) ?_ ?_; (focus omega); intro m20 m20')); (try (refine ne_then (w1.heap.size) (w2.heap.size + 1) ?_ ?_; (focus omega); intro m21 m21')); (try (refine ne_then (w1.heap.size + 1) (w2.heap.size) ?_ ?_; (focus omega); intro m30 m30')); (try (refine ne_then (w1.heap.size + 1) (w2.heap.size + 1) ?_ ?_; (focus omega); intro m31 m31'))))
    all_goals (go_wp2_with fail)
    all_goals go_meet
    all_goals (refine ⟨_, _, rfl, rfl, ⟨?_, ?_, ?_, ?_⟩, ⟨?_, ?_, ?_, ?_⟩, ?_⟩)
    all_goals first
      | (simp [go_sem, *]; done)
      | (repeat (first | with_reducible exact Below.refl _ _ | with_reducible apply bl_drew | with_reducible apply bl_alloc | (with_reducible apply bl_set; (focus (dsimp only; omega))) | (with_reducible apply bl_below; (focus (with_reducible assumption)))))
  case rest =>
    obtain ⟨P, Q, rfl, rfl, ⟨p0, p1, p2, p3⟩, ⟨q0, q1, q2, q3⟩, bP⟩ := hcut
    have hc := HC.out
    have hv := HV.out.below bP
    obtain ⟨u0, u1⟩ := hv.cells
    clear HA HB HC HV v0 v1 hw0
    rcases hc with ⟨rfl, rfl⟩ | ⟨c1, rfl, rfl⟩ | ⟨rfl, rfl, hs, rfl⟩ | ⟨rfl, rfl, rfl, rfl⟩ | ⟨rfl, hk, rfl⟩ | ⟨hk, rfl, rfl⟩ | ⟨rfl, rfl, hx, t0, t1, rfl⟩ | ⟨hk, hWa, hWb, hPl, hRd⟩
    · clear u0 u1
      go_wp2_with fail
      go_ret
      exact ⟨rfl, bP⟩
    · clear u0 u1
      go_wp2_with fail
      go_ret
      exact ⟨rfl, bP⟩
    · clear u0 u1
      go_wp2_with fail
      go_ret
      exact ⟨rfl, bP⟩
    · clear u0 u1
      go_wp2_with fail
      go_ret
      exact ⟨rfl, bP⟩
    · clear u0 u1
      rcases hk with rfl | rfl
      all_goals
        go_wp2_with fail
        go_ret
        exact ⟨rfl, bP⟩
    · clear u0 u1
      rcases hk with rfl | rfl
      all_goals
        go_wp2_with fail
        go_ret
        exact ⟨rfl, bP⟩
    · go_wp2_with fail
      refine (FlP.zeroS s3 _ t0 t1).mono ?_; rintro e w2 ⟨rfl, b2⟩
      go_wp2_with fail
      go_ret
      exact ⟨rfl, bP.trans (b2.mono bP.size)⟩
    · have HVr : ∀ d os, SV (Sort.grow (redrawn wc d) os) := fun d os => hv.below (below_regrown wc d os)
      have k10 := cell_regrown p0
      have k11 := cell_regrown p1
      have k12 := cell_regrown p2
      have k13 := cell_regrown p3
      have k20 := cell_regrown q0
      have k21 := cell_regrown q1
      have k22 := cell_regrown q2
      have k23 := cell_regrown q3
      have CA := hide (fun d os => Calls.regrown_of (d := d) (os := os) (w := wc) (hWa _ (HVr d os)))
      have CB := hide (fun d os => Calls.regrown_of (d := d) (os := os) (w := wc) (hWb _ (HVr d os)))
      have CP := hide (fun d os => Calls.regrown_of (d := d) (os := os) (w := wc) (hPl _))
      have CR := hide (fun d os => Calls.regrown_of (d := d) (os := os) (w := wc) (hRd _ (HVr d os)))
      clear hWa hWb hPl hRd HVr u0 u1
      rcases hk with ⟨rfl, rfl | rfl⟩ | ⟨rfl, rfl⟩
      · go_wp2_with fail
        clear p0 p1 p2 p3 q0 q1 q2 q3
        refine wp_region_quiet_below (by kernel_rfl) (by kernel_rfl) ?_
        repeat (quiet_step (first | (go_at_call_of 26 (Value.agg #[Value.int IntKind.u8 1, Value.int IntKind.u8 s1, Value.int IntKind.i16 x1, Value.int IntKind.u32 y1]); exact CA.out _ _) | (go_at_call_of 26 (Value.agg #[Value.int IntKind.u8 0, Value.int IntKind.u8 s2, Value.int IntKind.i16 x2, Value.int IntKind.u32 y2]); exact CB.out _ _) | (go_at_call 27; exact CP.out _ _) | (go_at_call 28; exact CR.out _ _)))
        refine wpQuiet_nil ?_
        intro _ hw'
        obtain ⟨⟨dq, osq⟩, hw''⟩ := hw'
        subst hw''
        go_wp2_with fail
        go_ret
        exact ⟨rfl, bP.trans ((below_regrown _ dq osq).mono bP.size)⟩
      · go_wp2_with fail
        clear p0 p1 p2 p3 q0 q1 q2 q3
        refine wp_region_quiet_below (by kernel_rfl) (by kernel_rfl) ?_
        repeat (quiet_step (first | (go_at_call_of 26 (Value.agg #[Value.int IntKind.u8 1, Value.int IntKind.u8 s1, Value.int IntKind.i16 x1, Value.int IntKind.u32 y1]); exact CA.out _ _) | (go_at_call_of 26 (Value.agg #[Value.int IntKind.u8 1, Value.int IntKind.u8 s2, Value.int IntKind.i16 x2, Value.int IntKind.u32 y2]); exact CB.out _ _) | (go_at_call 27; exact CP.out _ _) | (go_at_call 28; exact CR.out _ _)))
        refine wpQuiet_nil ?_
        intro _ hw'
        obtain ⟨⟨dq, osq⟩, hw''⟩ := hw'
        subst hw''
        go_wp2_with fail
        go_ret
        exact ⟨rfl, bP.trans ((below_regrown _ dq osq).mono bP.size)⟩
      · go_wp2_with fail
        clear p0 p1 p2 p3 q0 q1 q2 q3
        refine wp_region_quiet_below (by kernel_rfl) (by kernel_rfl) ?_
        repeat (quiet_step (first | (go_at_call_of 26 (Value.agg #[Value.int IntKind.u8 0, Value.int IntKind.u8 s1, Value.int IntKind.i16 x1, Value.int IntKind.u32 y1]); exact CA.out _ _) | (go_at_call_of 26 (Value.agg #[Value.int IntKind.u8 1, Value.int IntKind.u8 s2, Value.int IntKind.i16 x2, Value.int IntKind.u32 y2]); exact CB.out _ _) | (go_at_call 27; exact CP.out _ _) | (go_at_call 28; exact CR.out _ _)))
        refine wpQuiet_nil ?_
        intro _ hw'
        obtain ⟨⟨dq, osq⟩, hw''⟩ := hw'
        subst hw''
        go_wp2_with fail
        go_ret
        exact ⟨rfl, bP.trans ((below_regrown _ dq osq).mono bP.size)⟩
end FlV
end Go.Proofs.YtmghmcnihiepiaaDoor
