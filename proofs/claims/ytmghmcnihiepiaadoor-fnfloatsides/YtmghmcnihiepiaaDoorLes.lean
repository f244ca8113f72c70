/- Which float is less, on both sides. -/
import Derived.Test.YtmghmcnihiepiaaDoorTwo
import Derived.Lib.SmallJoins
import Derived.Deep.RegionHeld3
import Derived.Deep.DeepCutAuto
import Derived.Lib.QuietBelow
namespace Go.Proofs.YtmghmcnihiepiaaDoor
namespace FlV
open Go.ChangeShapes Go.WideShapes Go.ChangeAt Go.RowKit Go.Joins
open Flo (hide ret_int ret_bool)
set_option linter.unusedVariables false
set_option linter.unusedSimpArgs false


set_option maxHeartbeats 4000000 in
theorem lessWalk (a b k1 s1 x1 y1 k2 s2 x2 y2 : Int) (r : Bool) (w : World) (hv : SV w)
  (hA : ∀ w, Calls Tryd.prog 24 #[.agg #[.int .u8 8, .int .u8 23], .int .i64 a] w fun e w' => e = .returned (.agg #[.int .u8 k1, .int .u8 s1, .int .i16 x1, .int .u32 y1]) ∧ Below w.heap.size w w')
  (hB : ∀ w, Calls Tryd.prog 24 #[.agg #[.int .u8 8, .int .u8 23], .int .i64 b] w fun e w' => e = .returned (.agg #[.int .u8 k2, .int .u8 s2, .int .i16 x2, .int .u32 y2]) ∧ Below w.heap.size w w')
  (hc : (k1 = 3 ∧ r = false) ∨ ((k1 == 3) = false ∧ k2 = 3 ∧ r = false) ∨ ((k1 == 3) = false ∧ (k2 == 3) = false ∧ Num a s1 ∧ Num b s2 ∧ r = decide (rank a s1 < rank b s2))) :
    Calls Tryd.prog 14 #[.int .i64 a, .int .i64 b] w fun e w' => e = .returned (.bool r) ∧ Below w.heap.size w w' := by
  obtain ⟨v0, v1⟩ := hv.cells
  have hw0 : 0 < w.heap.size := block_lt_of_cell v0
  have HA := hide hA
  have HB := hide hB
  have HC := hide hc
  have HV := hide hv
  clear hA hB hc hv
  go_enter Tryd.func14, Tryd.ntmps14
  go_wp2_with fail
  go_cut [5, 6] (fun p q wx => Pair w wx p q k1 s1 x1 y1 k2 s2 x2 y2)
  case first =>
    go_region_held3 (fun w' => w'.cell? ⟨0, 0, none⟩ = some (.int .u8 8) ∧ w'.cell? ⟨0, 1, none⟩ = some (.int .u8 23)) ((try dsimp only) <;> (repeat' apply And.intro) <;> (repeat (first | with_reducible assumption | with_reducible apply drew_old | with_reducible apply alloc_old' | (with_reducible apply set_old; (focus (first | (dsimp only; omega) | (simp; done) | (simp; omega)))) | (with_reducible apply below_old; (focus (with_reducible assumption))))))
      (first
        | (go_at_call_of 24 (Value.int IntKind.i64 a); refine (HA.out _).mono ?_; rintro e w1 ⟨rfl, b1⟩; have s1' := b1.size; (try simp only [World.size_drew, World.size_alloc, World.size_setCell] at s1');
            (try (refine keep_then b1 w.heap.size ?_ ?_; (focus ((try simp only [World.size_drew, World.size_alloc, World.size_setCell]) <;> omega)); intro g1 g2 g1a g1b g1c g1d)); (try (refine keep_then b1 (w.heap.size + 1) ?_ ?_; (focus ((try simp only [World.size_drew, World.size_alloc, World.size_setCell]) <;> omega)); intro g3 g4 g3a g3b g3c g3d)); (try (refine ne_then (w.heap.size) (w1.heap.size) ?_ ?_; (focus omega); intro n00 n00')); (try (refine ne_then (w.heap.size) (w1.heap.size + 1) ?_ ?_; (focus omega); intro n01 n01')); (try (refine ne_then (w.heap.size + 1) (w1.heap.size) ?_ ?_; (focus omega); intro n10 n10')); (try (refine ne_then (w.heap.size + 1) (w1.heap.size + 1) ?_ ?_; (focus omega); intro n11 n11')))
        | (go_at_call_of 24 (Value.int IntKind.i64 b); refine (HB.out _).mono ?_; rintro e w2 ⟨rfl, b2⟩; have s2' := b2.size; (try simp only [World.size_drew, World.size_alloc, World.size_setCell] at s2');
            (try (refine keep_then b2 w.heap.size ?_ ?_; (focus ((try simp only [World.size_drew, World.size_alloc, World.size_setCell]) <;> omega)); intro h1 h2 h1a h1b h1c h1d)); (try (refine keep_then b2 (w.heap.size + 1) ?_ ?_; (focus ((try simp only [World.size_drew, World.size_alloc, World.size_setCell]) <;> omega)); intro h3 h4 h3a h3b h3c h3d)); (try (refine keep_then b2 w1.heap.size ?_ ?_; (focus ((try simp only [World.size_drew, World.size_alloc, World.size_setCell]) <;> omega)); intro h5 h6 h5a h5b h5c h5d)); (try (refine keep_then b2 (w1.heap.size + 1) ?_ ?_; (focus ((try simp only [World.size_drew, World.size_alloc, World.size_setCell]) <;> omega)); intro h7 h8 h7a h7b h7c h7d)); (try (refine ne_then (w.heap.size) (w2.heap.size) ?_ ?_; (focus omega); intro m00 m00')); (try (refine ne_then (w.heap.size) (w2.heap.size + 1) ?_ ?_; (focus omega); intro m01 m01')); (try (refine ne_then (w.heap.size + 1) (w2.heap.size) ?_ ?_; (focus omega); intro m10 m10')); (try (refine ne_then (w.heap.size + 1) (w2.heap.size + 1) ?_ ?_; (focus omega); intro m11 m11')); (try (refine ne_then (w1.heap.size) (w2.heap.size) ?_ ?_; (focus omega); intro m20 m20')); (try (refine ne_then (w1.heap.size) (w2.heap.size + 1) ?_ ?_; (focus omega); intro m21 m21')); (try (refine ne_then (w1.heap.size + 1) (w2.heap.size) ?_ ?_; (focus omega); intro m30 m30')); (try (refine ne_then (w1.heap.size + 1) (w2.heap.size + 1) ?_ ?_; (focus omega); intro m31 m31'))))
    all_goals (go_wp2_with fail)
    all_goals go_meet
    all_goals (refine ⟨_, _, rfl, rfl, ⟨?_, ?_, ?_, ?_⟩, ⟨?_, ?_, ?_, ?_⟩, ?_⟩)
    all_goals first
      | (simp [go_sem, *]; done)
      | (repeat (first | with_reducible exact Below.refl _ _ | with_reducible apply bl_drew | with_reducible apply bl_alloc | (with_reducible apply bl_set; (focus (dsimp only; omega))) | (with_reducible apply bl_below; (focus (with_reducible assumption)))))
  case rest =>
    obtain ⟨P, Q, rfl, rfl, ⟨p0, p1, p2, p3⟩, ⟨q0, q1, q2, q3⟩, bP⟩ := hcut
    have hc := HC.out
    have hv := HV.out.below bP
    obtain ⟨u0, u1⟩ := hv.cells
    clear HA HB HC HV v0 v1 hw0
    rcases hc with ⟨rfl, rfl⟩ | ⟨c1, rfl, rfl⟩ | ⟨c1, c2, na, nb, rfl⟩
    · go_wp2_with fail
      go_ret
      exact ⟨rfl, bP⟩
    · go_wp2_with fail
      go_ret
      exact ⟨rfl, bP⟩
    · go_wp2_with fail
      have k0 := cell_regrown p1
      have k1 := cell_regrown q1
      have HRa := hide (fun q os => Calls.regrown_of (d := q) (os := os) (w := wc) (implRank a s1 _ na (hv.below (below_regrown wc q os))))
      have HRb := hide (fun q os => Calls.regrown_of (d := q) (os := os) (w := wc) (implRank b s2 _ nb (hv.below (below_regrown wc q os))))
      clear p0 p1 p2 p3 q0 q1 q2 q3 u0 u1
      refine wp_region_quiet_below (by kernel_rfl) (by kernel_rfl) ?_
      repeat (quiet_step (first | (go_at_call_of 31 (Value.int IntKind.i64 a); exact HRa.out _ _) | (go_at_call_of 31 (Value.int IntKind.i64 b); exact HRb.out _ _)))
      refine wpQuiet_nil ?_
      intro _ hw'
      obtain ⟨⟨dq, osq⟩, hw''⟩ := hw'
      subst hw''
      go_wp2_with fail
      go_ret
      exact ⟨rfl, bP.trans ((below_regrown wc dq osq).mono bP.size)⟩
theorem fieldM (a b c d : Value) (w : World) : (Instr.field 50 (.agg #[a, b, c, d]) 0).run Tryd.prog w = .ok a w := by
  simp [Instr.field, go_sem]
  rfl
theorem lessBoth (a b : Int) : ∃ r, (∀ w, Calls Tryd.prog 22 #[.int .i64 a, .int .i64 b] w fun e w' => e = .returned (.bool r) ∧ Below w.heap.size w w') ∧
    (∀ w, SV w → Calls Tryd.prog 14 #[.int .i64 a, .int .i64 b] w fun e w' => e = .returned (.bool r) ∧ Below w.heap.size w w') := by
  obtain ⟨k1, s1, x1, y1, c1, hA⟩ := splitAny a
  obtain ⟨k2, s2, x2, y2, c2, hB⟩ := splitAny b
  have ff := fieldM
  rcases c1.num with ⟨e1, ba⟩ | ⟨e1, na⟩
  · refine ⟨false, fun w => ?_, fun w hv => lessWalk a b k1 s1 x1 y1 k2 s2 x2 y2 false w hv hA hB (.inl ⟨e1, rfl⟩)⟩
    clear hA hB c1 c2 e1
    go_enter Tryd.func22, Tryd.ntmps22
    go_wp2_with fail
    refine (FlM.openBad a _ ba).mono ?_; rintro e w1 ⟨b', x, y, rfl, b1⟩
    go_wp2_with fail
    go_ret
    exact ⟨rfl, b1⟩
  · rcases c2.num with ⟨e2, bb⟩ | ⟨e2, nb⟩
    · refine ⟨false, fun w => ?_, fun w hv => lessWalk a b k1 s1 x1 y1 k2 s2 x2 y2 false w hv hA hB (.inr (.inl ⟨e1, e2, rfl⟩))⟩
      have Hna := hide na
      have Hbb := hide bb
      clear hA hB c1 c2 e1 e2 na bb
      go_enter Tryd.func22, Tryd.ntmps22
      go_wp2_with fail
      refine (openNum a s1 _ Hna.out).mono ?_; rintro e w1 ⟨k, y, z, hk, rfl, b1⟩
      go_wp2_with fail
      refine (FlM.openBad b _ Hbb.out).mono ?_; rintro e w2 ⟨b', x, y, rfl, b2⟩
      go_wp2_with fail
      go_ret
      exact ⟨rfl, b1.trans (b2.mono b1.size)⟩
    · refine ⟨decide (rank a s1 < rank b s2), fun w => ?_, fun w hv => lessWalk a b k1 s1 x1 y1 k2 s2 x2 y2 _ w hv hA hB (.inr (.inr ⟨e1, e2, na, nb, rfl⟩))⟩
      have Hna := hide na
      have Hnb := hide nb
      clear hA hB c1 c2 e1 e2 na nb
      go_enter Tryd.func22, Tryd.ntmps22
      go_wp2_with fail
      refine (openNum a s1 _ Hna.out).mono ?_; rintro e w1 ⟨k, y, z, hk, rfl, b1⟩
      go_wp2_with fail
      refine (openNum b s2 _ Hnb.out).mono ?_; rintro e w2 ⟨k', y', z', hk', rfl, b2⟩
      go_wp2_with fail
      refine (specRank a s1 _ Hna.out).mono ?_; rintro e w3 ⟨rfl, rfl⟩
      go_wp2_with fail
      refine (specRank b s2 _ Hnb.out).mono ?_; rintro e w4 ⟨rfl, rfl⟩
      go_wp2_with fail
      go_ret
      exact ⟨rfl, b1.trans (b2.mono b1.size)⟩

end FlV
end Go.Proofs.YtmghmcnihiepiaaDoor
