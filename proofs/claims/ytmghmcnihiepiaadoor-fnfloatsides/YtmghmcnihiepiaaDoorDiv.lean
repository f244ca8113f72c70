/- Quotients of floats, the program's side. -/
import Derived.Test.YtmghmcnihiepiaaDoorTwo
import Derived.Lib.SmallJoins
import Derived.Deep.RegionHeld3
import Derived.Deep.DeepCutAuto
import Derived.Lib.QuietBelow
namespace Go.Proofs.YtmghmcnihiepiaaDoor
namespace FlV
open Go.ChangeShapes Go.WideShapes Go.ChangeAt Go.RowKit Go.Joins
open Flo (hide ret_int ret_bool)
set_option linter.unusedVariables false
set_option linter.unusedSimpArgs false


set_option maxRecDepth 100000 in
set_option maxHeartbeats 8000000 in
theorem divWalk (a b k1 s1 x1 y1 k2 s2 x2 y2 : Int) (s3 M E E0 L hi q rm r : Int) (st : Bool) (w : World) (hv : SV w)
  (hA : ∀ w, Calls Tryd.prog 24 #[.agg #[.int .u8 8, .int .u8 23], .int .i64 a] w fun e w' => e = .returned (.agg #[.int .u8 k1, .int .u8 s1, .int .i16 x1, .int .u32 y1]) ∧ Below w.heap.size w w')
  (hB : ∀ w, Calls Tryd.prog 24 #[.agg #[.int .u8 8, .int .u8 23], .int .i64 b] w fun e w' => e = .returned (.agg #[.int .u8 k2, .int .u8 s2, .int .i16 x2, .int .u32 y2]) ∧ Below w.heap.size w w')
  (hc : (k1 = 3 ∧ r = 2143289344) ∨ ((k1 == 3) = false ∧ k2 = 3 ∧ r = 2143289344) ∨ (k1 = k2 ∧ (k1 = 0 ∨ k1 = 2) ∧ r = 2143289344) ∨
    (((k1 = 2 ∧ (k2 = 0 ∨ k2 = 1)) ∨ (k1 = 1 ∧ k2 = 0)) ∧ bits .xor .u8 s1 s2 = s3 ∧ 0 ≤ s3 ∧ s3 ≤ 1 ∧ r = s3 * 2147483648 + 2139095040) ∨
    ((k1 = 0 ∨ k1 = 1) ∧ k2 = 2 ∧ bits .xor .u8 s1 s2 = s3 ∧ 0 ≤ s3 ∧ s3 ≤ 1 ∧ r = s3 * 2147483648) ∨
    ((k1 = 0 ∨ k1 = 1) ∧ k2 = 1 ∧ bits .xor .u8 s1 s2 = s3 ∧ 0 ≤ y1 ∧ y1 ≤ 4294967295 ∧ IntKind.u64.wrap y1 = y1 ∧ IntKind.u64.wrap y2 = y2 ∧ y2 ≠ 0 ∧ 64 - (Lib.bitLen y1.toNat : Int) = L ∧ 0 ≤ L ∧ IntKind.u64.wrap (y1 * 2 ^ min L.toNat 64) = hi ∧ IntKind.u64.wrap (hi.tdiv y2) = q ∧ hi % y2 = rm ∧ (rm != 0) = st ∧ (if st then bits .or .u64 q 1 else q) = M ∧
      IntKind.i64.wrap x1 = x1 ∧ IntKind.i64.wrap x2 = x2 ∧ IntKind.i64.wrap (x1 - x2) = E0 ∧ IntKind.i64.wrap (E0 - L) = E ∧ 0 ≤ hi ∧ 0 ≤ y2 ∧
      ∀ w, Calls Tryd.prog 29 #[.agg #[.int .u8 8, .int .u8 23], .int .u8 s3, .int .u64 M, .int .i64 E] w fun e w' => e = .returned (.int .i64 r) ∧ Below w.heap.size w w')) :
    Calls Tryd.prog 18 #[.int .i64 a, .int .i64 b] w fun e w' => e = .returned (.int .i64 r) ∧ Below w.heap.size w w' := by
  obtain ⟨v0, v1⟩ := hv.cells
  have hw0 : 0 < w.heap.size := block_lt_of_cell v0
  have HA := hide hA
  have HB := hide hB
  have HC := hide hc
  have HV := hide hv
  clear hA hB hc hv
  go_enter Tryd.func18, Tryd.ntmps18
  go_wp2_with fail
  go_cut [5, 6] (fun p q wx => Pair w wx p q k1 s1 x1 y1 k2 s2 x2 y2)
  case first =>
    go_region_held3 (fun w' => w'.cell? ⟨0, 0, none⟩ = some (.int .u8 8) ∧ w'.cell? ⟨0, 1, none⟩ = some (.int .u8 23)) ((try dsimp only) <;> (repeat' apply And.intro) <;> (repeat (first | with_reducible assumption | with_reducible apply drew_old | with_reducible apply alloc_old' | (with_reducible apply set_old; (focus (first | (dsimp only; omega) | (simp; done) | (simp; omega)))) | (with_reducible apply below_old; (focus (with_reducible assumption))))))
      (first
        | (go_at_call_of 24 (Value.int IntKind.i64 a); refine (HA.out _).mono ?_; rintro e w1 ⟨rfl, b1⟩; have s1' := b1.size; (try simp only [World.size_drew, World.size_alloc, World.size_setCell] at s1');
            (try (refine keep_then b1 w.heap.size ?_ ?_; (focus ((try simp only [World.size_drew, World.size_alloc, World.size_setCell]) <;> omega)); intro g1 g2 g1a g1b g1c g1d)); (try (refine keep_then b1 (w.heap.size + 1) ?_ ?_; (focus ((try simp only [World.size_drew, World.size_alloc, World.size_setCell]) <;> omega)); intro g3 g4 g3a g3b g3c g3d)); (try (refine ne_then (w.heap.size) (w1.heap.size) ?_ ?_; (focus omega); intro n00 n00')); (try (refine ne_then (w.heap.size) (w1.heap.size + 1) ?_ ?_; (focus omega); intro n01 n01')); (try (refine ne_then (w.heap.size + 1) (w1.heap.size) ?_ ?_; (focus omega); intro n10 n10')); (try (refine ne_then (w.heap.size + 1) (w1.heap.size + 1) ?_ ?_; (focus omega); intro n11 n11')))
        | (go_at_call_of 24 (Value.int IntKind.i64 b); refine (HB.out _).mono ?_; rintro e w2 ⟨rfl, b2⟩; have s2' := b2.size; (try simp only [World.size_drew, World.size_alloc, World.size_setCell] at s2');
            (try (refine keep_then b2 w.heap.size ?_ ?_; (focus ((try simp only [World.size_drew, World.size_alloc, World.size_setCell]) <;> omega)); intro h1 h2 h1a h1b h1c h1d)); (try (refine keep_then b2 (w.heap.size + 1) ?_ ?_; (focus ((try simp only [World.size_drew, World.size_alloc, World.size_setCell]) <;> omega)); intro h3 h4 h3a h3b h3c h3d)); (try (refine keep_then b2 w1.heap.size ?_ ?_; (focus ((try simp only [World.size_drew, World.size_alloc, World.size_setCell]) <;> omega)); intro h5 h6 h5a h5b h5c h5d)); (try (refine keep_then b2 (w1.heap.size + 1) ?_ ?_; (focus ((try simp only [World.size_drew, World.size_alloc, World.size_setCell]) <;> omega)); intro h7 h8 h7a h7b h7c h7d)); (try (refine ne_then (w.heap.size) (w2.heap.size) ?_ ?_; (focus omega); intro m00 m00')); (try (refine ne_then (w.heap.size) (w2.heap.size + 1) ?_ ?_; (focus omega); intro m01 m01')); (try (refine ne_then (w.heap.size + 1) (w2.heap.size) ?_ ?_; (focus omega); intro m10 m10')); (try (refine ne_then (w.heap.size + 1) (w2.heap.size + 1) ?_ ?_; (focus omega); intro m11 m11')); (try (refine ne_then (w1.heap.size) (w2.heap.size) ?_ ?_; (focus omega); intro m20 m20')); (try (refine ne_then (w1.heap.size) (w2.heap.size + 1) ?_ ?_; (focus omega); intro m21 m21')); (try (refine ne_then (w1.heap.size + 1) (w2.heap.size) ?_ ?_; (focus omega); intro m30 m30')); (try (refine ne_then (w1.heap.size + 1) (w2.heap.size + 1) ?_ ?_; (focus omega); intro m31 m31'))))
    all_goals (go_wp2_with fail)
    all_goals go_meet
    all_goals (refine ⟨_, _, rfl, rfl, ⟨?_, ?_, ?_, ?_⟩, ⟨?_, ?_, ?_, ?_⟩, ?_⟩)
    all_goals first
      | (simp [go_sem, *]; done)
      | (repeat (first | with_reducible exact Below.refl _ _ | with_reducible apply bl_drew | with_reducible apply bl_alloc | (with_reducible apply bl_set; (focus (dsimp only; omega))) | (with_reducible apply bl_below; (focus (with_reducible assumption)))))
  case rest =>
    obtain ⟨P, Q, rfl, rfl, ⟨p0, p1, p2, p3⟩, ⟨q0, q1, q2, q3⟩, bP⟩ := hcut
    have hc := HC.out
    have hv := HV.out.below bP
    obtain ⟨u0, u1⟩ := hv.cells
    clear HA HB HC HV v0 v1 hw0
    rcases hc with ⟨rfl, rfl⟩ | ⟨c1, rfl, rfl⟩ | ⟨rfl, hk, rfl⟩ | ⟨hk, hx, s0, s1', rfl⟩ | ⟨hk, rfl, hx, s0, s1', rfl⟩ | ⟨hk1, rfl, hx, y10, y11, hy1, hy2, hy0, hL, hL0, hhi, hq, hrm, hst, hM, hx1, hx2, hE0, hE, hi0, y20, hR⟩
    · clear u0 u1
      go_wp2_with fail
      go_ret
      exact ⟨rfl, bP⟩
    · clear u0 u1
      go_wp2_with fail
      go_ret
      exact ⟨rfl, bP⟩
    · clear u0 u1
      rcases hk with rfl | rfl
      all_goals
        go_wp2_with fail
        go_ret
        exact ⟨rfl, bP⟩
    · rcases hk with ⟨rfl, rfl | rfl⟩ | ⟨rfl, rfl⟩
      all_goals
        go_wp2_with fail
        refine (FlR.infS s3 _ s0 s1').mono ?_; rintro e w2 ⟨rfl, b2⟩
        go_wp2_with fail
        go_ret
        exact ⟨rfl, bP.trans (b2.mono bP.size)⟩
    · rcases hk with rfl | rfl
      all_goals
        go_wp2_with fail
        refine (FlP.zeroS s3 _ s0 s1').mono ?_; rintro e w2 ⟨rfl, b2⟩
        go_wp2_with fail
        go_ret
        exact ⟨rfl, bP.trans (b2.mono bP.size)⟩
    · have HR := hide hR
      have HL := hide (fun w => (Tryd.bits_LeadingZeros64 y1 w (by omega) (by omega)).mono fun e w' ⟨h1, h2⟩ => (⟨h1.trans (ret_int hL), h2⟩ : e = Ending.returned (.int .i64 L) ∧ w' = w))
      have yz : (y2 == 0) = false := beq_eq_false_iff_ne.2 hy0
      clear hL
      clear hR
      cases st
      · simp only [Bool.false_eq_true, if_false] at hM
        subst hM
        rcases hk1 with rfl | rfl
        all_goals
          go_wp2_with fail
          refine (HL.out _).mono ?_; rintro e w2 ⟨rfl, rfl⟩
          go_wp2_with fail
          refine (HR.out _).mono ?_; rintro e w3 ⟨rfl, b2⟩
          go_wp2_with fail
          go_ret
          exact ⟨rfl, bP.trans (b2.mono bP.size)⟩
      · simp only [if_true] at hM
        rcases hk1 with rfl | rfl
        all_goals
          go_wp2_with fail
          refine (HL.out _).mono ?_; rintro e w2 ⟨rfl, rfl⟩
          go_wp2_with fail
          refine (HR.out _).mono ?_; rintro e w3 ⟨rfl, b2⟩
          go_wp2_with fail
          go_ret
          exact ⟨rfl, bP.trans (b2.mono bP.size)⟩

end FlV
end Go.Proofs.YtmghmcnihiepiaaDoor
