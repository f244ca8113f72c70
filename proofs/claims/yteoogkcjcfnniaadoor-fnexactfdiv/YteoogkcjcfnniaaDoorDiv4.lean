/- Quotients of floats: both sides, all kinds. -/
import Derived.Test.YteoogkcjcfnniaaDoorDiv5
namespace Go.Proofs.YteoogkcjcfnniaaDoor
namespace FlV
open Go.ChangeShapes Go.WideShapes Go.ChangeAt Go.RowKit Go.Joins
open Flo (hide ret_int ret_bool)
set_option linter.unusedVariables false

set_option maxHeartbeats 8000000 in
theorem divBoth (a b : Int) : ∃ r, (∀ w, Calls Tryd.prog 19 #[.int .i64 a, .int .i64 b] w fun e w' => e = .returned (.int .i64 r) ∧ Below w.heap.size w w') ∧
    (∀ w, SV w → Calls Tryd.prog 20 #[.int .i64 a, .int .i64 b] w fun e w' => e = .returned (.int .i64 r) ∧ Below w.heap.size w w') := by
  obtain ⟨k1, s1, x1, y1, c1, hA⟩ := splitAny a
  obtain ⟨k2, s2, x2, y2, c2, hB⟩ := splitAny b
  rcases c1.num with ⟨e1, ba⟩ | ⟨e1, na⟩
  · refine ⟨2143289344, fun w => ?_, fun w hv => divWalk a b k1 s1 x1 y1 k2 s2 x2 y2 0 0 0 0 0 0 0 0 _ false w hv hA hB (.inl ⟨e1, rfl⟩)⟩
    clear hA hB c1 c2 e1
    go_enter Tryd.func19, Tryd.ntmps19
    go_wp2_with fail
    refine (FlM.openBad a _ ba).mono ?_; rintro e w1 ⟨b', x, y, rfl, b1⟩
    go_wp2_with fail
    refine (openAny b _).mono ?_; rintro e w2 ⟨k, n, x', y', rfl, b2⟩
    refine keep_then b2 w1.heap.size (by simp) ?_; intro g1 g2 g3 g4 g5 g6
    go_wp2_with fail
    go_ret
    exact ⟨rfl, bb2 b1 _ b2 _⟩
  · rcases c2.num with ⟨e2, bb⟩ | ⟨e2, nb⟩
    · refine ⟨2143289344, fun w => ?_, fun w hv => divWalk a b k1 s1 x1 y1 k2 s2 x2 y2 0 0 0 0 0 0 0 0 _ false w hv hA hB (.inr (.inl ⟨e1, e2, rfl⟩))⟩
      have Hna := hide na
      have Hbb := hide bb
      clear hA hB c1 c2 e1 e2 na bb
      go_enter Tryd.func19, Tryd.ntmps19
      go_wp2_with fail
      refine (openNum a s1 _ Hna.out).mono ?_; rintro e w1 ⟨k, y, z, hk, rfl, b1⟩
      go_wp2_with fail
      refine (FlM.openBad b _ Hbb.out).mono ?_; rintro e w2 ⟨b', x, y, rfl, b2⟩
      refine keep_then b2 w1.heap.size (by simp) ?_; intro g1 g2 g3 g4 g5 g6
      go_wp2_with fail
      go_ret
      exact ⟨rfl, bb2 b1 _ b2 _⟩
    · obtain ⟨sa0, sa1, _⟩ := na.bd
      obtain ⟨sb0, sb1, _⟩ := nb.bd
      have sa : s1 = 0 ∨ s1 = 1 := by omega
      have sb : s2 = 0 ∨ s2 = 1 := by omega
      obtain ⟨s3, hx, t0, t1, hs3⟩ : ∃ s3 : Int, bits .xor .u8 s1 s2 = s3 ∧ 0 ≤ s3 ∧ s3 ≤ 1 ∧ (!((s1 == 1) == (s2 == 1))) = (s3 == 1) := by
        rcases sa with rfl | rfl <;> rcases sb with rfl | rfl
        · exact ⟨0, by decide, by decide, by decide, by decide⟩
        · exact ⟨1, by decide, by decide, by decide, by decide⟩
        · exact ⟨1, by decide, by decide, by decide, by decide⟩
        · exact ⟨0, by decide, by decide, by decide, by decide⟩
      have spI : ∀ (w : World) (ka ma ea kb mb eb : Int), ((ka = 1 ∧ kb = 0) ∨ (ka = 0 ∧ ma ≠ 0 ∧ kb = 0 ∧ mb = 0)) →
          (∀ w, Calls Tryd.prog 28 #[.int .i64 a] w fun e w' => e = .returned (.agg #[.int .i64 ka, .bool (s1 == 1), .int .i64 ma, .int .i64 ea]) ∧ Below w.heap.size w w') →
          (∀ w, Calls Tryd.prog 28 #[.int .i64 b] w fun e w' => e = .returned (.agg #[.int .i64 kb, .bool (s2 == 1), .int .i64 mb, .int .i64 eb]) ∧ Below w.heap.size w w') →
          Calls Tryd.prog 19 #[.int .i64 a, .int .i64 b] w fun e w' => e = .returned (.int .i64 (s3 * 2147483648 + 2139095040)) ∧ Below w.heap.size w w' := by
        intro w ka ma ea kb mb eb hk oA oB
        have HI := hide (fun n w hn => FlM.infinity n s3 w t0 t1 hn)
        have OA := hide oA
        have OB := hide oB
        clear oA oB hA hB c1 c2 e1 e2 na nb hx
        rcases hk with ⟨rfl, rfl⟩ | ⟨rfl, hm, rfl, rfl⟩
        · rcases sa with rfl | rfl <;> rcases sb with rfl | rfl
          all_goals
            go_enter Tryd.func19, Tryd.ntmps19
            go_wp2_with fail
            refine (OA.out _).mono ?_; rintro e w1 ⟨rfl, b1⟩
            go_wp2_with fail
            refine (OB.out _).mono ?_; rintro e w2 ⟨rfl, b2⟩
            refine keep_then b2 w1.heap.size (by simp) ?_; intro g1 g2 g3 g4 g5 g6
            go_wp2_with fail
            refine (HI.out _ _ hs3).mono ?_; rintro e w3 ⟨rfl, rfl⟩
            go_wp2_with fail
            go_ret
            exact ⟨ret_int (by omega), bb2 b1 _ b2 _⟩
        · have hm' : (ma == 0) = false := beq_eq_false_iff_ne.2 hm
          clear hm
          rcases sa with rfl | rfl <;> rcases sb with rfl | rfl
          all_goals
            go_enter Tryd.func19, Tryd.ntmps19
            go_wp2_with fail
            refine (OA.out _).mono ?_; rintro e w1 ⟨rfl, b1⟩
            go_wp2_with fail
            refine (OB.out _).mono ?_; rintro e w2 ⟨rfl, b2⟩
            refine keep_then b2 w1.heap.size (by simp) ?_; intro g1 g2 g3 g4 g5 g6
            go_wp2_with fail
            refine (HI.out _ _ hs3).mono ?_; rintro e w3 ⟨rfl, rfl⟩
            go_wp2_with fail
            go_ret
            exact ⟨ret_int (by omega), bb2 b1 _ b2 _⟩
      have spZ : ∀ (w : World) (ma ea mb eb : Int),
          (∀ w, Calls Tryd.prog 28 #[.int .i64 a] w fun e w' => e = .returned (.agg #[.int .i64 0, .bool (s1 == 1), .int .i64 ma, .int .i64 ea]) ∧ Below w.heap.size w w') →
          (∀ w, Calls Tryd.prog 28 #[.int .i64 b] w fun e w' => e = .returned (.agg #[.int .i64 1, .bool (s2 == 1), .int .i64 mb, .int .i64 eb]) ∧ Below w.heap.size w w') →
          Calls Tryd.prog 19 #[.int .i64 a, .int .i64 b] w fun e w' => e = .returned (.int .i64 (s3 * 2147483648)) ∧ Below w.heap.size w w' := by
        intro w ma ea mb eb oA oB
        have HI := hide (fun n w hn => FlM.sign n s3 w t0 t1 hn)
        have OA := hide oA
        have OB := hide oB
        clear oA oB hA hB c1 c2 e1 e2 na nb hx spI
        rcases sa with rfl | rfl <;> rcases sb with rfl | rfl
        all_goals
          go_enter Tryd.func19, Tryd.ntmps19
          go_wp2_with fail
          refine (OA.out _).mono ?_; rintro e w1 ⟨rfl, b1⟩
          go_wp2_with fail
          refine (OB.out _).mono ?_; rintro e w2 ⟨rfl, b2⟩
          refine keep_then b2 w1.heap.size (by simp) ?_; intro g1 g2 g3 g4 g5 g6
          go_wp2_with fail
          refine (HI.out _ _ hs3).mono ?_; rintro e w3 ⟨rfl, rfl⟩
          go_wp2_with fail
          go_ret
          exact ⟨rfl, bb2 b1 _ b2 _⟩
      have spN : ∀ (w : World) (ka ea kb eb : Int), ((ka = 1 ∧ kb = 1) ∨ (ka = 0 ∧ kb = 0)) →
          (∀ w, Calls Tryd.prog 28 #[.int .i64 a] w fun e w' => e = .returned (.agg #[.int .i64 ka, .bool (s1 == 1), .int .i64 0, .int .i64 ea]) ∧ Below w.heap.size w w') →
          (∀ w, Calls Tryd.prog 28 #[.int .i64 b] w fun e w' => e = .returned (.agg #[.int .i64 kb, .bool (s2 == 1), .int .i64 0, .int .i64 eb]) ∧ Below w.heap.size w w') →
          Calls Tryd.prog 19 #[.int .i64 a, .int .i64 b] w fun e w' => e = .returned (.int .i64 2143289344) ∧ Below w.heap.size w w' := by
        intro w ka ea kb eb hk oA oB
        have OA := hide oA
        have OB := hide oB
        clear oA oB hA hB c1 c2 e1 e2 na nb hx hs3 spI spZ
        rcases hk with ⟨rfl, rfl⟩ | ⟨rfl, rfl⟩
        all_goals
          go_enter Tryd.func19, Tryd.ntmps19
          go_wp2_with fail
          refine (OA.out _).mono ?_; rintro e w1 ⟨rfl, b1⟩
          go_wp2_with fail
          refine (OB.out _).mono ?_; rintro e w2 ⟨rfl, b2⟩
          refine keep_then b2 w1.heap.size (by simp) ?_; intro g1 g2 g3 g4 g5 g6
          go_wp2_with fail
          go_ret
          exact ⟨rfl, bb2 b1 _ b2 _⟩
      have imI : ((k1 = 2 ∧ (k2 = 0 ∨ k2 = 1)) ∨ (k1 = 1 ∧ k2 = 0)) → ∀ w, SV w → Calls Tryd.prog 20 #[.int .i64 a, .int .i64 b] w fun e w' => e = .returned (.int .i64 (s3 * 2147483648 + 2139095040)) ∧ Below w.heap.size w w' :=
        fun hk w hv => divWalk a b k1 s1 x1 y1 k2 s2 x2 y2 s3 0 0 0 0 0 0 0 _ false w hv hA hB (.inr (.inr (.inr (.inl ⟨hk, hx, t0, t1, rfl⟩))))
      have imZ : (k1 = 0 ∨ k1 = 1) → k2 = 2 → ∀ w, SV w → Calls Tryd.prog 20 #[.int .i64 a, .int .i64 b] w fun e w' => e = .returned (.int .i64 (s3 * 2147483648)) ∧ Below w.heap.size w w' :=
        fun hk1 hk2 w hv => divWalk a b k1 s1 x1 y1 k2 s2 x2 y2 s3 0 0 0 0 0 0 0 _ false w hv hA hB (.inr (.inr (.inr (.inr (.inl ⟨hk1, hk2, hx, t0, t1, rfl⟩)))))
      have fin : (k1 = 0 ∨ k1 = 1) → k2 = 1 → y2 ≠ 0 → FlP.Fin a s1 y1 x1 → FlP.Fin b s2 y2 x2 → ∃ r, (∀ w, Calls Tryd.prog 19 #[.int .i64 a, .int .i64 b] w fun e w' => e = .returned (.int .i64 r) ∧ Below w.heap.size w w') ∧
          (∀ w, SV w → Calls Tryd.prog 20 #[.int .i64 a, .int .i64 b] w fun e w' => e = .returned (.int .i64 r) ∧ Below w.heap.size w w') := by
        intro hk1 hk2 hy2 fa fb
        have hfa := fa
        have hfb := fb
        obtain ⟨_, _, _, a0, a1, ea0, ea1, _⟩ := fa
        obtain ⟨_, _, _, b0, b1, eb0, eb1, _⟩ := fb
        obtain ⟨m, rfl⟩ := Int.eq_ofNat_of_zero_le a0
        obtain ⟨m2, rfl⟩ := Int.eq_ofNat_of_zero_le b0
        have h20 : m2 ≠ 0 := by intro h; exact hy2 (by rw [h]; rfl)
        by_cases m0 : m = 0
        · subst m0
          refine ⟨s3 * 2147483648, fun w => ?_, fun w hv => ?_⟩
          · exact specDivFin a b 0 x1 m2 x2 0 (x1 - 0 - 37 - x2) 0 0 _ 0 s1 s2 (s3 == 1) false w (fun w => FlM.openFin a s1 _ x1 w hfa) (fun w => FlM.openFin b s2 m2 x2 w hfb) hs3 (beq_eq_false_iff_ne.2 hy2) (by omega) b1 (by omega) (by omega) (by omega) (by omega) (by decide)
              (fun t ht => by omega) (by simp) (.inl rfl) (by decide) (by decide) (by decide) (by simp [wrap64]) (by simp) (by simp) (fun w => FlM.putZero _ s3 _ w t0 t1 rfl (by omega) (by omega))
          · refine divWalk a b k1 s1 x1 _ k2 s2 x2 m2 s3 0 (x1 - x2 - 64) (x1 - x2) 64 0 0 0 _ false w hv hA hB (.inr (.inr (.inr (.inr (.inr ⟨hk1, hk2, hx, by omega, by omega, by decide, ?_, hy2, by decide, by decide, by decide, ?_, by simp, by decide, by simp, ?_, ?_, ?_, ?_, by decide, by omega, fun w => FlR.roundZeroS s3 _ w t0 t1⟩)))))
            · simp [IntKind.wrap, IntKind.bits, IntKind.signed]; omega
            · simp [IntKind.wrap, IntKind.bits, IntKind.signed]
            · rw [IntKind.wrap_i64]; omega
            · rw [IntKind.wrap_i64]; omega
            · rw [IntKind.wrap_i64]; omega
            · rw [IntKind.wrap_i64]; omega
        · exact divFin a b k1 k2 s1 s2 x1 x2 s3 m m2 hA hB hx t0 t1 hs3 hk1 hk2 m0 h20 hfa hfb
      rcases c1 with ⟨q1, _⟩ | ⟨rfl, ia⟩ | ⟨rfl, rfl, rfl, fa⟩ | ⟨rfl, ya, fa⟩
      · rw [q1] at e1; cases e1
      · rcases c2 with ⟨q2, _⟩ | ⟨rfl, ib⟩ | ⟨rfl, rfl, rfl, fb⟩ | ⟨rfl, yb, fb⟩
        · rw [q2] at e2; cases e2
        · exact ⟨_, fun w => spN w 1 0 1 0 (.inl ⟨rfl, rfl⟩) (fun w => FlM.openInfC a s1 w ia) (fun w => FlM.openInfC b s2 w ib), fun w hv => divWalk a b 2 s1 x1 y1 2 s2 x2 y2 0 0 0 0 0 0 0 0 _ false w hv hA hB (.inr (.inr (.inl ⟨rfl, .inr rfl, rfl⟩)))⟩
        · exact ⟨_, fun w => spI w 1 0 0 0 0 (-149) (.inl ⟨rfl, rfl⟩) (fun w => FlM.openInfC a s1 w ia) (fun w => FlM.openFin b s2 0 (-149) w fb), imI (.inl ⟨rfl, .inl rfl⟩)⟩
        · exact ⟨_, fun w => spI w 1 0 0 0 y2 x2 (.inl ⟨rfl, rfl⟩) (fun w => FlM.openInfC a s1 w ia) (fun w => FlM.openFin b s2 y2 x2 w fb), imI (.inl ⟨rfl, .inr rfl⟩)⟩
      · rcases c2 with ⟨q2, _⟩ | ⟨rfl, ib⟩ | ⟨rfl, rfl, rfl, fb⟩ | ⟨rfl, yb, fb⟩
        · rw [q2] at e2; cases e2
        · exact ⟨_, fun w => spZ w 0 (-149) 0 0 (fun w => FlM.openFin a s1 0 (-149) w fa) (fun w => FlM.openInfC b s2 w ib), imZ (.inl rfl) rfl⟩
        · exact ⟨_, fun w => spN w 0 (-149) 0 (-149) (.inr ⟨rfl, rfl⟩) (fun w => FlM.openFin a s1 0 (-149) w fa) (fun w => FlM.openFin b s2 0 (-149) w fb), fun w hv => divWalk a b 0 s1 (-149) 0 0 s2 (-149) 0 0 0 0 0 0 0 0 0 _ false w hv hA hB (.inr (.inr (.inl ⟨rfl, .inl rfl, rfl⟩)))⟩
        · exact fin (.inl rfl) rfl yb fa fb
      · rcases c2 with ⟨q2, _⟩ | ⟨rfl, ib⟩ | ⟨rfl, rfl, rfl, fb⟩ | ⟨rfl, yb, fb⟩
        · rw [q2] at e2; cases e2
        · exact ⟨_, fun w => spZ w y1 x1 0 0 (fun w => FlM.openFin a s1 y1 x1 w fa) (fun w => FlM.openInfC b s2 w ib), imZ (.inr rfl) rfl⟩
        · exact ⟨_, fun w => spI w 0 y1 x1 0 0 (-149) (.inr ⟨rfl, ya, rfl, rfl⟩) (fun w => FlM.openFin a s1 y1 x1 w fa) (fun w => FlM.openFin b s2 0 (-149) w fb), imI (.inr ⟨rfl, rfl⟩)⟩
        · exact fin (.inr rfl) rfl yb fa fb

end FlV
end Go.Proofs.YteoogkcjcfnniaaDoor
