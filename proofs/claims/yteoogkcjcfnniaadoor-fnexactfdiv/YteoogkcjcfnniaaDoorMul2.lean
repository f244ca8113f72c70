/- Products of floats: the model's side, and both. -/
import Derived.Test.YteoogkcjcfnniaaDoorFlW
import Derived.Test.YteoogkcjcfnniaaDoorTwo
import Derived.Test.YteoogkcjcfnniaaDoorMul
namespace Go.Proofs.YteoogkcjcfnniaaDoor
namespace FlV
open Go.ChangeShapes Go.WideShapes Go.ChangeAt Go.RowKit Go.Joins
open Flo (hide ret_int ret_bool)
set_option linter.unusedVariables false

theorem openAny (a : Int) (w : World) :
    Calls Tryd.prog 28 #[.int .i64 a] w fun e w' => ∃ k n x y, e = .returned (.agg #[.int .i64 k, .bool n, .int .i64 x, .int .i64 y]) ∧ Below w.heap.size w w' := by
  rcases num_or a with h | ⟨s, h⟩
  · exact (FlM.openBad a w h).mono fun e w' ⟨b, x, y, h1, h2⟩ => ⟨_, _, _, _, h1, h2⟩
  · exact (openNum a s w h).mono fun e w' ⟨k, y, z, _, h1, h2⟩ => ⟨_, _, _, _, h1, h2⟩
theorem bb2 {w w1 w2 : World} (b1 : Below w.heap.size w w1) (o : Obj) (b2 : Below (w1.alloc o).heap.size (w1.alloc o) w2) (o' : Obj) : Below w.heap.size w (w2.alloc o') := by
  have h1 : Below w.heap.size w (w1.alloc o) := b1.alloc b1.size o
  have h2 : Below w.heap.size w w2 := h1.trans (b2.mono h1.size)
  exact h2.alloc h2.size o'
set_option maxHeartbeats 8000000 in
theorem mulBoth (a b : Int) : ∃ r, (∀ w, Calls Tryd.prog 17 #[.int .i64 a, .int .i64 b] w fun e w' => e = .returned (.int .i64 r) ∧ Below w.heap.size w w') ∧
    (∀ w, SV w → Calls Tryd.prog 18 #[.int .i64 a, .int .i64 b] w fun e w' => e = .returned (.int .i64 r) ∧ Below w.heap.size w w') := by
  obtain ⟨k1, s1, x1, y1, c1, hA⟩ := splitAny a
  obtain ⟨k2, s2, x2, y2, c2, hB⟩ := splitAny b
  rcases c1.num with ⟨e1, ba⟩ | ⟨e1, na⟩
  · refine ⟨2143289344, fun w => ?_, fun w hv => mulWalk a b k1 s1 x1 y1 k2 s2 x2 y2 0 0 0 _ w hv hA hB (.inl ⟨e1, rfl⟩)⟩
    clear hA hB c1 c2 e1
    go_enter Tryd.func17, Tryd.ntmps17
    go_wp2_with fail
    refine (FlM.openBad a _ ba).mono ?_; rintro e w1 ⟨b', x, y, rfl, b1⟩
    go_wp2_with fail
    refine (openAny b _).mono ?_; rintro e w2 ⟨k, n, x', y', rfl, b2⟩
    refine keep_then b2 w1.heap.size (by simp) ?_; intro g1 g2 g3 g4 g5 g6
    go_wp2_with fail
    go_ret
    exact ⟨rfl, bb2 b1 _ b2 _⟩
  · rcases c2.num with ⟨e2, bb⟩ | ⟨e2, nb⟩
    · refine ⟨2143289344, fun w => ?_, fun w hv => mulWalk a b k1 s1 x1 y1 k2 s2 x2 y2 0 0 0 _ w hv hA hB (.inr (.inl ⟨e1, e2, rfl⟩))⟩
      have Hna := hide na
      have Hbb := hide bb
      clear hA hB c1 c2 e1 e2 na bb
      go_enter Tryd.func17, Tryd.ntmps17
      go_wp2_with fail
      refine (openNum a s1 _ Hna.out).mono ?_; rintro e w1 ⟨k, y, z, hk, rfl, b1⟩
      go_wp2_with fail
      refine (FlM.openBad b _ Hbb.out).mono ?_; rintro e w2 ⟨b', x, y, rfl, b2⟩
      refine keep_then b2 w1.heap.size (by simp) ?_; intro g1 g2 g3 g4 g5 g6
      go_wp2_with fail
      go_ret
      exact ⟨rfl, bb2 b1 _ b2 _⟩
    · obtain ⟨sa0, sa1, _⟩ := na.bd
      obtain ⟨sb0, sb1, _⟩ := nb.bd
      have sa : s1 = 0 ∨ s1 = 1 := by omega
      have sb : s2 = 0 ∨ s2 = 1 := by omega
      obtain ⟨s3, hx, t0, t1, hs3⟩ : ∃ s3 : Int, bits .xor .u8 s1 s2 = s3 ∧ 0 ≤ s3 ∧ s3 ≤ 1 ∧ (!((s1 == 1) == (s2 == 1))) = (s3 == 1) := by
        rcases sa with rfl | rfl <;> rcases sb with rfl | rfl
        · exact ⟨0, by decide, by decide, by decide, by decide⟩
        · exact ⟨1, by decide, by decide, by decide, by decide⟩
        · exact ⟨1, by decide, by decide, by decide, by decide⟩
        · exact ⟨0, by decide, by decide, by decide, by decide⟩
      have spI : ∀ (w : World) (ka ma ea kb mb eb : Int), ((ka = 1 ∧ (kb = 1 ∨ (kb = 0 ∧ mb ≠ 0))) ∨ (ka = 0 ∧ ma ≠ 0 ∧ kb = 1)) →
          (∀ w, Calls Tryd.prog 28 #[.int .i64 a] w fun e w' => e = .returned (.agg #[.int .i64 ka, .bool (s1 == 1), .int .i64 ma, .int .i64 ea]) ∧ Below w.heap.size w w') →
          (∀ w, Calls Tryd.prog 28 #[.int .i64 b] w fun e w' => e = .returned (.agg #[.int .i64 kb, .bool (s2 == 1), .int .i64 mb, .int .i64 eb]) ∧ Below w.heap.size w w') →
          Calls Tryd.prog 17 #[.int .i64 a, .int .i64 b] w fun e w' => e = .returned (.int .i64 (s3 * 2147483648 + 2139095040)) ∧ Below w.heap.size w w' := by
        intro w ka ma ea kb mb eb hk oA oB
        have HI := hide (fun n w hn => FlM.infinity n s3 w t0 t1 hn)
        have OA := hide oA
        have OB := hide oB
        clear oA oB hA hB c1 c2 e1 e2 na nb hx
        rcases hk with ⟨rfl, rfl | ⟨rfl, hm⟩⟩ | ⟨rfl, hm, rfl⟩
        · rcases sa with rfl | rfl <;> rcases sb with rfl | rfl
          all_goals
            go_enter Tryd.func17, Tryd.ntmps17
            go_wp2_with fail
            refine (OA.out _).mono ?_; rintro e w1 ⟨rfl, b1⟩
            go_wp2_with fail
            refine (OB.out _).mono ?_; rintro e w2 ⟨rfl, b2⟩
            refine keep_then b2 w1.heap.size (by simp) ?_; intro g1 g2 g3 g4 g5 g6
            go_wp2_with fail
            refine (HI.out _ _ hs3).mono ?_; rintro e w3 ⟨rfl, rfl⟩
            go_wp2_with fail
            go_ret
            exact ⟨ret_int (by omega), bb2 b1 _ b2 _⟩
        · have hm' : (mb == 0) = false := beq_eq_false_iff_ne.2 hm
          clear hm
          rcases sa with rfl | rfl <;> rcases sb with rfl | rfl
          all_goals
            go_enter Tryd.func17, Tryd.ntmps17
            go_wp2_with fail
            refine (OA.out _).mono ?_; rintro e w1 ⟨rfl, b1⟩
            go_wp2_with fail
            refine (OB.out _).mono ?_; rintro e w2 ⟨rfl, b2⟩
            refine keep_then b2 w1.heap.size (by simp) ?_; intro g1 g2 g3 g4 g5 g6
            go_wp2_with fail
            refine (HI.out _ _ hs3).mono ?_; rintro e w3 ⟨rfl, rfl⟩
            go_wp2_with fail
            go_ret
            exact ⟨ret_int (by omega), bb2 b1 _ b2 _⟩
        · have hm' : (ma == 0) = false := beq_eq_false_iff_ne.2 hm
          clear hm
          rcases sa with rfl | rfl <;> rcases sb with rfl | rfl
          all_goals
            go_enter Tryd.func17, Tryd.ntmps17
            go_wp2_with fail
            refine (OA.out _).mono ?_; rintro e w1 ⟨rfl, b1⟩
            go_wp2_with fail
            refine (OB.out _).mono ?_; rintro e w2 ⟨rfl, b2⟩
            refine keep_then b2 w1.heap.size (by simp) ?_; intro g1 g2 g3 g4 g5 g6
            go_wp2_with fail
            refine (HI.out _ _ hs3).mono ?_; rintro e w3 ⟨rfl, rfl⟩
            go_wp2_with fail
            go_ret
            exact ⟨ret_int (by omega), bb2 b1 _ b2 _⟩
      have spN : ∀ (w : World) (ka ea kb eb : Int), ((ka = 1 ∧ kb = 0) ∨ (ka = 0 ∧ kb = 1)) →
          (∀ w, Calls Tryd.prog 28 #[.int .i64 a] w fun e w' => e = .returned (.agg #[.int .i64 ka, .bool (s1 == 1), .int .i64 0, .int .i64 ea]) ∧ Below w.heap.size w w') →
          (∀ w, Calls Tryd.prog 28 #[.int .i64 b] w fun e w' => e = .returned (.agg #[.int .i64 kb, .bool (s2 == 1), .int .i64 0, .int .i64 eb]) ∧ Below w.heap.size w w') →
          Calls Tryd.prog 17 #[.int .i64 a, .int .i64 b] w fun e w' => e = .returned (.int .i64 2143289344) ∧ Below w.heap.size w w' := by
        intro w ka ea kb eb hk oA oB
        have OA := hide oA
        have OB := hide oB
        clear oA oB hA hB c1 c2 e1 e2 na nb hx hs3 spI
        rcases hk with ⟨rfl, rfl⟩ | ⟨rfl, rfl⟩
        all_goals
          go_enter Tryd.func17, Tryd.ntmps17
          go_wp2_with fail
          refine (OA.out _).mono ?_; rintro e w1 ⟨rfl, b1⟩
          go_wp2_with fail
          refine (OB.out _).mono ?_; rintro e w2 ⟨rfl, b2⟩
          refine keep_then b2 w1.heap.size (by simp) ?_; intro g1 g2 g3 g4 g5 g6
          go_wp2_with fail
          go_ret
          exact ⟨rfl, bb2 b1 _ b2 _⟩
      have spF : ∀ (w : World) (ma ea mb eb M E r : Int), ma * mb = M → -1000 ≤ ea → ea ≤ 1000 → -1000 ≤ eb → eb ≤ 1000 → ea + eb = E → 0 ≤ M → M ≤ 281474976710656 →
          (∀ (neg : Bool) (w : World), neg = (s3 == 1) → Calls Tryd.prog 30 #[.bool neg, .int .i64 M, .int .i64 E, .bool false] w fun e w' => e = .returned (.int .i64 r) ∧ w' = w) →
          (∀ w, Calls Tryd.prog 28 #[.int .i64 a] w fun e w' => e = .returned (.agg #[.int .i64 0, .bool (s1 == 1), .int .i64 ma, .int .i64 ea]) ∧ Below w.heap.size w w') →
          (∀ w, Calls Tryd.prog 28 #[.int .i64 b] w fun e w' => e = .returned (.agg #[.int .i64 0, .bool (s2 == 1), .int .i64 mb, .int .i64 eb]) ∧ Below w.heap.size w w') →
          Calls Tryd.prog 17 #[.int .i64 a, .int .i64 b] w fun e w' => e = .returned (.int .i64 r) ∧ Below w.heap.size w w' := by
        intro w ma ea mb eb M E r hM ea0 ea1 eb0 eb1 hE M0 M1 hP oA oB
        have HP := hide hP
        have OA := hide oA
        have OB := hide oB
        clear oA oB hA hB c1 c2 e1 e2 na nb hx spI spN hP
        rcases sa with rfl | rfl <;> rcases sb with rfl | rfl
        all_goals
          go_enter Tryd.func17, Tryd.ntmps17
          go_wp2_with fail
          refine (OA.out _).mono ?_; rintro e w1 ⟨rfl, b1⟩
          go_wp2_with fail
          refine (OB.out _).mono ?_; rintro e w2 ⟨rfl, b2⟩
          refine keep_then b2 w1.heap.size (by simp) ?_; intro g1 g2 g3 g4 g5 g6
          go_wp2_with fail
          refine (HP.out _ _ hs3).mono ?_; rintro e w3 ⟨rfl, rfl⟩
          go_wp2_with fail
          go_ret
          exact ⟨rfl, bb2 b1 _ b2 _⟩
      have imI : ((k1 = 2 ∧ (k2 = 1 ∨ k2 = 2)) ∨ (k1 = 1 ∧ k2 = 2)) → ∀ w, SV w → Calls Tryd.prog 18 #[.int .i64 a, .int .i64 b] w fun e w' => e = .returned (.int .i64 (s3 * 2147483648 + 2139095040)) ∧ Below w.heap.size w w' :=
        fun hk w hv => mulWalk a b k1 s1 x1 y1 k2 s2 x2 y2 s3 0 0 _ w hv hA hB (.inr (.inr (.inr (.inr (.inl ⟨hk, hx, t0, t1, rfl⟩)))))
      have fin : (k1 = 0 ∨ k1 = 1) → (k2 = 0 ∨ k2 = 1) → FlP.Fin a s1 y1 x1 → FlP.Fin b s2 y2 x2 → ∃ r, (∀ w, Calls Tryd.prog 17 #[.int .i64 a, .int .i64 b] w fun e w' => e = .returned (.int .i64 r) ∧ Below w.heap.size w w') ∧
          (∀ w, SV w → Calls Tryd.prog 18 #[.int .i64 a, .int .i64 b] w fun e w' => e = .returned (.int .i64 r) ∧ Below w.heap.size w w') := by
        intro hk1 hk2 fa fb
        obtain ⟨_, _, _, a0, a1, ea0, ea1, _⟩ := fa
        obtain ⟨_, _, _, b0, b1, eb0, eb1, _⟩ := fb
        have p0 : 0 ≤ y1 * y2 := Int.mul_nonneg a0 b0
        have p1 : y1 * y2 ≤ 281474976710656 := by
          have h1 : y1 * y2 ≤ 16777216 * y2 := Int.mul_le_mul_of_nonneg_right (by omega) b0
          omega
        obtain ⟨M, hM⟩ := Int.eq_ofNat_of_zero_le p0
        obtain ⟨r, _, _, hP, hR⟩ := roundBothS s3 (x1 + x2) M t0 t1 (by omega) (by omega) (by omega)
        refine ⟨r, fun w => spF w y1 x1 y2 x2 M (x1 + x2) r hM (by omega) (by omega) (by omega) (by omega) rfl (by omega) (by omega) hP (fun w => FlM.openFin a s1 y1 x1 w ⟨by assumption, by assumption, by assumption, a0, a1, ea0, ea1, by assumption⟩) (fun w => FlM.openFin b s2 y2 x2 w ⟨by assumption, by assumption, by assumption, b0, b1, eb0, eb1, by assumption⟩), fun w hv =>
          mulWalk a b k1 s1 x1 y1 k2 s2 x2 y2 s3 M (x1 + x2) r w hv hA hB (.inr (.inr (.inr (.inr (.inr ⟨hk1, hk2, hx, ?_, ?_, ?_, ?_, ?_, ?_, hR⟩)))))⟩
        · simp [IntKind.wrap, IntKind.bits, IntKind.signed]; omega
        · simp [IntKind.wrap, IntKind.bits, IntKind.signed]; omega
        · rw [hM]; simp [IntKind.wrap, IntKind.bits, IntKind.signed]; omega
        · rw [IntKind.wrap_i64]; omega
        · rw [IntKind.wrap_i64]; omega
        · rw [IntKind.wrap_i64]; omega
      rcases c1 with ⟨q1, _⟩ | ⟨rfl, ia⟩ | ⟨rfl, rfl, rfl, fa⟩ | ⟨rfl, ya, fa⟩
      · rw [q1] at e1; cases e1
      · rcases c2 with ⟨q2, _⟩ | ⟨rfl, ib⟩ | ⟨rfl, rfl, rfl, fb⟩ | ⟨rfl, yb, fb⟩
        · rw [q2] at e2; cases e2
        · exact ⟨_, fun w => spI w 1 0 0 1 0 0 (.inl ⟨rfl, .inl rfl⟩) (fun w => FlM.openInfC a s1 w ia) (fun w => FlM.openInfC b s2 w ib), imI (.inl ⟨rfl, .inr rfl⟩)⟩
        · exact ⟨_, fun w => spN w 1 0 0 (-149) (.inl ⟨rfl, rfl⟩) (fun w => FlM.openInfC a s1 w ia) (fun w => FlM.openFin b s2 0 (-149) w fb), fun w hv => mulWalk a b 2 s1 x1 y1 0 s2 (-149) 0 0 0 0 _ w hv hA hB (.inr (.inr (.inr (.inl ⟨rfl, rfl, rfl⟩))))⟩
        · exact ⟨_, fun w => spI w 1 0 0 0 y2 x2 (.inl ⟨rfl, .inr ⟨rfl, yb⟩⟩) (fun w => FlM.openInfC a s1 w ia) (fun w => FlM.openFin b s2 y2 x2 w fb), imI (.inl ⟨rfl, .inl rfl⟩)⟩
      · rcases c2 with ⟨q2, _⟩ | ⟨rfl, ib⟩ | ⟨rfl, rfl, rfl, fb⟩ | ⟨rfl, yb, fb⟩
        · rw [q2] at e2; cases e2
        · exact ⟨_, fun w => spN w 0 (-149) 1 0 (.inr ⟨rfl, rfl⟩) (fun w => FlM.openFin a s1 0 (-149) w fa) (fun w => FlM.openInfC b s2 w ib), fun w hv => mulWalk a b 0 s1 (-149) 0 2 s2 x2 y2 0 0 0 _ w hv hA hB (.inr (.inr (.inl ⟨rfl, rfl, rfl⟩)))⟩
        · exact fin (.inl rfl) (.inl rfl) fa fb
        · exact fin (.inl rfl) (.inr rfl) fa fb
      · rcases c2 with ⟨q2, _⟩ | ⟨rfl, ib⟩ | ⟨rfl, rfl, rfl, fb⟩ | ⟨rfl, yb, fb⟩
        · rw [q2] at e2; cases e2
        · exact ⟨_, fun w => spI w 0 y1 x1 1 0 0 (.inr ⟨rfl, ya, rfl⟩) (fun w => FlM.openFin a s1 y1 x1 w fa) (fun w => FlM.openInfC b s2 w ib), imI (.inr ⟨rfl, rfl⟩)⟩
        · exact fin (.inr rfl) (.inl rfl) fa fb
        · exact fin (.inr rfl) (.inr rfl) fa fb

end FlV
end Go.Proofs.YteoogkcjcfnniaaDoor
