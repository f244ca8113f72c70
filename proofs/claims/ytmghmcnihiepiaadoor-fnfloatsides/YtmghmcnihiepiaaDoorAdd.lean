/- Sums of floats: there is a number that both sides return. -/
import Derived.Test.YtmghmcnihiepiaaDoorAdg
namespace Go.Proofs.YtmghmcnihiepiaaDoor
namespace FlV
open Go.ChangeShapes Go.WideShapes Go.ChangeAt Go.RowKit Go.Joins
open Flo (hide ret_int ret_bool)
set_option linter.unusedVariables false
theorem sumSign (X Y vA vB V : Nat) (s1 s2 s : Int) (hX : X < 533996758980227520598755426542388028650676130589163192486760401955554931445160137505740521734144) (hY : Y < 533996758980227520598755426542388028650676130589163192486760401955554931445160137505740521734144)
    (hA : (s1 = 0 ∧ vA = X) ∨ (s1 = 1 ∧ vA = (2135987035920910082395021706169552114602704522356652769947041607822219725780640550022962086936576 - X) % 2135987035920910082395021706169552114602704522356652769947041607822219725780640550022962086936576))
    (hB : (s2 = 0 ∧ vB = Y) ∨ (s2 = 1 ∧ vB = (2135987035920910082395021706169552114602704522356652769947041607822219725780640550022962086936576 - Y) % 2135987035920910082395021706169552114602704522356652769947041607822219725780640550022962086936576))
    (nz : 0 < X + Y) (hs : (s1 = s2 ∧ s = s1 ∧ V = X + Y) ∨ (s1 ≠ s2 ∧ Y < X ∧ s = s1 ∧ V = X - Y) ∨ (s1 ≠ s2 ∧ X < Y ∧ s = s2 ∧ V = Y - X) ∨ (s1 ≠ s2 ∧ X = Y ∧ s = 0 ∧ V = 0)) :
    ((vA + vB) % 2135987035920910082395021706169552114602704522356652769947041607822219725780640550022962086936576 < 1067993517960455041197510853084776057301352261178326384973520803911109862890320275011481043468288 ∧ s = 0 ∧ V = (vA + vB) % 2135987035920910082395021706169552114602704522356652769947041607822219725780640550022962086936576) ∨
    (1067993517960455041197510853084776057301352261178326384973520803911109862890320275011481043468288 ≤ (vA + vB) % 2135987035920910082395021706169552114602704522356652769947041607822219725780640550022962086936576 ∧ s = 1 ∧ V = 2135987035920910082395021706169552114602704522356652769947041607822219725780640550022962086936576 - (vA + vB) % 2135987035920910082395021706169552114602704522356652769947041607822219725780640550022962086936576) := by
  rcases hA with ⟨rfl, rfl⟩ | ⟨rfl, rfl⟩ <;> rcases hB with ⟨rfl, rfl⟩ | ⟨rfl, rfl⟩ <;> rcases hs with ⟨h0, h1, h2⟩ | ⟨h0, h1, h2, h3⟩ | ⟨h0, h1, h2, h3⟩ | ⟨h0, h1, h2, h3⟩ <;> omega
theorem mag_lt (m p : Nat) (hm : m < 16777216) (hp : p ≤ 253) : m * 2 ^ p < 533996758980227520598755426542388028650676130589163192486760401955554931445160137505740521734144 := by
  have h1 : m * 2 ^ p ≤ 16777216 * 2 ^ 253 := Nat.mul_le_mul (by omega) (Nat.pow_le_pow_right (by omega) hp)
  exact Nat.lt_of_le_of_lt h1 (by decide)
theorem mag_gt (m n p q : Nat) (hn : n < 16777216) (hm : 8388608 ≤ m) (h : q < p) : n * 2 ^ q < m * 2 ^ p := by
  obtain ⟨d, rfl⟩ : ∃ d, p = q + 1 + d := ⟨p - q - 1, by omega⟩
  have hq : 0 < 2 ^ q := Nat.two_pow_pos _
  have h1 : n * 2 ^ q < 16777216 * 2 ^ q := Nat.mul_lt_mul_of_pos_right hn hq
  have h2 : 8388608 * 2 ^ (q + 1 + d) ≤ m * 2 ^ (q + 1 + d) := Nat.mul_le_mul_right _ hm
  have h3 : 2 ^ (q + 1) ≤ 2 ^ (q + 1 + d) := Nat.pow_le_pow_right (by omega) (by omega)
  have h4 : 2 ^ (q + 1) = 2 * 2 ^ q := by rw [Nat.pow_succ, Nat.mul_comm]
  generalize 2 ^ (q + 1 + d) = z at *
  generalize 2 ^ (q + 1) = y at *
  generalize 2 ^ q = x at *
  omega
/-- two finite floats -/
theorem addFin (a b k1 s1 x1 k2 s2 x2 : Int) (m1 m2 p1 p2 : Nat) (f1 : FlP.Fin a s1 m1 x1) (f2 : FlP.Fin b s2 m2 x2) (hp1 : x1 + 149 = (p1 : Int)) (hp2 : x2 + 149 = (p2 : Int)) : ∃ (s : Int) (V : Nat), 0 ≤ s ∧ s ≤ 1 ∧
    (∀ w, Calls Tryd.prog 19 #[.int .i64 a, .int .i64 b] w fun e w' => e = .returned (.int .i64 ((Rnd.fl 23 255 V 1 : Nat) + s * 2147483648)) ∧ Below w.heap.size w w') ∧
    ((s1 = s2 ∧ s = s1 ∧ V = m1 * 2 ^ p1 + m2 * 2 ^ p2) ∨ (s1 ≠ s2 ∧ m2 * 2 ^ p2 < m1 * 2 ^ p1 ∧ s = s1 ∧ V = m1 * 2 ^ p1 - m2 * 2 ^ p2) ∨ (s1 ≠ s2 ∧ m1 * 2 ^ p1 < m2 * 2 ^ p2 ∧ s = s2 ∧ V = m2 * 2 ^ p2 - m1 * 2 ^ p1) ∨ (s1 ≠ s2 ∧ m1 * 2 ^ p1 = m2 * 2 ^ p2 ∧ s = 0 ∧ V = 0)) := by
  have o1 := fun w => FlM.openFin a s1 m1 x1 w f1
  have o2 := fun w => FlM.openFin b s2 m2 x2 w f2
  obtain ⟨sa0, sa1, _, ma0, ma1, ea0, ea1, ea2⟩ := f1
  obtain ⟨sb0, sb1, _, mb0, mb1, eb0, eb1, eb2⟩ := f2
  by_cases hord : x2 < x1 ∨ (x1 = x2 ∧ (m2 : Int) ≤ (m1 : Int))
  · have hge : m2 * 2 ^ p2 ≤ m1 * 2 ^ p1 := by
      rcases hord with h | ⟨h1, h2⟩
      · exact Nat.le_of_lt (mag_gt m1 m2 p1 p2 (by omega) (by omega) (by omega))
      · rw [show p1 = p2 by omega]; exact Nat.mul_le_mul_right _ (by omega)
    have ho : (x2 < x1 ∧ 8388608 ≤ (m1 : Int)) ∨ (x1 = x2 ∧ (m2 : Int) ≤ (m1 : Int)) := by omega
    have go := fun s V hV w => specGrC a b s1 s2 x1 x2 s m1 m2 p1 p2 V w o1 o2 ea0 ea1 eb0 eb1 ma1 mb1 sa0 sa1 sb0 sb1 hp1 hp2 ho hV
    by_cases hs : s1 = s2
    · exact ⟨s1, _, sa0, sa1, go s1 _ (.inl ⟨hs, rfl, rfl⟩), .inl ⟨hs, rfl, rfl⟩⟩
    · by_cases hz : m1 * 2 ^ p1 = m2 * 2 ^ p2
      · exact ⟨0, 0, by omega, by omega, go 0 0 (.inr (.inr ⟨hs, by omega, rfl, rfl⟩)), .inr (.inr (.inr ⟨hs, hz, rfl, rfl⟩))⟩
      · exact ⟨s1, _, sa0, sa1, go s1 _ (.inr (.inl ⟨hs, rfl, by omega, rfl⟩)), .inr (.inl ⟨hs, by omega, rfl, rfl⟩)⟩
  · have hgt : m1 * 2 ^ p1 < m2 * 2 ^ p2 := by
      by_cases h : x1 < x2
      · exact mag_gt m2 m1 p2 p1 (by omega) (by omega) (by omega)
      · rw [show p1 = p2 by omega]; exact Nat.mul_lt_mul_of_pos_right (by omega) (Nat.two_pow_pos _)
    have ho : (x1 < x2 ∧ 8388608 ≤ (m2 : Int)) ∨ (x2 = x1 ∧ (m1 : Int) < (m2 : Int)) := by omega
    have go := fun s V hV w => specGrA a b s2 s1 x2 x1 s m2 m1 p2 p1 V w o1 o2 eb0 eb1 ea0 ea1 mb1 ma1 sb0 sb1 sa0 sa1 hp2 hp1 ho hV
    by_cases hs : s1 = s2
    · exact ⟨s2, _, sb0, sb1, go s2 _ (.inl ⟨hs.symm, rfl, rfl⟩), .inl ⟨hs, hs.symm, Nat.add_comm _ _⟩⟩
    · exact ⟨s2, _, sb0, sb1, go s2 _ (.inr (.inl ⟨fun h => hs h.symm, rfl, by omega, rfl⟩)), .inr (.inr (.inl ⟨hs, hgt, rfl, rfl⟩))⟩
theorem openAny2 (a : Int) (w : World) :
    Calls Tryd.prog 34 #[.int .i64 a] w fun e w' => ∃ k n x y, e = .returned (.agg #[.int .i64 k, .bool n, .int .i64 x, .int .i64 y]) ∧ Below w.heap.size w w' := by
  rcases num_or a with h | ⟨s, h⟩
  · exact (FlM.openBad a w h).mono fun e w' ⟨b, x, y, h1, h2⟩ => ⟨_, _, _, _, h1, h2⟩
  · exact (openNum a s w h).mono fun e w' ⟨k, y, z, _, h1, h2⟩ => ⟨_, _, _, _, h1, h2⟩
theorem bbb2 {w w1 w2 : World} (b1 : Below w.heap.size w w1) (o : Obj) (b2 : Below (w1.alloc o).heap.size (w1.alloc o) w2) (o' : Obj) : Below w.heap.size w (w2.alloc o') := by
  have h1 : Below w.heap.size w (w1.alloc o) := b1.alloc b1.size o
  have h2 : Below w.heap.size w w2 := h1.trans (b2.mono h1.size)
  exact h2.alloc h2.size o'
set_option maxRecDepth 100000 in
set_option maxHeartbeats 8000000 in
theorem addBoth (a b : Int) : ∃ r, (∀ w, Calls Tryd.prog 19 #[.int .i64 a, .int .i64 b] w fun e w' => e = .returned (.int .i64 r) ∧ Below w.heap.size w w') ∧
    (∀ w, SV w → Calls Tryd.prog 11 #[.int .i64 a, .int .i64 b] w fun e w' => e = .returned (.int .i64 r) ∧ Below w.heap.size w w') := by
  obtain ⟨k1, s1, x1, y1, c1, hA⟩ := splitAny a
  obtain ⟨k2, s2, x2, y2, c2, hB⟩ := splitAny b
  rcases c1.num with ⟨e1, ba⟩ | ⟨e1, na⟩
  · refine ⟨2143289344, fun w => ?_, fun w hv => addWalk a b k1 s1 x1 y1 k2 s2 x2 y2 0 _ (fun _ => 0) (fun _ => 0) (fun _ => 0) w hv hA hB (.inl ⟨e1, rfl⟩)⟩
    clear hA hB c1 c2 e1
    go_enter Tryd.func19, Tryd.ntmps19
    go_wp2_with fail
    refine (FlM.openBad a _ ba).mono ?_; rintro e w1 ⟨b', x, y, rfl, b1⟩
    go_wp2_with fail
    refine (openAny2 b _).mono ?_; rintro e w2 ⟨k, n, x', y', rfl, b2⟩
    refine keep_then b2 w1.heap.size (by simp) ?_; intro g1 g2 g3 g4 g5 g6
    go_wp2_with fail
    go_ret
    exact ⟨rfl, bbb2 b1 _ b2 _⟩
  · rcases c2.num with ⟨e2, bb⟩ | ⟨e2, nb⟩
    · refine ⟨2143289344, fun w => ?_, fun w hv => addWalk a b k1 s1 x1 y1 k2 s2 x2 y2 0 _ (fun _ => 0) (fun _ => 0) (fun _ => 0) w hv hA hB (.inr (.inl ⟨e1, e2, rfl⟩))⟩
      have Hna := hide na
      have Hbb := hide bb
      clear hA hB c1 c2 e1 e2 na bb
      go_enter Tryd.func19, Tryd.ntmps19
      go_wp2_with fail
      refine (openNum a s1 _ Hna.out).mono ?_; rintro e w1 ⟨k, y, z, hk, rfl, b1⟩
      go_wp2_with fail
      refine (FlM.openBad b _ Hbb.out).mono ?_; rintro e w2 ⟨b', x, y, rfl, b2⟩
      refine keep_then b2 w1.heap.size (by simp) ?_; intro g1 g2 g3 g4 g5 g6
      go_wp2_with fail
      go_ret
      exact ⟨rfl, bbb2 b1 _ b2 _⟩
    · obtain ⟨sa0, sa1, _⟩ := na.bd
      obtain ⟨sb0, sb1, _⟩ := nb.bd
      have sa : s1 = 0 ∨ s1 = 1 := by omega
      have sb : s2 = 0 ∨ s2 = 1 := by omega
      have spI : ∀ (w : World) (ka ma ea kb mb eb s : Int), ((ka = 1 ∧ kb = 1 ∧ s1 = s2 ∧ s = s1) ∨ (ka = 1 ∧ kb = 0 ∧ s = s1) ∨ (ka = 0 ∧ kb = 1 ∧ s = s2)) →
          (∀ w, Calls Tryd.prog 34 #[.int .i64 a] w fun e w' => e = .returned (.agg #[.int .i64 ka, .bool (s1 == 1), .int .i64 ma, .int .i64 ea]) ∧ Below w.heap.size w w') →
          (∀ w, Calls Tryd.prog 34 #[.int .i64 b] w fun e w' => e = .returned (.agg #[.int .i64 kb, .bool (s2 == 1), .int .i64 mb, .int .i64 eb]) ∧ Below w.heap.size w w') →
          Calls Tryd.prog 19 #[.int .i64 a, .int .i64 b] w fun e w' => e = .returned (.int .i64 (2139095040 + s * 2147483648)) ∧ Below w.heap.size w w' := by
        intro w ka ma ea kb mb eb s hk oA oB
        have t0 : 0 ≤ s := by omega
        have t1 : s ≤ 1 := by omega
        have HI := hide (fun n w hn => FlM.infinity n s w t0 t1 hn)
        have OA := hide oA
        have OB := hide oB
        clear oA oB hA hB c1 c2 e1 e2 na nb
        rcases hk with ⟨rfl, rfl, rfl, rfl⟩ | ⟨rfl, rfl, rfl⟩ | ⟨rfl, rfl, rfl⟩
        all_goals
          go_enter Tryd.func19, Tryd.ntmps19
          go_wp2_with fail
          refine (OA.out _).mono ?_; rintro e w1 ⟨rfl, b1⟩
          go_wp2_with fail
          refine (OB.out _).mono ?_; rintro e w2 ⟨rfl, b2⟩
          refine keep_then b2 w1.heap.size (by simp) ?_; intro g1 g2 g3 g4 g5 g6
          go_wp2_with fail
          refine (HI.out _ _ rfl).mono ?_; rintro e w3 ⟨rfl, rfl⟩
          go_wp2_with fail
          go_ret
          exact ⟨rfl, bbb2 b1 _ b2 _⟩
      have spN : ∀ (w : World) (ma ea mb eb : Int), s1 ≠ s2 →
          (∀ w, Calls Tryd.prog 34 #[.int .i64 a] w fun e w' => e = .returned (.agg #[.int .i64 1, .bool (s1 == 1), .int .i64 ma, .int .i64 ea]) ∧ Below w.heap.size w w') →
          (∀ w, Calls Tryd.prog 34 #[.int .i64 b] w fun e w' => e = .returned (.agg #[.int .i64 1, .bool (s2 == 1), .int .i64 mb, .int .i64 eb]) ∧ Below w.heap.size w w') →
          Calls Tryd.prog 19 #[.int .i64 a, .int .i64 b] w fun e w' => e = .returned (.int .i64 2143289344) ∧ Below w.heap.size w w' := by
        intro w ma ea mb eb hs oA oB
        have OA := hide oA
        have OB := hide oB
        clear oA oB hA hB c1 c2 e1 e2 na nb spI
        rcases sa with rfl | rfl <;> rcases sb with rfl | rfl
        · exact absurd rfl hs
        · clear hs
          go_enter Tryd.func19, Tryd.ntmps19
          go_wp2_with fail
          refine (OA.out _).mono ?_; rintro e w1 ⟨rfl, b1⟩
          go_wp2_with fail
          refine (OB.out _).mono ?_; rintro e w2 ⟨rfl, b2⟩
          refine keep_then b2 w1.heap.size (by simp) ?_; intro g1 g2 g3 g4 g5 g6
          go_wp2_with fail
          go_ret
          exact ⟨rfl, bbb2 b1 _ b2 _⟩
        · clear hs
          go_enter Tryd.func19, Tryd.ntmps19
          go_wp2_with fail
          refine (OA.out _).mono ?_; rintro e w1 ⟨rfl, b1⟩
          go_wp2_with fail
          refine (OB.out _).mono ?_; rintro e w2 ⟨rfl, b2⟩
          refine keep_then b2 w1.heap.size (by simp) ?_; intro g1 g2 g3 g4 g5 g6
          go_wp2_with fail
          go_ret
          exact ⟨rfl, bbb2 b1 _ b2 _⟩
        · exact absurd rfl hs
      have imp := fun s3 r A B S hc w hv => addWalk a b k1 s1 x1 y1 k2 s2 x2 y2 s3 r A B S w hv hA hB hc
      have fin : FlP.Fin a s1 y1 x1 → FlP.Fin b s2 y2 x2 → ((k1 = 0 ∧ y1 = 0 ∧ k2 = 0 ∧ y2 = 0) ∨ (((k1 = 1 ∧ (k2 = 0 ∨ k2 = 1)) ∨ (k1 = 0 ∧ k2 = 1)) ∧ (y1 ≠ 0 ∨ y2 ≠ 0))) → ∃ r, (∀ w, Calls Tryd.prog 19 #[.int .i64 a, .int .i64 b] w fun e w' => e = .returned (.int .i64 r) ∧ Below w.heap.size w w') ∧
          (∀ w, SV w → Calls Tryd.prog 11 #[.int .i64 a, .int .i64 b] w fun e w' => e = .returned (.int .i64 r) ∧ Below w.heap.size w w') := by
        intro fa fb hk
        have fa' := fa
        have fb' := fb
        obtain ⟨_, _, _, a0, a1, ea0, ea1, _⟩ := fa'
        obtain ⟨_, _, _, b0, b1, eb0, eb1, _⟩ := fb'
        obtain ⟨m1, rfl⟩ := Int.eq_ofNat_of_zero_le a0
        obtain ⟨m2, rfl⟩ := Int.eq_ofNat_of_zero_le b0
        obtain ⟨p1, hp1⟩ := Int.eq_ofNat_of_zero_le (show 0 ≤ x1 + 149 by omega)
        obtain ⟨p2, hp2⟩ := Int.eq_ofNat_of_zero_le (show 0 ≤ x2 + 149 by omega)
        obtain ⟨s, V, t0, t1, hS, hV⟩ := addFin a b k1 s1 x1 k2 s2 x2 m1 m2 p1 p2 fa fb hp1 hp2
        refine ⟨_, hS, ?_⟩
        rcases hk with ⟨h1, h2, h3, h4⟩ | ⟨h1, h2⟩
        · have z1 : m1 = 0 := by omega
          have z2 : m2 = 0 := by omega
          rw [z1, z2] at hV
          have hV0 : V = 0 := by rcases hV with h | h | h | h <;> simp at h <;> omega
          obtain ⟨s3, hx, hs3⟩ : ∃ s3 : Int, bits .and .u8 s1 s2 = s3 ∧ s3 = s := by
            rcases hV with ⟨h, h', _⟩ | ⟨_, h, _⟩ | ⟨_, h, _⟩ | ⟨h, _, h', _⟩
            · rcases sa with rfl | rfl <;> subst h <;> subst h'
              · exact ⟨0, by decide, rfl⟩
              · exact ⟨1, by decide, rfl⟩
            · simp at h
            · simp at h
            · subst h'
              rcases sa with rfl | rfl <;> rcases sb with rfl | rfl
              · exact absurd rfl h
              · exact ⟨0, by decide, rfl⟩
              · exact ⟨0, by decide, rfl⟩
              · exact absurd rfl h
          rw [hV0, Rnd.fl_zero]
          exact imp s3 _ (fun _ => 0) (fun _ => 0) (fun _ => 0) (.inr (.inr (.inr (.inr (.inr (.inr (.inl ⟨h1, h3, hx, by omega, by omega, by rw [hs3]; simp⟩)))))))
        · obtain ⟨A, hAl, hAv, hAc⟩ := Wid.wideF k1 s1 x1 m1 p1 sa hp1 (by omega) (by omega)
          obtain ⟨B, hBl, hBv, hBc⟩ := Wid.wideF k2 s2 x2 m2 p2 sb hp2 (by omega) (by omega)
          have nz : 0 < m1 * 2 ^ p1 + m2 * 2 ^ p2 := by
            rcases h2 with h | h
            · have : 0 < m1 * 2 ^ p1 := Nat.mul_pos (by omega) (Nat.two_pow_pos _)
              omega
            · have : 0 < m2 * 2 ^ p2 := Nat.mul_pos (by omega) (Nat.two_pow_pos _)
              omega
          have key := sumSign _ _ _ _ V s1 s2 s (mag_lt m1 p1 (by omega) (by omega)) (mag_lt m2 p2 (by omega) (by omega)) hAv hBv nz hV
          rw [← Wid.val_plus A B hAl hBl] at key
          have hCl : ∀ t, Wid.cS A B t < 2 ^ 64 := fun t => Nat.mod_lt _ (by decide)
          have hR := fun w hv => Wid.roundWide (Wid.cS A B) hCl s V w hv key
          rw [Int.add_comm]
          exact imp 0 _ (fun t => (A t : Nat)) (fun t => (B t : Nat)) (fun t => (Wid.cS A B t : Nat)) (.inr (.inr (.inr (.inr (.inr (.inr (.inr ⟨h1, hAc, hBc, fun w => Wid.plusF A B hAl hBl w, hR⟩)))))))
      rcases c1 with ⟨q1, _⟩ | ⟨rfl, ia⟩ | ⟨rfl, rfl, rfl, fa⟩ | ⟨rfl, ya, fa⟩
      · rw [q1] at e1; cases e1
      · rcases c2 with ⟨q2, _⟩ | ⟨rfl, ib⟩ | ⟨rfl, rfl, rfl, fb⟩ | ⟨rfl, yb, fb⟩
        · rw [q2] at e2; cases e2
        · by_cases hs : s1 = s2
          · refine ⟨_, fun w => spI w 1 0 0 1 0 0 s1 (.inl ⟨rfl, rfl, hs, rfl⟩) (fun w => FlM.openInfC a s1 w ia) (fun w => FlM.openInfC b s2 w ib), ?_⟩
            rw [← ia.2.2]
            exact imp 0 _ (fun _ => 0) (fun _ => 0) (fun _ => 0) (.inr (.inr (.inr (.inl ⟨rfl, rfl, hs, rfl⟩))))
          · exact ⟨_, fun w => spN w 0 0 0 0 hs (fun w => FlM.openInfC a s1 w ia) (fun w => FlM.openInfC b s2 w ib), imp 0 _ (fun _ => 0) (fun _ => 0) (fun _ => 0) (.inr (.inr (.inl ⟨rfl, rfl, beq_eq_false_iff_ne.2 hs, rfl⟩)))⟩
        · refine ⟨_, fun w => spI w 1 0 0 0 0 (-149) s1 (.inr (.inl ⟨rfl, rfl, rfl⟩)) (fun w => FlM.openInfC a s1 w ia) (fun w => FlM.openFin b s2 0 (-149) w fb), ?_⟩
          rw [← ia.2.2]
          exact imp 0 _ (fun _ => 0) (fun _ => 0) (fun _ => 0) (.inr (.inr (.inr (.inr (.inl ⟨rfl, .inl rfl, rfl⟩)))))
        · refine ⟨_, fun w => spI w 1 0 0 0 y2 x2 s1 (.inr (.inl ⟨rfl, rfl, rfl⟩)) (fun w => FlM.openInfC a s1 w ia) (fun w => FlM.openFin b s2 y2 x2 w fb), ?_⟩
          rw [← ia.2.2]
          exact imp 0 _ (fun _ => 0) (fun _ => 0) (fun _ => 0) (.inr (.inr (.inr (.inr (.inl ⟨rfl, .inr rfl, rfl⟩)))))
      · rcases c2 with ⟨q2, _⟩ | ⟨rfl, ib⟩ | ⟨rfl, rfl, rfl, fb⟩ | ⟨rfl, yb, fb⟩
        · rw [q2] at e2; cases e2
        · refine ⟨_, fun w => spI w 0 0 (-149) 1 0 0 s2 (.inr (.inr ⟨rfl, rfl, rfl⟩)) (fun w => FlM.openFin a s1 0 (-149) w fa) (fun w => FlM.openInfC b s2 w ib), ?_⟩
          rw [← ib.2.2]
          exact imp 0 _ (fun _ => 0) (fun _ => 0) (fun _ => 0) (.inr (.inr (.inr (.inr (.inr (.inl ⟨.inl rfl, rfl, rfl⟩))))))
        · exact fin fa fb (.inl ⟨rfl, rfl, rfl, rfl⟩)
        · exact fin fa fb (.inr ⟨.inr ⟨rfl, rfl⟩, .inr yb⟩)
      · rcases c2 with ⟨q2, _⟩ | ⟨rfl, ib⟩ | ⟨rfl, rfl, rfl, fb⟩ | ⟨rfl, yb, fb⟩
        · rw [q2] at e2; cases e2
        · refine ⟨_, fun w => spI w 0 y1 x1 1 0 0 s2 (.inr (.inr ⟨rfl, rfl, rfl⟩)) (fun w => FlM.openFin a s1 y1 x1 w fa) (fun w => FlM.openInfC b s2 w ib), ?_⟩
          rw [← ib.2.2]
          exact imp 0 _ (fun _ => 0) (fun _ => 0) (fun _ => 0) (.inr (.inr (.inr (.inr (.inr (.inl ⟨.inr rfl, rfl, rfl⟩))))))
        · exact fin fa fb (.inr ⟨.inl ⟨rfl, .inl rfl⟩, .inl ya⟩)
        · exact fin fa fb (.inr ⟨.inl ⟨rfl, .inr rfl⟩, .inl ya⟩)
end FlV
end Go.Proofs.YtmghmcnihiepiaaDoor
