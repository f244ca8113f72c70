/- Floats, whichever comes first: sums, products, less, opposites of the program. -/
import Derived.Test.YtmghmcnihiepiaaDoorWhq
namespace Go.Proofs.YtmghmcnihiepiaaDoor
namespace FlV
open Go.ChangeShapes Go.WideShapes Go.ChangeAt Go.RowKit Go.Joins
open Flo (hide ret_int ret_bool)
set_option linter.unusedVariables false
theorem xor_nat (a b : Nat) (ha : a < 2 ^ 62) (hb : b < 2 ^ 62) : bits .xor .i64 (a : Int) (b : Int) = ((a ^^^ b : Nat) : Int) := by
  have h64 : (2 : Nat) ^ 62 < 2 ^ 64 := by decide
  have key : (BitVec.ofInt 64 (a : Int) ^^^ BitVec.ofInt 64 (b : Int)).toNat = a ^^^ b := by
    rw [BitVec.toNat_xor]
    congr 1
    · rw [BitVec.ofInt_natCast, BitVec.toNat_ofNat, Nat.mod_eq_of_lt (by omega)]
    · rw [BitVec.ofInt_natCast, BitVec.toNat_ofNat, Nat.mod_eq_of_lt (by omega)]
  show IntKind.i64.wrap ((BitVec.ofInt 64 (a : Int) ^^^ BitVec.ofInt 64 (b : Int)).toNat : Nat) = _
  rw [key, IntKind.wrap_i64]
  have := Nat.xor_lt_two_pow ha hb
  omega
theorem xor31 (t : Nat) (ht : t < 2 ^ 31) : t ^^^ 2147483648 = t + 2147483648 ∧ (t + 2147483648) ^^^ 2147483648 = t := by
  have e : (2147483648 : Nat) = 2 ^ 31 := by decide
  have h : t ^^^ 2147483648 = t + 2147483648 := by
    have h1 : t ^^^ 2 ^ 31 = 2 ^ 31 * 1 ||| t := by
      apply Nat.eq_of_testBit_eq; intro i
      rw [Nat.mul_one, Nat.testBit_xor, Nat.testBit_or, Nat.testBit_two_pow]
      by_cases c : 31 = i
      · subst c; rw [Nat.testBit_lt_two_pow ht]; simp
      · simp [c]
    rw [e, h1, ← Nat.two_pow_add_eq_or_of_lt ht 1]
    omega
  refine ⟨h, ?_⟩
  rw [← h, Nat.xor_assoc, Nat.xor_self, Nat.xor_zero]
/-- the opposite's bits -/
theorem neg_bits (a s : Int) (h : Num a s) : ∃ c : Int, bits .xor .i64 a 2147483648 = c ∧ ((s = 0 ∧ c = a + 2147483648) ∨ (s = 1 ∧ c = a - 2147483648)) := by
  obtain ⟨s0, s1, a0, a1, hd⟩ := h.bd
  obtain ⟨A, rfl⟩ := Int.eq_ofNat_of_zero_le a0
  have hx := xor_nat A 2147483648 (by omega) (by decide)
  have sc : s = 0 ∨ s = 1 := by omega
  rcases sc with rfl | rfl
  · have := (xor31 A (by omega)).1
    exact ⟨_, hx, .inl ⟨rfl, by rw [this]; omega⟩⟩
  · obtain ⟨t, rfl⟩ : ∃ t, A = t + 2147483648 := ⟨A - 2147483648, by omega⟩
    have := (xor31 t (by omega)).2
    exact ⟨_, hx, .inr ⟨rfl, by rw [this]; omega⟩⟩
theorem nan_bad : FlP.Bad 2143289344 := by unfold FlP.Bad; omega
theorem not_both {a s : Int} (h : Num a s) (hb : FlP.Bad a) : False := by
  unfold FlP.Bad at hb
  rcases h with h | ⟨m, e, h⟩
  · unfold FlP.Inf at h; omega
  · unfold FlP.Fin at h; omega
theorem negBad (a : Int) (w : World) (hv : SV w) (h : FlP.Bad a) : Calls Tryd.prog 15 #[.int .i64 a] w fun e w' => e = .returned (.int .i64 2143289344) ∧ Below w.heap.size w w' := by
  obtain ⟨v0, v1⟩ := hv.cells
  have ff := field0
  go_enter Tryd.func15, Tryd.ntmps15
  go_wp2_with fail
  refine (splitBad a _ h).mono ?_; rintro e w1 ⟨x, y, z, rfl, b1⟩
  go_wp2_with fail
  go_ret
  first | exact ⟨rfl, b1⟩ | exact ⟨rfl, b1.alloc b1.size _⟩
theorem negNum (a s c : Int) (w : World) (hv : SV w) (h : Num a s) (hc : bits .xor .i64 a 2147483648 = c) : Calls Tryd.prog 15 #[.int .i64 a] w fun e w' => e = .returned (.int .i64 c) ∧ Below w.heap.size w w' := by
  obtain ⟨v0, v1⟩ := hv.cells
  have ff := field0
  go_enter Tryd.func15, Tryd.ntmps15
  go_wp2_with fail
  refine (splitNum a s _ h).mono ?_; rintro e w1 ⟨k, y, z, hk, rfl, b1⟩
  obtain ⟨v2, v3⟩ := (hv.below b1).cells
  go_wp2_with fail
  refine (zero1 _).mono ?_; rintro e w2 ⟨rfl, b2⟩
  go_wp2_with fail
  go_ret
  exact ⟨rfl, b1.trans (b2.mono b1.size)⟩
theorem Cls.bad {a k s x y : Int} (h : Cls a k s x y) (hk : (k == 3) = false) : ¬ FlP.Bad a := fun hb => by
  rcases h.num with ⟨e, _⟩ | ⟨_, n⟩
  · rw [e] at hk; cases hk
  · exact not_both n hb
theorem addSym (a b : Int) : ∃ r, (∀ w, SV w → Calls Tryd.prog 11 #[.int .i64 a, .int .i64 b] w fun e w' => e = .returned (.int .i64 r) ∧ Below w.heap.size w w') ∧
    (∀ w, SV w → Calls Tryd.prog 11 #[.int .i64 b, .int .i64 a] w fun e w' => e = .returned (.int .i64 r) ∧ Below w.heap.size w w') ∧ (FlP.Bad a → r = 2143289344) := by
  obtain ⟨k1, s1, x1, y1, c1, hA⟩ := splitAny a
  obtain ⟨k2, s2, x2, y2, c2, hB⟩ := splitAny b
  have ab := fun s3 r A B S hc w hv => addWalk a b k1 s1 x1 y1 k2 s2 x2 y2 s3 r A B S w hv hA hB hc
  have ba := fun s3 r A B S hc w hv => addWalk b a k2 s2 x2 y2 k1 s1 x1 y1 s3 r A B S w hv hB hA hc
  let z : Nat → Int := fun _ => 0
  rcases c1.num with ⟨e1, b1⟩ | ⟨e1, n1⟩
  · refine ⟨2143289344, ab 0 _ z z z (.inl ⟨e1, rfl⟩), ?_, fun _ => rfl⟩
    by_cases h : k2 = 3
    · exact ba 0 _ z z z (.inl ⟨h, rfl⟩)
    · exact ba 0 _ z z z (.inr (.inl ⟨beq_eq_false_iff_ne.2 h, e1, rfl⟩))
  · have nb := c1.bad e1
    rcases c2.num with ⟨e2, b2⟩ | ⟨e2, n2⟩
    · exact ⟨2143289344, ab 0 _ z z z (.inr (.inl ⟨e1, e2, rfl⟩)), ba 0 _ z z z (.inl ⟨e2, rfl⟩), fun _ => rfl⟩
    · have fin : ∀ m1 m2 : Nat, FlP.Fin a s1 m1 x1 → FlP.Fin b s2 m2 x2 → ∃ r, (∀ w, SV w → Calls Tryd.prog 11 #[.int .i64 a, .int .i64 b] w fun e w' => e = .returned (.int .i64 r) ∧ Below w.heap.size w w') ∧
          (∀ w, SV w → Calls Tryd.prog 11 #[.int .i64 b, .int .i64 a] w fun e w' => e = .returned (.int .i64 r) ∧ Below w.heap.size w w') ∧ (FlP.Bad a → r = 2143289344) := by
        intro m1 m2 fa fb
        obtain ⟨p1, hp1⟩ := Int.eq_ofNat_of_zero_le (show 0 ≤ x1 + 149 by have := fa.2.2.2.2.2.1; omega)
        obtain ⟨p2, hp2⟩ := Int.eq_ofNat_of_zero_le (show 0 ≤ x2 + 149 by have := fb.2.2.2.2.2.1; omega)
        have go1 := fun s V h w hv => implAddFin a b s1 x1 s2 x2 s m1 m2 p1 p2 V fa fb hp1 hp2 h w hv
        have go2 := fun s V h w hv => implAddFin b a s2 x2 s1 x1 s m2 m1 p2 p1 V fb fa hp2 hp1 h w hv
        by_cases hs : s1 = s2
        · exact ⟨_, go1 s1 _ (.inl ⟨hs, rfl, rfl⟩), go2 s1 _ (.inl ⟨hs.symm, hs, Nat.add_comm _ _⟩), fun hb => absurd hb nb⟩
        · rcases Nat.lt_trichotomy (m1 * 2 ^ p1) (m2 * 2 ^ p2) with h | h | h
          · exact ⟨_, go1 s2 _ (.inr (.inr (.inl ⟨hs, h, rfl, rfl⟩))), go2 s2 _ (.inr (.inl ⟨fun q => hs q.symm, h, rfl, rfl⟩)), fun hb => absurd hb nb⟩
          · exact ⟨_, go1 0 0 (.inr (.inr (.inr ⟨hs, h, rfl, rfl⟩))), go2 0 0 (.inr (.inr (.inr ⟨fun q => hs q.symm, h.symm, rfl, rfl⟩))), fun hb => absurd hb nb⟩
          · exact ⟨_, go1 s1 _ (.inr (.inl ⟨hs, h, rfl, rfl⟩)), go2 s1 _ (.inr (.inr (.inl ⟨fun q => hs q.symm, h, rfl, rfl⟩))), fun hb => absurd hb nb⟩
      have nat : ∀ {c s y x : Int}, FlP.Fin c s y x → ∃ m : Nat, y = (m : Int) := fun h => Int.eq_ofNat_of_zero_le h.2.2.2.1
      rcases c1 with ⟨q1, _⟩ | ⟨rfl, ia⟩ | ⟨rfl, rfl, rfl, fa⟩ | ⟨rfl, ya, fa⟩
      · rw [q1] at e1; cases e1
      · rcases c2 with ⟨q2, _⟩ | ⟨rfl, ib⟩ | ⟨rfl, rfl, rfl, fb⟩ | ⟨rfl, yb, fb⟩
        · rw [q2] at e2; cases e2
        · by_cases hs : s1 = s2
          · have hab : a = b := by rw [ia.2.2, ib.2.2, hs]
            exact ⟨a, ab 0 _ z z z (.inr (.inr (.inr (.inl ⟨rfl, rfl, hs, rfl⟩)))), ba 0 _ z z z (.inr (.inr (.inr (.inl ⟨rfl, rfl, hs.symm, hab⟩)))), fun hb => absurd hb nb⟩
          · exact ⟨_, ab 0 _ z z z (.inr (.inr (.inl ⟨rfl, rfl, beq_eq_false_iff_ne.2 hs, rfl⟩))), ba 0 _ z z z (.inr (.inr (.inl ⟨rfl, rfl, beq_eq_false_iff_ne.2 (fun q => hs q.symm), rfl⟩))), fun hb => absurd hb nb⟩
        · exact ⟨a, ab 0 _ z z z (.inr (.inr (.inr (.inr (.inl ⟨rfl, .inl rfl, rfl⟩))))), ba 0 _ z z z (.inr (.inr (.inr (.inr (.inr (.inl ⟨.inl rfl, rfl, rfl⟩)))))), fun hb => absurd hb nb⟩
        · exact ⟨a, ab 0 _ z z z (.inr (.inr (.inr (.inr (.inl ⟨rfl, .inr rfl, rfl⟩))))), ba 0 _ z z z (.inr (.inr (.inr (.inr (.inr (.inl ⟨.inr rfl, rfl, rfl⟩)))))), fun hb => absurd hb nb⟩
      · rcases c2 with ⟨q2, _⟩ | ⟨rfl, ib⟩ | ⟨rfl, rfl, rfl, fb⟩ | ⟨rfl, yb, fb⟩
        · rw [q2] at e2; cases e2
        · exact ⟨b, ab 0 _ z z z (.inr (.inr (.inr (.inr (.inr (.inl ⟨.inl rfl, rfl, rfl⟩)))))), ba 0 _ z z z (.inr (.inr (.inr (.inr (.inl ⟨rfl, .inl rfl, rfl⟩))))), fun hb => absurd hb nb⟩
        · exact fin 0 0 fa fb
        · obtain ⟨m2, rfl⟩ := nat fb
          exact fin 0 m2 fa fb
      · rcases c2 with ⟨q2, _⟩ | ⟨rfl, ib⟩ | ⟨rfl, rfl, rfl, fb⟩ | ⟨rfl, yb, fb⟩
        · rw [q2] at e2; cases e2
        · exact ⟨b, ab 0 _ z z z (.inr (.inr (.inr (.inr (.inr (.inl ⟨.inr rfl, rfl, rfl⟩)))))), ba 0 _ z z z (.inr (.inr (.inr (.inr (.inl ⟨rfl, .inr rfl, rfl⟩))))), fun hb => absurd hb nb⟩
        · obtain ⟨m1, rfl⟩ := nat fa
          exact fin m1 0 fa fb
        · obtain ⟨m1, rfl⟩ := nat fa
          obtain ⟨m2, rfl⟩ := nat fb
          exact fin m1 m2 fa fb
theorem mulSym (a b : Int) : ∃ r, (∀ w, SV w → Calls Tryd.prog 13 #[.int .i64 a, .int .i64 b] w fun e w' => e = .returned (.int .i64 r) ∧ Below w.heap.size w w') ∧
    (∀ w, SV w → Calls Tryd.prog 13 #[.int .i64 b, .int .i64 a] w fun e w' => e = .returned (.int .i64 r) ∧ Below w.heap.size w w') := by
  obtain ⟨k1, s1, x1, y1, c1, hA⟩ := splitAny a
  obtain ⟨k2, s2, x2, y2, c2, hB⟩ := splitAny b
  have ab := fun s3 M E r hc w hv => mulWalk a b k1 s1 x1 y1 k2 s2 x2 y2 s3 M E r w hv hA hB hc
  have ba := fun s3 M E r hc w hv => mulWalk b a k2 s2 x2 y2 k1 s1 x1 y1 s3 M E r w hv hB hA hc
  rcases c1.num with ⟨e1, b1⟩ | ⟨e1, n1⟩
  · refine ⟨2143289344, ab 0 0 0 _ (.inl ⟨e1, rfl⟩), ?_⟩
    by_cases h : k2 = 3
    · exact ba 0 0 0 _ (.inl ⟨h, rfl⟩)
    · exact ba 0 0 0 _ (.inr (.inl ⟨beq_eq_false_iff_ne.2 h, e1, rfl⟩))
  · rcases c2.num with ⟨e2, b2⟩ | ⟨e2, n2⟩
    · exact ⟨2143289344, ab 0 0 0 _ (.inr (.inl ⟨e1, e2, rfl⟩)), ba 0 0 0 _ (.inl ⟨e2, rfl⟩)⟩
    · obtain ⟨sa0, sa1, _⟩ := n1.bd
      obtain ⟨sb0, sb1, _⟩ := n2.bd
      obtain ⟨s3, hx, t0, t1, hs⟩ := xor_s s1 s2 (by omega) (by omega)
      have hx' : bits .xor .u8 s2 s1 = s3 := by
        obtain ⟨s3', hx2, u0, u1, hs'⟩ := xor_s s2 s1 (by omega) (by omega)
        rw [hx2]; omega
      have inf : ((k1 = 2 ∧ (k2 = 1 ∨ k2 = 2)) ∨ (k1 = 1 ∧ k2 = 2)) → ∃ r, (∀ w, SV w → Calls Tryd.prog 13 #[.int .i64 a, .int .i64 b] w fun e w' => e = .returned (.int .i64 r) ∧ Below w.heap.size w w') ∧
          (∀ w, SV w → Calls Tryd.prog 13 #[.int .i64 b, .int .i64 a] w fun e w' => e = .returned (.int .i64 r) ∧ Below w.heap.size w w') := fun hk =>
        ⟨_, ab s3 0 0 _ (.inr (.inr (.inr (.inr (.inl ⟨hk, hx, t0, t1, rfl⟩))))), ba s3 0 0 _ (.inr (.inr (.inr (.inr (.inl ⟨by omega, hx', t0, t1, rfl⟩)))))⟩
      have fin : (k1 = 0 ∨ k1 = 1) → (k2 = 0 ∨ k2 = 1) → FlP.Fin a s1 y1 x1 → FlP.Fin b s2 y2 x2 → ∃ r, (∀ w, SV w → Calls Tryd.prog 13 #[.int .i64 a, .int .i64 b] w fun e w' => e = .returned (.int .i64 r) ∧ Below w.heap.size w w') ∧
          (∀ w, SV w → Calls Tryd.prog 13 #[.int .i64 b, .int .i64 a] w fun e w' => e = .returned (.int .i64 r) ∧ Below w.heap.size w w') := by
        intro hk1 hk2 fa fb
        obtain ⟨_, _, _, a0, a1, ea0, ea1, _⟩ := fa
        obtain ⟨_, _, _, b0, b1, eb0, eb1, _⟩ := fb
        have p0 : 0 ≤ y1 * y2 := Int.mul_nonneg a0 b0
        have p1 : y1 * y2 ≤ 281474976710656 := by
          have h1 : y1 * y2 ≤ 16777216 * y2 := Int.mul_le_mul_of_nonneg_right (by omega) b0
          omega
        obtain ⟨M, hM⟩ := Int.eq_ofNat_of_zero_le p0
        have hM' : y2 * y1 = M := by rw [Int.mul_comm]; exact hM
        obtain ⟨r, _, _, hP, hR⟩ := roundBothS s3 (x1 + x2) M t0 t1 (by omega) (by omega) (by omega)
        have w1 : IntKind.u64.wrap y1 = y1 := by simp [IntKind.wrap, IntKind.bits, IntKind.signed]; omega
        have w2 : IntKind.u64.wrap y2 = y2 := by simp [IntKind.wrap, IntKind.bits, IntKind.signed]; omega
        have w3 : IntKind.u64.wrap (M : Int) = M := by simp [IntKind.wrap, IntKind.bits, IntKind.signed]; omega
        have w4 : IntKind.i64.wrap x1 = x1 := by rw [IntKind.wrap_i64]; omega
        have w5 : IntKind.i64.wrap x2 = x2 := by rw [IntKind.wrap_i64]; omega
        have w6 : IntKind.i64.wrap (x1 + x2) = x1 + x2 := by rw [IntKind.wrap_i64]; omega
        have w7 : IntKind.i64.wrap (x2 + x1) = x1 + x2 := by rw [IntKind.wrap_i64]; omega
        exact ⟨r, ab s3 M (x1 + x2) r (.inr (.inr (.inr (.inr (.inr ⟨hk1, hk2, hx, w1, w2, by rw [hM]; exact w3, w4, w5, w6, hR⟩))))), ba s3 M (x1 + x2) r (.inr (.inr (.inr (.inr (.inr ⟨hk2, hk1, hx', w2, w1, by rw [hM']; exact w3, w5, w4, w7, hR⟩)))))⟩
      rcases c1 with ⟨q1, _⟩ | ⟨rfl, ia⟩ | ⟨rfl, rfl, rfl, fa⟩ | ⟨rfl, ya, fa⟩
      · rw [q1] at e1; cases e1
      · rcases c2 with ⟨q2, _⟩ | ⟨rfl, ib⟩ | ⟨rfl, rfl, rfl, fb⟩ | ⟨rfl, yb, fb⟩
        · rw [q2] at e2; cases e2
        · exact inf (.inl ⟨rfl, .inr rfl⟩)
        · exact ⟨_, ab 0 0 0 _ (.inr (.inr (.inr (.inl ⟨rfl, rfl, rfl⟩)))), ba 0 0 0 _ (.inr (.inr (.inl ⟨rfl, rfl, rfl⟩)))⟩
        · exact inf (.inl ⟨rfl, .inl rfl⟩)
      · rcases c2 with ⟨q2, _⟩ | ⟨rfl, ib⟩ | ⟨rfl, rfl, rfl, fb⟩ | ⟨rfl, yb, fb⟩
        · rw [q2] at e2; cases e2
        · exact ⟨_, ab 0 0 0 _ (.inr (.inr (.inl ⟨rfl, rfl, rfl⟩))), ba 0 0 0 _ (.inr (.inr (.inr (.inl ⟨rfl, rfl, rfl⟩))))⟩
        · exact fin (.inl rfl) (.inl rfl) fa fb
        · exact fin (.inl rfl) (.inr rfl) fa fb
      · rcases c2 with ⟨q2, _⟩ | ⟨rfl, ib⟩ | ⟨rfl, rfl, rfl, fb⟩ | ⟨rfl, yb, fb⟩
        · rw [q2] at e2; cases e2
        · exact inf (.inr ⟨rfl, rfl⟩)
        · exact fin (.inr rfl) (.inl rfl) fa fb
        · exact fin (.inr rfl) (.inr rfl) fa fb
theorem lessSym (a b : Int) : ∃ p q : Bool, (∀ w, SV w → Calls Tryd.prog 14 #[.int .i64 a, .int .i64 b] w fun e w' => e = .returned (.bool p) ∧ Below w.heap.size w w') ∧
    (∀ w, SV w → Calls Tryd.prog 14 #[.int .i64 b, .int .i64 a] w fun e w' => e = .returned (.bool q) ∧ Below w.heap.size w w') ∧ (p = true → q = false) ∧ (FlP.Bad a → p = false) := by
  obtain ⟨k1, s1, x1, y1, c1, hA⟩ := splitAny a
  obtain ⟨k2, s2, x2, y2, c2, hB⟩ := splitAny b
  have ab := fun r hc w hv => lessWalk a b k1 s1 x1 y1 k2 s2 x2 y2 r w hv hA hB hc
  have ba := fun r hc w hv => lessWalk b a k2 s2 x2 y2 k1 s1 x1 y1 r w hv hB hA hc
  rcases c1.num with ⟨e1, b1⟩ | ⟨e1, n1⟩
  · refine ⟨false, false, ab false (.inl ⟨e1, rfl⟩), ?_, fun _ => rfl, fun _ => rfl⟩
    by_cases h : k2 = 3
    · exact ba false (.inl ⟨h, rfl⟩)
    · exact ba false (.inr (.inl ⟨beq_eq_false_iff_ne.2 h, e1, rfl⟩))
  · have nb : ¬ FlP.Bad a := fun hb => not_both n1 hb
    rcases c2.num with ⟨e2, b2⟩ | ⟨e2, n2⟩
    · exact ⟨false, false, ab false (.inr (.inl ⟨e1, e2, rfl⟩)), ba false (.inl ⟨e2, rfl⟩), fun _ => rfl, fun _ => rfl⟩
    · exact ⟨_, _, ab _ (.inr (.inr ⟨e1, e2, n1, n2, rfl⟩)), ba _ (.inr (.inr ⟨e2, e1, n2, n1, rfl⟩)), fun h => by rw [decide_eq_true_eq] at h; rw [decide_eq_false_iff_not]; omega, fun hb => absurd hb nb⟩
/-- a float and its opposite -/
theorem oppo (a : Int) : (FlP.Bad a ∧ ∀ w, SV w → Calls Tryd.prog 15 #[.int .i64 a] w fun e w' => e = .returned (.int .i64 2143289344) ∧ Below w.heap.size w w') ∨
    (a ≠ 2143289344 ∧ ∃ c r : Int, (∀ w, SV w → Calls Tryd.prog 15 #[.int .i64 a] w fun e w' => e = .returned (.int .i64 c) ∧ Below w.heap.size w w') ∧ (∀ w, SV w → Calls Tryd.prog 15 #[.int .i64 c] w fun e w' => e = .returned (.int .i64 a) ∧ Below w.heap.size w w') ∧
      (∀ w, SV w → Calls Tryd.prog 11 #[.int .i64 a, .int .i64 c] w fun e w' => e = .returned (.int .i64 r) ∧ Below w.heap.size w w') ∧
      (r = 0 ∨ ((r == 0) = false ∧ ∀ w, SV w → Calls Tryd.prog 13 #[.int .i64 a, .int .i64 0] w fun e w' => e = .returned (.int .i64 2143289344) ∧ Below w.heap.size w w'))) := by
  rcases num_or a with h | ⟨s, h⟩
  · exact .inl ⟨h, fun w hv => negBad a w hv h⟩
  · refine .inr ⟨fun e => not_both h (by rw [e]; exact nan_bad), ?_⟩
    obtain ⟨c, hx, hc⟩ := neg_bits a s h
    have h0 := h
    have z : Nat → Int := fun _ => 0
    rcases h with hi | ⟨m, e, hf⟩
    · have hic : FlP.Inf c (1 - s) := by unfold FlP.Inf at hi ⊢; omega
      have hnc : Num c (1 - s) := .inl hic
      obtain ⟨d, hx2, hd⟩ := neg_bits c (1 - s) hnc
      have e1 : d = a := by omega
      subst e1
      obtain ⟨k0, s0', x0, y0, c0, hZ⟩ := splitAny 0
      have z0 : k0 = 0 := by
        rcases c0 with ⟨_, hb⟩ | ⟨_, hi0⟩ | ⟨hk, _⟩ | ⟨_, hy, hf0⟩
        · unfold FlP.Bad at hb; omega
        · unfold FlP.Inf at hi0; omega
        · exact hk
        · unfold FlP.Fin at hf0; omega
      obtain ⟨k1, s1, x1, y1, c1, hA⟩ := splitAny d
      refine ⟨c, 2143289344, fun w hv => negNum d s c w hv h0 hx, fun w hv => negNum c (1 - s) d w hv hnc hx2, fun w hv => ?_, .inr ⟨by decide, fun w hv => ?_⟩⟩
      · refine addWalk d c 2 s _ _ 2 (1 - s) _ _ 0 _ z z z w hv (fun w => splitInf d s w hi) (fun w => splitInf c (1 - s) w hic) (.inr (.inr (.inl ⟨rfl, rfl, ?_, rfl⟩)))
        rw [beq_eq_false_iff_ne]; omega
      · subst z0
        exact mulWalk d 0 2 s _ _ 0 s0' x0 y0 0 0 0 _ w hv (fun w => splitInf d s w hi) hZ (.inr (.inr (.inr (.inl ⟨rfl, rfl, rfl⟩))))
    · have hfc : FlP.Fin c (1 - s) m e := by unfold FlP.Fin at hf ⊢; omega
      have hnc : Num c (1 - s) := .inr ⟨m, e, hfc⟩
      obtain ⟨d, hx2, hd⟩ := neg_bits c (1 - s) hnc
      have e1 : d = a := by omega
      subst e1
      obtain ⟨M, rfl⟩ := Int.eq_ofNat_of_zero_le hf.2.2.2.1
      obtain ⟨p, hp⟩ := Int.eq_ofNat_of_zero_le (show 0 ≤ e + 149 by have := hf.2.2.2.2.2.1; omega)
      refine ⟨c, _, fun w hv => negNum d s c w hv h0 hx, fun w hv => negNum c (1 - s) d w hv hnc hx2, fun w hv => implAddFin d c s e (1 - s) e 0 M M p p 0 hf hfc hp hp (.inr (.inr (.inr ⟨by omega, rfl, rfl, rfl⟩))) w hv, .inl ?_⟩
      rw [Rnd.fl_zero]; rfl
end FlV
end Go.Proofs.YtmghmcnihiepiaaDoor
