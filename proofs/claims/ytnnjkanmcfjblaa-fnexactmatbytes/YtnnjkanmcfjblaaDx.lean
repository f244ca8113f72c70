/- math/bits.Div64: the quotient and what is left. -/
import Derived.Test.YtnnjkanmcfjblaaDw
import Derived.Lib.ItoaNum
import Derived.Lib.QuietBelow
import Derived.Laws.Bits64b
namespace Go.Proofs.Ytnnjkanmcfjblaa
namespace Vo
open Go.ChangeShapes Go.WideShapes Go.ChangeAt Go.RowKit Go.Joins Go.Sort
open Vl
set_option linter.unusedVariables false
set_option linter.unusedSimpArgs false
theorem or_join' (a b g : Nat) (h : b < 2 ^ g) : a * 2 ^ g ||| b = a * 2 ^ g + b := by
  rw [Nat.mul_comm]
  exact (Nat.two_pow_add_eq_or_of_lt h a).symm
/-- the two digits are the quotient -/
theorem kq_two {Y y1 y0 U u1 u0 N y p : Int} (k : KC Y y1 y0 U u1) (k2 : KC Y y1 y0 (kr Y U u1) u0) (hY : Y = y * p) (hp : 0 < p) (hN : N * p = (U * 4294967296 + u1) * 4294967296 + u0) :
    kq Y U u1 * 4294967296 + kq Y (kr Y U u1) u0 = N / y ∧ kr Y (kr Y U u1) u0 / p = N % y := by
  have e1 := kr_is k
  have e2 := kr_is k2
  obtain ⟨r0, r1⟩ := kr_rng k2
  generalize hR : kr Y U u1 = R at *
  generalize hA : kq Y U u1 = A at *
  generalize hB : kq Y R u0 = B at *
  generalize hS : kr Y R u0 = S at *
  have m1 : (A * 4294967296 + B) * Y = A * Y * 4294967296 + B * Y := by
    rw [Int.add_mul, Int.mul_assoc, Int.mul_comm 4294967296 Y, ← Int.mul_assoc]
  have m2 : S = N * p - (A * 4294967296 + B) * Y := by
    rw [m1, hN]
    generalize A * Y = z at *
    generalize B * Y = x at *
    omega
  have m3 : S = (N - (A * 4294967296 + B) * y) * p := by
    rw [m2, hY, Int.sub_mul, Int.mul_assoc]
  generalize hQ : A * 4294967296 + B = Q at *
  have hy : 0 < y := by
    have := k.pos
    rw [hY, Int.mul_comm] at this
    exact Int.pos_of_mul_pos_right this hp
  have n0 : 0 ≤ N - Q * y := by
    rw [m3] at r0
    exact Int.nonneg_of_mul_nonneg_left r0 hp
  have n1 : N - Q * y < y := by
    rw [m3, hY] at r1
    exact Int.lt_of_mul_lt_mul_right r1 (by omega)
  have hd : S / p = N - Q * y := by rw [m3]; exact Int.mul_ediv_cancel _ (by omega)
  have hu := (Int.ediv_emod_unique hy (a := N) (r := N - Q * y) (q := Q)).2 ⟨by rw [Int.mul_comm y Q]; omega, n0, n1⟩
  exact ⟨hu.1.symm, by rw [hd]; exact hu.2.symm⟩
set_option maxHeartbeats 1000000 in
theorem div64_0 (lo y : Nat) (w : World) (hl : lo < 18446744073709551616) (hy : 0 < y) :
    Calls Try.prog 35 #[.int .u64 0, .int .u64 lo, .int .u64 y] w fun e w' => e = .returned (.tuple #[.int .u64 ((lo : Int) / (y : Int)), .int .u64 ((lo : Int) % (y : Int))]) ∧ Below w.heap.size w w' := by
  have n0 : (0 : Int) ≤ (lo : Int) := Int.natCast_nonneg _
  have n1 : (lo : Int) < 18446744073709551616 := by omega
  have y0 : (0 : Int) < (y : Int) := by omega
  obtain ⟨a, ha⟩ : ∃ a, (lo : Int) = a := ⟨_, rfl⟩
  obtain ⟨b, hb⟩ : ∃ b, (y : Int) = b := ⟨_, rfl⟩
  rw [ha] at n0 n1 ⊢
  rw [hb] at y0 ⊢
  have q0 : 0 ≤ a / b := Int.ediv_nonneg n0 (by omega)
  have q1 : a / b ≤ a := Int.ediv_le_self _ n0
  have r0 : 0 ≤ a % b := Int.emod_nonneg _ (by omega)
  have w1 : IntKind.u64.wrap (a.tdiv b) = a / b := by rw [Int.tdiv_eq_ediv_of_nonneg n0, IntKind.wrap_u64]; omega
  have w2 : a.tmod b = a % b := Int.tmod_eq_emod_of_nonneg n0
  have e1 : (b == 0) = false := by rw [beq_eq_false_iff_ne]; omega
  have e2 : decide (b ≤ 0) = false := decide_eq_false (by omega)
  have e3 : ¬ b = 0 := by omega
  clear ha hb n0 n1 q0 q1 r0 hl hy
  go_enter Try.func35, Try.ntmps35
  go_wp2_with fail
  refine wp_region_quiet_below (by kernel_rfl) (by kernel_rfl) ?_
  repeat (go_big_quiet_step (fail))
  refine wpQuiet_nil ?_
  intro _ hw'
  obtain ⟨⟨dq, osq⟩, hw''⟩ := hw'
  subst hw''
  go_wp2_with fail
  go_ret2
  exact ⟨rfl, below_regrown w dq osq⟩
theorem wrapU {x : Int} (h1 : 0 ≤ x) (h2 : x < 18446744073709551616) : IntKind.u64.wrap x = x := by rw [IntKind.wrap_u64]; omega
theorem KC.steps {Y y1 y0 U u1 : Int} (k : KC Y y1 y0 U u1) (hW : Y < 18446744073709551616) :
    IntKind.u64.wrap (U.tdiv y1) = U / y1 ∧ IntKind.u64.wrap (U / y1 * y1) = U / y1 * y1 ∧ IntKind.u64.wrap (U - U / y1 * y1) = U - U / y1 * y1 := by
  have i := KI.first k
  have c := i.c; have d := i.d; have a := i.a; have b := i.b; have s := i.s; have e := k.e; have f := k.f
  have m : 0 ≤ U / y1 * y1 := Int.mul_nonneg c (by have := k.a; omega)
  generalize hz : U / y1 * y1 = z at *
  rw [Int.tdiv_eq_ediv_of_nonneg e]
  exact ⟨wrapU c (by omega), wrapU m (by omega), wrapU a (by omega)⟩
theorem KC.left {Y y1 y0 U u1 : Int} (k : KC Y y1 y0 U u1) (hW : Y < 18446744073709551616) :
    IntKind.u64.wrap (IntKind.u64.wrap (IntKind.u64.wrap (U * 4294967296) + u1) - IntKind.u64.wrap (kq Y U u1 * Y)) = kr Y U u1 := by
  have h1 := kr_is k
  obtain ⟨h2, h3⟩ := kr_rng k
  generalize kr Y U u1 = R at *
  generalize kq Y U u1 * Y = z at *
  simp only [IntKind.wrap_u64]
  omega
theorem KC.both {Y y1 y0 U u1 u0 : Int} (k : KC Y y1 y0 U u1) (k2 : KC Y y1 y0 (kr Y U u1) u0) :
    IntKind.u64.wrap (IntKind.u64.wrap (kq Y U u1 * 4294967296) + kq Y (kr Y U u1) u0) = kq Y U u1 * 4294967296 + kq Y (kr Y U u1) u0 := by
  have a := kq_lt k
  have b := kq_nn k
  have c := kq_lt k2
  have d := kq_nn k2
  generalize kq Y (kr Y U u1) u0 = x at *
  generalize kq Y U u1 = z at *
  simp only [IntKind.wrap_u64]
  omega
theorem kc_of (Y U v : Nat) (UY : U < Y) (Y0 : Y < 18446744073709551616) (Y1 : 9223372036854775808 ≤ Y) (hv : v < 18446744073709551616) : KC (Y : Int) ((Y : Int) / 4294967296) ((Y : Int) % 4294967296) U ((v : Int) / 4294967296) :=
  ⟨by omega, by omega, by omega, by omega, by omega, by omega, by omega, by omega, by omega⟩
theorem KC.second {Y y1 y0 U u1 : Int} (k : KC Y y1 y0 U u1) (v : Nat) : KC Y y1 y0 (kr Y U u1) ((v : Int) % 4294967296) :=
  ⟨k.hY, k.a, k.b, k.c, k.d, (kr_rng k).1, (kr_rng k).2, by omega, by omega⟩
/-- a divisor and what is divided, moved up -/
theorem div_plain (hi lo y : Nat) (hl : lo < 18446744073709551616) (h0 : 0 < hi) (hh : hi < y) (hy : y < 9223372036854775808) : ∃ g p p' U Y v : Nat,
    (1 ≤ g ∧ g ≤ 63 ∧ Lib.bitLen y = 64 - g ∧ 2 ^ g = p ∧ 2 ^ (64 - g) = p' ∧ 0 < p) ∧ (y * p = Y ∧ hi * p + lo / p' = U ∧ lo * p % 18446744073709551616 = v) ∧ (lo / p' < p ∧ hi * p < 18446744073709551616) ∧ (U < Y ∧ Y < 18446744073709551616 ∧ 9223372036854775808 ≤ Y ∧ v < 18446744073709551616) ∧
    (hi * 18446744073709551616 + lo) * p = U * 18446744073709551616 + v := by
  obtain ⟨b1, b2, b3⟩ := Lib.bitLenAux_bounds 64 y (by omega) (by omega)
  have b4 : Lib.bitLen y ≤ 63 := Lib.bitLen_le y 63 (by omega) (by omega)
  have eb : Lib.bitLenAux 64 y = Lib.bitLen y := rfl
  rw [eb] at b1 b2 b3
  obtain ⟨g, hg⟩ : ∃ g, 64 - Lib.bitLen y = g := ⟨_, rfl⟩
  have g0 : 1 ≤ g := by omega
  have g1 : g ≤ 63 := by omega
  have hbl : Lib.bitLen y = 64 - g := by omega
  rw [hbl] at b2 b3
  obtain ⟨p, hp⟩ : ∃ p, 2 ^ g = p := ⟨_, rfl⟩
  obtain ⟨p', hp'⟩ : ∃ p', 2 ^ (64 - g) = p' := ⟨_, rfl⟩
  have pp : p * p' = 18446744073709551616 := by rw [← hp, ← hp', ← Nat.pow_add, show g + (64 - g) = 64 by omega]
  have p0 : 0 < p := hp ▸ Nat.two_pow_pos g
  have p'0 : 0 < p' := hp' ▸ Nat.two_pow_pos (64 - g)
  obtain ⟨e, he⟩ : ∃ e, 2 ^ (64 - g - 1) = e := ⟨_, rfl⟩
  have half : e * 2 = p' := by rw [← hp', ← he, ← Nat.pow_succ, show (64 - g - 1).succ = 64 - g by omega]
  rw [hp'] at b3
  rw [he] at b2
  have Y0 : y * p < 18446744073709551616 := by rw [← pp, Nat.mul_comm p p']; exact Nat.mul_lt_mul_of_pos_right b3 p0
  have Y1 : 9223372036854775808 ≤ y * p := by
    have h1 : e * p ≤ y * p := Nat.mul_le_mul_right p b2
    have h2 : e * p * 2 = 18446744073709551616 := by rw [← pp, ← half, Nat.mul_assoc, Nat.mul_comm p 2, ← Nat.mul_assoc, Nat.mul_comm]
    generalize y * p = z at *
    generalize e * p = x at *
    omega
  have X0 : hi * p + p ≤ y * p := by rw [← Nat.succ_mul]; exact Nat.mul_le_mul_right p hh
  have l0 : lo / p' < p := Nat.div_lt_of_lt_mul (by rw [Nat.mul_comm, pp]; exact hl)
  have l1 : lo % p' < p' := Nat.mod_lt _ p'0
  have l2 : p' * (lo / p') + lo % p' = lo := Nat.div_add_mod lo p'
  have l3 : lo * p = lo / p' * 18446744073709551616 + lo % p' * p := by
    conv => lhs; rw [← l2]
    rw [Nat.add_mul, ← pp, Nat.mul_comm p' (lo / p'), Nat.mul_assoc, Nat.mul_comm p' p]
  have l4 : lo % p' * p < 18446744073709551616 := by rw [← pp, Nat.mul_comm p p']; exact Nat.mul_lt_mul_of_pos_right l1 p0
  have e1 : hi * 18446744073709551616 * p = hi * p * 18446744073709551616 := by rw [Nat.mul_assoc, Nat.mul_comm 18446744073709551616 p, ← Nat.mul_assoc]
  have e2 : (hi * 18446744073709551616 + lo) * p = hi * 18446744073709551616 * p + lo * p := Nat.add_mul _ _ _
  clear b1 b2 b3 b4 eb hg half he l1 l2 pp p'0 h0 hh hy hl
  refine ⟨g, p, p', hi * p + lo / p', y * p, lo * p % 18446744073709551616, ⟨g0, g1, hbl, hp, hp', p0⟩, ⟨rfl, rfl, rfl⟩, ⟨l0, ?_⟩, ⟨?_, Y0, Y1, ?_⟩, ?_⟩
  · omega
  · omega
  · exact Nat.mod_lt _ (by decide)
  · rw [e2, e1]
    generalize hi * p = a at *
    generalize lo % p' * p = b at *
    generalize lo / p' = c at *
    generalize lo * p = d at *
    omega
theorem div_words (hi lo y g p p' U Y v : Nat) (hl : lo < 18446744073709551616) (hp : 2 ^ g = p) (hp' : 2 ^ (64 - g) = p') (g1 : g ≤ 63) (hY : y * p = Y) (hU : hi * p + lo / p' = U) (hv : lo * p % 18446744073709551616 = v) (l0 : lo / p' < p) (hx : hi * p < 18446744073709551616) (Y0 : Y < 18446744073709551616) (v0 : v < 18446744073709551616) (d0 : lo / p' < 18446744073709551616) :
    IntKind.u64.wrap ((y : Int) * 2 ^ ((g : Int)).toNat) = Y ∧ bits .and .u64 (Y : Int) 4294967295 = (Y : Int) % 4294967296 ∧ bits .or .u64 (IntKind.u64.wrap ((hi : Int) * 2 ^ ((g : Int)).toNat)) ((lo : Int) / 2 ^ (64 - (g : Int)).toNat) = U ∧ IntKind.u64.wrap ((lo : Int) * 2 ^ ((g : Int)).toNat) = v ∧ bits .and .u64 (v : Int) 4294967295 = (v : Int) % 4294967296 := by
  have tg : ((g : Int)).toNat = g := Int.toNat_natCast g
  have tg' : (64 - (g : Int)).toNat = 64 - g := by omega
  have eI : ∀ a : Nat, (a : Int) * 2 ^ g = ((a * p : Nat) : Int) := fun a => by rw [Int.natCast_mul, ← hp, Int.natCast_pow]; rfl
  have nd : ∀ a : Nat, a < 18446744073709551616 → bits .and .u64 (a : Int) 4294967295 = (a : Int) % 4294967296 := fun a ha => by
    have h := bits_and_u64_nat a 4294967295 ha (by decide)
    rw [show a &&& 4294967295 = a % 4294967296 from Nat.and_two_pow_sub_one_eq_mod a 32] at h
    exact h.trans (by omega)
  rw [tg, tg', eI, eI, eI, hY]
  refine ⟨wrapU (by omega) (by omega), nd Y Y0, ?_, ?_, nd v v0⟩
  · rw [wrapU (by omega) (by omega), show ((lo : Int) / 2 ^ (64 - g)) = ((lo / p' : Nat) : Int) by rw [Int.natCast_ediv, ← hp', Int.natCast_pow]; rfl]
    have h := bits_or_u64_nat (hi * p) (lo / p') hx d0
    have h' : hi * p ||| lo / p' = U := by
      rw [← hU, ← hp]
      exact or_join' hi (lo / p') g (by rw [hp]; exact l0)
    rw [h'] at h
    exact h
  · rw [IntKind.wrap_u64, ← hv]
    generalize lo * p = d
    omega
theorem div64_1 (hi lo y : Nat) (w : World) (hl : lo < 18446744073709551616) (h0 : 0 < hi) (hh : hi < y) (hy : y < 9223372036854775808) :
    Calls Try.prog 35 #[.int .u64 hi, .int .u64 lo, .int .u64 y] w fun e w' => e = .returned (.tuple #[.int .u64 (((hi : Int) * 18446744073709551616 + lo) / (y : Int)), .int .u64 (((hi : Int) * 18446744073709551616 + lo) % (y : Int))]) ∧ w' = w := by
  obtain ⟨g, p, p', U, Y, v, ⟨g0, g1, hbl, hp, hp', p0⟩, ⟨hY, hU, hv⟩, ⟨l0, hx⟩, ⟨UY, Y0, Y1, v0⟩, hN⟩ := div_plain hi lo y hl h0 hh hy
  have d0 : lo / p' < 18446744073709551616 := Nat.lt_of_le_of_lt (Nat.div_le_self _ _) hl
  obtain ⟨a1, a2, a3, a4, a5⟩ := div_words hi lo y g p p' U Y v hl hp hp' g1 hY hU hv l0 hx Y0 v0 d0
  have kc := kc_of Y U v UY Y0 Y1 v0
  have kc2 := kc.second v
  have YW : (Y : Int) < 18446744073709551616 := by omega
  have hNI : ((hi : Int) * 18446744073709551616 + lo) * (p : Int) = ((U : Int) * 4294967296 + (v : Int) / 4294967296) * 4294967296 + (v : Int) % 4294967296 := by
    have e1 : (((hi * 18446744073709551616 + lo) * p : Nat) : Int) = ((U * 18446744073709551616 + v : Nat) : Int) := by rw [hN]
    have e2 : (((hi * 18446744073709551616 + lo) * p : Nat) : Int) = ((hi : Int) * 18446744073709551616 + lo) * (p : Int) := by
      rw [Int.natCast_mul, Int.natCast_add, Int.natCast_mul]; rfl
    rw [← e2, e1]
    clear hN e1 e2 hY hU hv hp hp' hbl a1 a2 a3 a4 a5 kc kc2
    omega
  obtain ⟨T1, T2⟩ := kq_two kc kc2 (N := (hi : Int) * 18446744073709551616 + lo) (y := (y : Int)) (p := (p : Int)) (by rw [← hY, Int.natCast_mul]) (by omega) hNI
  obtain ⟨s1, s2, s3⟩ := kc.steps YW
  obtain ⟨s4, s5, s6⟩ := kc2.steps YW
  refine divWalk hi lo y g Y ((Y : Int) / 4294967296) ((Y : Int) % 4294967296) U v ((v : Int) / 4294967296) ((v : Int) % 4294967296) _ _ _
    (kq Y U ((v : Int) / 4294967296)) _ _ _ (kr Y U ((v : Int) / 4294967296)) _ _ _
    (kq Y (kr Y U ((v : Int) / 4294967296)) ((v : Int) % 4294967296)) _ _ _ _ _ (kr Y (kr Y U ((v : Int) / 4294967296)) ((v : Int) % 4294967296)) _ w (by omega) (by omega) (by omega) (by omega) (by omega)
    (fun w => (Try.bits_LeadingZeros64 (y : Int) w (by omega) (by omega)).mono fun e w' ⟨h1, h2⟩ => ⟨h1.trans (by rw [Int.toNat_natCast, hbl]; congr 2; omega), h2⟩)
    a1 rfl a2 a3 a4 rfl a5 s1 s2 s3 (KI.first kc) kc rfl rfl rfl rfl (kc.left YW) s4 s5 s6 (KI.first kc2) kc2 rfl rfl ((kc.both kc2).trans T1) rfl rfl rfl (kc2.left YW) ?_ (by omega)
  rw [← T2, Int.toNat_natCast, ← hp, Int.natCast_pow]
  rfl
/-- the quotient of two words by one, and what is left -/
theorem div64F (hi lo y : Nat) (w : World) (hl : lo < 18446744073709551616) (hh : hi < y) (hy : y < 9223372036854775808) :
    Calls Try.prog 35 #[.int .u64 hi, .int .u64 lo, .int .u64 y] w fun e w' => e = .returned (.tuple #[.int .u64 (((hi : Int) * 18446744073709551616 + lo) / (y : Int)), .int .u64 (((hi : Int) * 18446744073709551616 + lo) % (y : Int))]) ∧ Below w.heap.size w w' := by
  by_cases h : hi = 0
  · subst h
    refine (div64_0 lo y w hl (by omega)).mono ?_
    rintro e w' ⟨rfl, b⟩
    exact ⟨by simp, b⟩
  · refine (div64_1 hi lo y w hl (by omega) hh hy).mono ?_
    rintro e w' ⟨rfl, rfl⟩
    exact ⟨rfl, Below.refl _ _⟩
end Vo
end Go.Proofs.Ytnnjkanmcfjblaa
