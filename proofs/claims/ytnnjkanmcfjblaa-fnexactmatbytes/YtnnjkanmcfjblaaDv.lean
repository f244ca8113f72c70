/- math/bits.Div64, its numbers, plain: a quotient of two words by one, digit by digit. -/
import Derived.Test.YtnnjkanmcfjblaaVl
namespace Go.Proofs.Ytnnjkanmcfjblaa
namespace Vo
open Vl
set_option linter.unusedVariables false
/-- a divisor of two halves, what is divided of three -/
structure KC (Y y1 y0 U u1 : Int) : Prop where
  hY : Y = y1 * 4294967296 + y0
  a : 2147483648 ≤ y1
  b : y1 < 4294967296
  c : 0 ≤ y0
  d : y0 < 4294967296
  e : 0 ≤ U
  f : U < Y
  g : 0 ≤ u1
  h : u1 < 4294967296
/-- the digit -/
def kq (Y U u1 : Int) : Int := (U * 4294967296 + u1) / Y
/-- what is left -/
def kr (Y U u1 : Int) : Int := (U * 4294967296 + u1) % Y
/-- a digit that is tried, and what it leaves of the upper half -/
structure KI (Y y1 U u1 q r : Int) : Prop where
  s : q * y1 + r = U
  t : kq Y U u1 ≤ q
  a : 0 ≤ r
  b : r < 4294967296
  c : 0 ≤ q
  d : q ≤ 4294967297
theorem KC.pos {Y y1 y0 U u1 : Int} (k : KC Y y1 y0 U u1) : 0 < Y := by
  have := k.hY; have := k.a; have := k.c
  omega
theorem mulY (q y1 y0 : Int) : q * (y1 * 4294967296 + y0) = (q * y1) * 4294967296 + q * y0 := by
  rw [Int.mul_add, Int.mul_assoc]
theorem kq_le {Y y1 y0 U u1 : Int} (k : KC Y y1 y0 U u1) {q : Int} (h : U * 4294967296 + u1 < q * Y) : kq Y U u1 < q :=
  Int.ediv_lt_of_lt_mul k.pos h
theorem kq_ge {Y y1 y0 U u1 : Int} (k : KC Y y1 y0 U u1) {q : Int} (h : q * Y ≤ U * 4294967296 + u1) : q ≤ kq Y U u1 :=
  (Int.le_ediv_iff_mul_le k.pos).2 h
theorem kq_lt {Y y1 y0 U u1 : Int} (k : KC Y y1 y0 U u1) : kq Y U u1 < 4294967296 := by
  have h1 := k.f; have h2 := k.h
  exact kq_le k (by omega)
theorem kq_nn {Y y1 y0 U u1 : Int} (k : KC Y y1 y0 U u1) : 0 ≤ kq Y U u1 := kq_ge k (by have := k.e; have := k.g; omega)
theorem kr_rng {Y y1 y0 U u1 : Int} (k : KC Y y1 y0 U u1) : 0 ≤ kr Y U u1 ∧ kr Y U u1 < Y :=
  ⟨Int.emod_nonneg _ (by have := k.pos; omega), Int.emod_lt_of_pos _ k.pos⟩
theorem kr_is {Y y1 y0 U u1 : Int} (k : KC Y y1 y0 U u1) : kr Y U u1 = U * 4294967296 + u1 - kq Y U u1 * Y := by
  have h1 := Int.emod_add_mul_ediv (U * 4294967296 + u1) Y
  have h2 := Int.mul_comm Y ((U * 4294967296 + u1) / Y)
  unfold kr kq
  omega
theorem KI.down {Y y1 y0 U u1 q r : Int} (k : KC Y y1 y0 U u1) (i : KI Y y1 U u1 q r) (h : 4294967296 ≤ q ∨ 4294967296 * r + u1 < q * y0) : kq Y U u1 ≤ q - 1 := by
  rcases h with h | h
  · have := kq_lt k; omega
  · have e : U * 4294967296 + u1 < q * Y := by
      rw [k.hY, mulY]
      have := i.s
      omega
    have := kq_le k e
    omega
theorem KI.stop {Y y1 y0 U u1 q r : Int} (k : KC Y y1 y0 U u1) (i : KI Y y1 U u1 q r) (h : q * y0 ≤ 4294967296 * r + u1) : q = kq Y U u1 := by
  have e : q * Y ≤ U * 4294967296 + u1 := by
    rw [k.hY, mulY]
    have := i.s
    omega
  have := kq_ge k e
  have := i.t
  omega
theorem KI.brk {Y y1 y0 U u1 q r : Int} (k : KC Y y1 y0 U u1) (i : KI Y y1 U u1 q r) (ht : kq Y U u1 ≤ q - 1) (h : 4294967296 ≤ r + y1) : q - 1 = kq Y U u1 := by
  have hs : (q - 1) * y1 = U - (r + y1) := by rw [Int.sub_mul, Int.one_mul]; have := i.s; omega
  have h0 := kq_nn k
  have hm : (q - 1) * y0 ≤ 4294967296 * 4294967295 := Int.mul_le_mul (by have := i.d; omega) (by have := k.d; omega) k.c (by decide)
  have e : (q - 1) * Y ≤ U * 4294967296 + u1 := by
    rw [k.hY, mulY, hs]
    have := k.g
    omega
  have := kq_ge k e
  omega
theorem KI.next {Y y1 y0 U u1 q r : Int} (k : KC Y y1 y0 U u1) (i : KI Y y1 U u1 q r) (ht : kq Y U u1 ≤ q - 1) (h : r + y1 < 4294967296) : KI Y y1 U u1 (q - 1) (r + y1) := by
  refine ⟨?_, ht, ?_, h, ?_, ?_⟩
  · rw [Int.sub_mul, Int.one_mul]; have := i.s; omega
  · have := i.a; have := k.a; omega
  · have := kq_nn k; omega
  · have := i.d; omega
theorem KI.first {Y y1 y0 U u1 : Int} (k : KC Y y1 y0 U u1) : KI Y y1 U u1 (U / y1) (U - U / y1 * y1) := by
  have hp : 0 < y1 := by have := k.a; omega
  have e1 := Int.emod_add_mul_ediv U y1
  have e2 := Int.emod_nonneg U (by omega : y1 ≠ 0)
  have e3 := Int.emod_lt_of_pos U hp
  rw [Int.mul_comm] at e1
  have hb := k.b
  refine ⟨by omega, ?_, by omega, by omega, Int.ediv_nonneg k.e (by omega), ?_⟩
  · refine (Int.le_ediv_iff_mul_le hp).2 ?_
    have h1 : kq Y U u1 * Y ≤ U * 4294967296 + u1 := by
      have := kr_rng k
      have := kr_is k
      omega
    have h3 : kq Y U u1 * Y = (kq Y U u1 * y1) * 4294967296 + kq Y U u1 * y0 := by
      generalize kq Y U u1 = Q
      rw [k.hY, mulY]
    have h2 : 0 ≤ kq Y U u1 * y0 := Int.mul_nonneg (kq_nn k) k.c
    have := k.h
    omega
  · have h1 : U / y1 < 4294967298 := Int.ediv_lt_of_lt_mul hp (by
      have := k.f; have := k.hY; have := k.d; have := k.a
      omega)
    omega
/-- what the tests of a round look at fits a word -/
theorem KI.fits {Y y1 y0 U u1 q r : Int} (k : KC Y y1 y0 U u1) (i : KI Y y1 U u1 q r) : (0 ≤ q * y0 ∧ q * y0 < 18446744073709551616) ∧ (0 ≤ 4294967296 * r ∧ 4294967296 * r + u1 < 18446744073709551616) ∧ (0 ≤ r + y1 ∧ r + y1 < 18446744073709551616) := by
  have h1 : q * y0 ≤ 4294967297 * 4294967295 := Int.mul_le_mul i.d (by have := k.d; omega) k.c (by decide)
  have h2 : 0 ≤ q * y0 := Int.mul_nonneg i.c k.c
  have := i.a; have := i.b; have := k.a; have := k.b; have := k.g; have := k.h
  omega
end Vo
end Go.Proofs.Ytnnjkanmcfjblaa
