/- Sorted, plain: where each number goes, and where it came from. -/
import Derived.Test.YtpmkjifpoikdjaaGa
namespace Go.Proofs.Ytpmkjifpoikdjaa
namespace Vo
open Vl Vp
set_option linter.unusedVariables false
variable {S : Nat → Int} {len : Nat} {c : Int}
theorem mv_parts {l : Int} {x j : Int} (hc : 1 ≤ c) (h0 : 0 ≤ x) (h1 : x < l) : mv l c l x j / (l * c) = j / (l * c) ∧ mv l c l x j / c % l = x ∧ mv l c l x j % c = j % c := by
  have := part3 (n := l) (b := c) (x := j / (l * c)) (k := x) (q := j % c) hc h0 h1 (Int.emod_nonneg _ (by omega)) (Int.emod_lt_of_pos _ (by omega))
  unfold mv
  exact this
theorem mv_mv {l : Int} {x y j : Int} (hc : 1 ≤ c) (h0 : 0 ≤ x) (h1 : x < l) : mv l c l y (mv l c l x j) = mv l c l y j := by
  have := mv_parts (c := c) (l := l) (x := x) (j := j) hc h0 h1
  unfold mv at this ⊢
  rw [this.1, this.2.2]
theorem mv_self {l : Int} {j : Int} (hc : 1 ≤ c) (hl : 1 ≤ l) : mv l c l (j / c % l) j = j := by
  unfold mv
  exact part_back l c j hl hc
theorem line_mv {l : Int} {x j : Int} (hc : 1 ≤ c) (h0 : 0 ≤ x) (h1 : x < l) : lineAt S l c l (mv l c l x j) = lineAt S l c l j := by
  funext u
  unfold lineAt
  rw [mv_mv hc h0 h1]
/-- the rank of place j in its line -/
def rkJ (S : Nat → Int) (len : Nat) (c : Int) (j : Int) : Nat := So.rnk (keyI (lineAt S len c len j)) len (j / c % len).toNat
/-- where the number of place p came from -/
def srcJ (S : Nat → Int) (len : Nat) (c : Int) (p : Int) : Int := mv len c len (So.ord (keyI (lineAt S len c len p)) len (p / c % len).toNat : Nat) p
/-- where the number of place j goes -/
def dstJ (S : Nat → Int) (len : Nat) (c : Int) (j : Int) : Int := mv len c len (rkJ S len c j : Nat) j
theorem co_rng (hl : 1 ≤ len) (j : Int) : 0 ≤ j / c % (len : Int) ∧ j / c % (len : Int) < len := ⟨Int.emod_nonneg _ (by omega), Int.emod_lt_of_pos _ (by omega)⟩
theorem co_nat (hl : 1 ≤ len) (j : Int) : (j / c % (len : Int)).toNat < len := by have := co_rng (c := c) hl j; omega
theorem rkJ_lt (hl : 1 ≤ len) (j : Int) : rkJ S len c j < len := So.rnk_len (co_nat hl j)
theorem ord_at (hc : 1 ≤ c) (hl : 1 ≤ len) (j : Int) : So.ord (keyI (lineAt S len c len (dstJ S len c j))) len (dstJ S len c j / c % len).toNat = (j / c % (len : Int)).toNat := by
  have h := rkJ_lt (S := S) (c := c) hl j
  unfold dstJ
  rw [line_mv hc (by omega) (by omega), (mv_parts hc (by omega) (by omega)).2.1, Int.toNat_natCast]
  exact So.ord_rnk (co_nat hl j)
theorem src_dst (hc : 1 ≤ c) (hl : 1 ≤ len) (j : Int) : srcJ S len c (dstJ S len c j) = j := by
  have h := rkJ_lt (S := S) (c := c) hl j
  unfold srcJ
  rw [ord_at hc hl]
  have := co_rng (c := c) hl j
  rw [show (((j / c % (len : Int)).toNat : Nat) : Int) = j / c % (len : Int) by omega]
  unfold dstJ
  rw [mv_mv hc (by omega) (by omega)]
  exact mv_self hc (by omega)
theorem dst_src (hc : 1 ≤ c) (hl : 1 ≤ len) (p : Int) : dstJ S len c (srcJ S len c p) = p := by
  have h := So.ord_is (K := keyI (lineAt S len c len p)) (co_nat (c := c) hl p)
  have e : rkJ S len c (srcJ S len c p) = (p / c % (len : Int)).toNat := by
    unfold rkJ srcJ
    rw [line_mv hc (by omega) (by omega), (mv_parts hc (by omega) (by omega)).2.1, Int.toNat_natCast]
    exact h.2
  unfold dstJ
  rw [e]
  have := co_rng (c := c) hl p
  rw [show (((p / c % (len : Int)).toNat : Nat) : Int) = p / c % (len : Int) by omega]
  unfold srcJ
  rw [mv_mv hc (by omega) (by omega)]
  exact mv_self hc (by omega)
/-- what stands there when the places below j have been set -/
def sJ (V : Nat → Int) (S : Nat → Int) (len : Nat) (c : Int) (j : Nat) : Nat → Int := fun p => if srcJ S len c p < j then V p else 0
theorem sJ_step {V : Nat → Int} {j p0 : Nat} (hc : 1 ≤ c) (hl : 1 ≤ len) (hp : dstJ S len c j = p0) (p : Nat) : (if p = p0 then V p0 else sJ V S len c j p) = sJ V S len c (j + 1) p := by
  unfold sJ
  by_cases q : p = p0
  · rw [if_pos q, q]
    have e : srcJ S len c (p0 : Int) = j := by rw [← hp]; exact src_dst hc hl j
    rw [if_pos (by omega)]
  · rw [if_neg q]
    have e : srcJ S len c (p : Int) ≠ j := fun e => by
      have := dst_src (S := S) (c := c) hc hl (p : Int)
      rw [e, hp] at this
      omega
    by_cases t : srcJ S len c (p : Int) < (j : Int)
    · rw [if_pos t, if_pos (by omega)]
    · rw [if_neg t, if_neg (by omega)]
theorem src_rng {A : Int} {p : Int} (hc : 1 ≤ c) (hl : 1 ≤ len) (h0 : 0 ≤ p) (h1 : p < A * len * c) : 0 ≤ srcJ S len c p ∧ srcJ S len c p < A * len * c := by
  have h := So.ord_is (K := keyI (lineAt S len c len p)) (co_nat (c := c) hl p)
  exact mv_rng hc (by omega) (by omega) (by omega) h0 h1
theorem sJ_zero {V : Nat → Int} {A : Int} {p : Nat} (hc : 1 ≤ c) (hl : 1 ≤ len) (h1 : (p : Int) < A * len * c) : sJ V S len c 0 p = 0 := by
  have := src_rng (S := S) hc hl (by omega) h1
  unfold sJ
  rw [if_neg (by omega)]
theorem sJ_all {V : Nat → Int} {A : Int} {s p : Nat} (hc : 1 ≤ c) (hl : 1 ≤ len) (hs : (s : Int) = A * len * c) (h1 : p < s) : sJ V S len c s p = V p := by
  have := src_rng (S := S) (A := A) (p := (p : Int)) hc hl (by omega) (by omega)
  unfold sJ
  rw [if_pos (by omega)]
theorem nu_at {j p0 : Nat} (hc : 1 ≤ c) (hl : 1 ≤ len) (hp : dstJ S len c j = p0) : nuG len (lineAt S len c len p0) ((p0 : Int) / c % len).toNat = S j := by
  have e := ord_at (S := S) hc hl j
  rw [hp] at e
  unfold nuG
  rw [e]
  have e2 : lineAt S len c len (p0 : Int) = lineAt S len c len (j : Int) := by
    have := rkJ_lt (S := S) (c := c) hl j
    rw [← hp]; unfold dstJ; exact line_mv hc (by omega) (by omega)
  rw [e2]
  have := co_rng (c := c) hl j
  unfold lineAt
  rw [show ((((j : Int) / c % (len : Int)).toNat : Nat) : Int) = (j : Int) / c % (len : Int) by omega, mv_self hc (by omega), Int.toNat_natCast]
theorem pl_at {j p0 : Nat} (hc : 1 ≤ c) (hl : 1 ≤ len) (hp : dstJ S len c j = p0) : plG len (lineAt S len c len p0) ((p0 : Int) / c % len).toNat = (j : Int) / c % len := by
  have e := ord_at (S := S) hc hl j
  rw [hp] at e
  unfold plG
  rw [e]
  have := co_rng (c := c) hl j
  omega
end Vo
end Go.Proofs.Ytpmkjifpoikdjaa
