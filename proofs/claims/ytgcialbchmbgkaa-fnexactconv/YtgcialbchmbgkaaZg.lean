/- Convolutions: digits, a number at an index, how many places; the model's side. -/
import Derived.Test.YtgcialbchmbgkaaZf
import Derived.Test.YtgcialbchmbgkaaVu
namespace Go.Proofs.Ytgcialbchmbgkaa
namespace Vo
open Go.ChangeShapes Go.WideShapes Go.ChangeAt Go.RowKit Go.Joins Go.Sort
open Vl Vp Vr
set_option linter.unusedVariables false
set_option linter.unusedSimpArgs false
theorem nat_div (a b : Nat) : (a : Int) / (b : Int) = ((a / b : Nat) : Int) := (Int.natCast_ediv a b).symm
theorem nat_mod (a b : Nat) : (a : Int) % (b : Int) = ((a % b : Nat) : Int) := (Int.natCast_emod a b).symm
theorem dg4 {E : Nat → Int} {N O E2 E3 p : Nat} (h0 : E 0 = N) (h1 : E 1 = O) (h2 : E 2 = E2) (h3 : E 3 = E3) (hp : p < N * O * E2 * E3) :
    dg E 4 p 0 = ((p / E3 / E2 / O : Nat) : Int) ∧ dg E 4 p 1 = ((p / E3 / E2 % O : Nat) : Int) ∧ dg E 4 p 2 = ((p / E3 % E2 : Nat) : Int) ∧ dg E 4 p 3 = ((p % E3 : Nat) : Int) := by
  have a1 : p / E3 < N * O * E2 := Nat.div_lt_of_lt_mul (by rw [Nat.mul_comm]; exact hp)
  have a2 : p / E3 / E2 < N * O := Nat.div_lt_of_lt_mul (by rw [Nat.mul_comm]; exact a1)
  have a3 : p / E3 / E2 / O < N := Nat.div_lt_of_lt_mul (by rw [Nat.mul_comm]; exact a2)
  refine ⟨?_, ?_, ?_, ?_⟩
  · show ((((p : Int) / E 3) / E 2) / E 1) % E 0 = _
    rw [h0, h1, h2, h3, nat_div, nat_div, nat_div, nat_mod, Nat.mod_eq_of_lt a3]
  · show (((p : Int) / E 3) / E 2) % E 1 = _
    rw [h1, h2, h3, nat_div, nat_div, nat_mod]
  · show ((p : Int) / E 3) % E 2 = _
    rw [h2, h3, nat_div, nat_mod]
  · show (p : Int) % E 3 = _
    rw [h3, nat_mod]
theorem dg3' {E : Nat → Int} {K KH KW m : Nat} (h0 : E 0 = K) (h1 : E 1 = KH) (h2 : E 2 = KW) (hm : m < K * KH * KW) :
    dg E 3 m 0 = ((m / KW / KH : Nat) : Int) ∧ dg E 3 m 1 = ((m / KW % KH : Nat) : Int) ∧ dg E 3 m 2 = ((m % KW : Nat) : Int) := by
  have a1 : m / KW < K * KH := Nat.div_lt_of_lt_mul (by rw [Nat.mul_comm]; exact hm)
  have a2 : m / KW / KH < K := Nat.div_lt_of_lt_mul (by rw [Nat.mul_comm]; exact a1)
  refine ⟨?_, ?_, ?_⟩
  · show (((m : Int) / E 2) / E 1) % E 0 = _
    rw [h0, h1, h2, nat_div, nat_div, nat_mod, Nat.mod_eq_of_lt a2]
  · show ((m : Int) / E 2) % E 1 = _
    rw [h1, h2, nat_div, nat_mod]
  · show (m : Int) % E 2 = _
    rw [h2, nat_mod]
/-- a list of four -/
def l4f (a b c d : Int) (j : Nat) : Int := if j = 0 then a else if j = 1 then b else if j = 2 then c else d
def l3f (a b c : Int) (j : Nat) : Int := if j = 0 then a else if j = 1 then b else c
theorem od4 (D : Nat → Int) (a b c d : Int) : od D (l4f a b c d) 4 = ((a * D 1 + b) * D 2 + c) * D 3 + d := by
  show (((0 * D 0 + a) * D 1 + b) * D 2 + c) * D 3 + d = _
  rw [Int.zero_mul, Int.zero_add]
theorem ti_comm (a b : Int) : ti a b = ti b a := by unfold ti; rw [Int.mul_comm]
theorem rw4_new (W : World) (a b c d : Int) (ha : bd a) (hb : bd b) (hc : bd c) (hd : bd d) : Rw (W.alloc (.cells #[.int .i64 a, .int .i64 b, .int .i64 c, .int .i64 d] 3)) W.heap.size 4 (l4f a b c d) := by
  intro j hj
  have : j = 0 ∨ j = 1 ∨ j = 2 ∨ j = 3 := by omega
  rcases this with rfl | rfl | rfl | rfl
  · exact ⟨by simp [go_sem, l4f], by simp [go_sem], ha⟩
  · exact ⟨by simp [go_sem, l4f], by simp [go_sem], hb⟩
  · exact ⟨by simp [go_sem, l4f], by simp [go_sem], hc⟩
  · exact ⟨by simp [go_sem, l4f], by simp [go_sem], hd⟩
theorem rw3_new (W : World) (a b c : Int) (ha : bd a) (hb : bd b) (hc : bd c) : Rw (W.alloc (.cells #[.int .i64 a, .int .i64 b, .int .i64 c] 3)) W.heap.size 3 (l3f a b c) := by
  intro j hj
  have : j = 0 ∨ j = 1 ∨ j = 2 := by omega
  rcases this with rfl | rfl | rfl
  · exact ⟨by simp [go_sem, l3f], by simp [go_sem], ha⟩
  · exact ⟨by simp [go_sem, l3f], by simp [go_sem], hb⟩
  · exact ⟨by simp [go_sem, l3f], by simp [go_sem], hc⟩
/-- what a tensor has at an index, 0 out of it -/
def atV (t : TV) (I : Nat → Int) : Int := if iok t.r t.D t.r I = true then t.S (od t.D I t.r).toNat else 0
theorem l5At (B : Nat) (t : TV) (c : Option Addr) (cap' : Nat) (I : Nat → Int) (w : World) (hB : B ≤ w.heap.size) (ht : t.read B w) (hc : Ints w.heap.size w c t.r I) (tk : tok t.r t.s t.D t.S = true) (hr : (t.r : Int) ≤ 1048576) :
    Calls Try.prog 34 #[.agg #[.slice t.a t.r t.cap, .slice t.b t.s t.dap], .slice c t.r cap'] w fun e w' => e = .returned (.int .i64 (atV t I)) ∧ Below w.heap.size w w' := by
  obtain ⟨W0, hW0⟩ : ∃ W0, w.alloc (.cells #[.slice t.a t.r t.cap, .slice t.b t.s t.dap] 26) = W0 := ⟨_, rfl⟩
  have bl : Below w.heap.size w W0 := by rw [← hW0]; exact (Below.refl _ _).alloc (Nat.le_refl _) _
  have n0 : Bx W0 w.heap.size (.slice t.a t.r t.cap) (.slice t.b t.s t.dap) := by rw [← hW0]; exact bx_new _ _ _ _
  have sz : w.heap.size < W0.heap.size := by rw [← hW0]; simp
  have HT := hide (ht.below (bl.mono hB))
  have HC := hide (hc.below bl)
  have BL := hide bl
  have N0 := hide n0
  obtain ⟨x0, x1⟩ := n0
  have C1 := hide (l3IndexOk w.heap.size t.a c t.r t.r t.cap cap' t.D I W0 (HT.out.1.mono hB) HC.out hr hr)
  clear bl ht hc
  go_enter Try.func34, Try.ntmps34
  go_wp2_with fail
  refine C1.out.mono ?_
  rintro e w1 ⟨rfl, b1⟩
  have B1 := hide (BL.out.trans (b1.mono BL.out.size))
  obtain ⟨y0, y1⟩ := N0.out.below b1 sz
  have HT1 := hide (HT.out.below (b1.mono (by omega)))
  have HC1 := hide (HC.out.below (b1.mono (by omega)))
  have l1 := b1.size
  clear hW0 x0 x1 C1 b1
  cases hi : iok t.r t.D t.r I with
  | false =>
    have E := hide (show atV t I = 0 by unfold atV; rw [hi]; rfl)
    go_wp2_with fail
    go_ret
    exact ⟨by rw [E.out]; rfl, B1.out⟩
  | true =>
    have E := hide (show atV t I = t.S (od t.D I t.r).toNat by unfold atV; rw [hi]; rfl)
    have C2 := hide (l4Get w.heap.size t.a t.b c t.r t.s t.cap t.dap t.r cap' t.D t.S I w1 (by omega) (HT1.out.1.mono hB) (HT1.out.2.mono hB) HC1.out (Nat.le_refl _) tk (iok_iff.1 hi).2)
    rw [← E.out] at C2
    go_wp2_with fail
    refine C2.out.mono ?_
    rintro e w2 ⟨rfl, b2⟩
    have B2 := hide (B1.out.trans (b2.mono B1.out.size))
    go_wp2_with fail
    go_ret
    exact ⟨rfl, B2.out⟩
/-- how many places there are, as the model reckons -/
theorem l5OutW (z : Nat → Int) (len ker : Int) (w : World) (h : CzB z) (l0 : 1 ≤ len) (l1 : len ≤ 4096) (k0 : 1 ≤ ker) (k1 : ker ≤ 4096) :
    Calls Try.prog 29 #[.int .i64 (len + 2 * z 9), .int .i64 (z 10 * (ker - 1) + 1), .int .i64 (z 8)] w fun e w' => e = .returned (.int .i64 (plcs z len ker)) ∧ w' = w := by
  obtain ⟨s0, s1⟩ := h.st
  obtain ⟨p0, p1⟩ := h.pd
  obtain ⟨d0, d1⟩ := h.dl
  have m := mul_rng (a := z 10) (b := ker - 1) (m := 4096) (n := 4095) (by omega) d1 (by omega) (by omega)
  obtain ⟨q, hq⟩ : ∃ q, z 10 * (ker - 1) = q := ⟨_, rfl⟩
  rw [hq] at m
  obtain ⟨ro, hro⟩ : ∃ ro, len + 2 * z 9 - q - 1 = ro := ⟨_, rfl⟩
  have E := hide (show plcs z len ker = if ro < 0 then 0 else ro.tdiv (z 8) + 1 by unfold plcs; rw [hq, hro])
  rw [hq]
  obtain ⟨d, hd⟩ : ∃ d, len + 2 * z 9 = d := ⟨_, rfl⟩
  obtain ⟨y, hy⟩ : ∃ y, q + 1 = y := ⟨_, rfl⟩
  rw [hd, hy]
  have t1 : decide (y < 1) = false := decide_eq_false (by omega)
  have t2 : decide (z 8 < 1) = false := decide_eq_false (by omega)
  have s8 : (z 8 == 0) = false := beq_eq_false_iff_ne.2 (by omega)
  have s8' : ¬ (z 8 = 0) := by omega
  have er : d - y = ro := by omega
  have w1 : IntKind.i64.wrap ro = ro := by rw [IntKind.wrap_i64]; omega
  generalize hz : z 8 = st at *
  by_cases hn : ro < 0
  · have EZ := hide (show plcs z len ker = 0 by rw [E.out, if_pos hn])
    have t3 : d < y := by omega
    clear hn E hq hro hd hy m
    go_enter Try.func29, Try.ntmps29
    go_wp2_with fail
    go_ret
    exact ⟨by rw [EZ.out]; rfl, rfl⟩
  · have EZ := hide (show plcs z len ker = ro.tdiv st + 1 by rw [E.out, if_neg hn])
    have t3 : decide (d < y) = false := decide_eq_false (by omega)
    have dd := tdiv_rng (a := ro) (b := st) (by omega) s0
    obtain ⟨u, hu⟩ : ∃ u, ro.tdiv st = u := ⟨_, rfl⟩
    rw [hu] at EZ dd
    have w7 : IntKind.i64.wrap u = u := by rw [IntKind.wrap_i64]; omega
    have w8 : IntKind.i64.wrap (u + 1) = u + 1 := by rw [IntKind.wrap_i64]; omega
    clear hn E hq hro hd hy m
    go_enter Try.func29, Try.ntmps29
    go_wp2_with fail
    go_ret
    exact ⟨by rw [EZ.out]; rfl, rfl⟩
/-- what the model finds beneath a filter is what the program finds -/
theorem at_inP (x : TV) (k : TV) (st pd dl gr : Int) (x4 : x.r = 4) (n f r c : Int) (n0 : 0 ≤ n) (n1 : n < x.D 0) (f0 : 0 ≤ f) (f1 : f < x.D 1) : atV x (l4f n f r c) = inP (zf x.D k.D st pd dl gr) x.S (n * x.D 1 + f) r c := by
  unfold atV inP
  rw [x4, od4]
  show (if iok 4 x.D 4 (l4f n f r c) = true then _ else _) = if r < 0 ∨ x.D 2 ≤ r ∨ c < 0 ∨ x.D 3 ≤ c then 0 else x.S ((((n * x.D 1 + f) * x.D 2 + r) * x.D 3 + c)).toNat
  by_cases h : r < 0 ∨ x.D 2 ≤ r ∨ c < 0 ∨ x.D 3 ≤ c
  · rw [if_pos h, if_neg (fun e => by
      have e := (iok_iff.1 e).2
      have e2 := e 2 (by decide)
      have e3 := e 3 (by decide)
      have e2 : 0 ≤ r ∧ r < x.D 2 := e2
      have e3 : 0 ≤ c ∧ c < x.D 3 := e3
      omega)]
  · rw [if_neg h, if_pos (iok_iff.2 ⟨rfl, fun j hj => by
      have : j = 0 ∨ j = 1 ∨ j = 2 ∨ j = 3 := by omega
      rcases this with rfl | rfl | rfl | rfl
      · exact ⟨n0, n1⟩
      · exact ⟨f0, f1⟩
      · show 0 ≤ r ∧ r < x.D 2; omega
      · show 0 ≤ c ∧ c < x.D 3; omega⟩)]
end Vo
end Go.Proofs.Ytgcialbchmbgkaa
