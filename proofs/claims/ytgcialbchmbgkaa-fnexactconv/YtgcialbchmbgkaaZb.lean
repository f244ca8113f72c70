/- Convolutions: one number of the outcome; the program's side. -/
import Derived.Test.YtgcialbchmbgkaaZa
namespace Go.Proofs.Ytgcialbchmbgkaa
namespace Vo
open Go.ChangeShapes Go.WideShapes Go.ChangeAt Go.RowKit Go.Joins Go.Sort
open Vl Vp Vr
set_option linter.unusedVariables false
set_option linter.unusedSimpArgs false
/-- what stands beneath the m-th number of a filter -/
def cvX (z S : Nat → Int) (fi : Nat) (row col : Int) (m : Nat) : Int := inP z S ((fi : Int) + (m / (z 7).toNat / (z 6).toNat : Nat)) (row + z 10 * (m / (z 7).toNat % (z 6).toNat : Nat)) (col + z 10 * (m % (z 7).toNat : Nat))
/-- the sum, of the first m of them -/
def cvA (z Sx Sw : Nat → Int) (o fi : Nat) (row col : Int) : Nat → Int
  | 0 => 0
  | m + 1 => pl (cvA z Sx Sw o fi row col m) (ti (Sw (o * ((z 5).toNat * (z 6).toNat * (z 7).toNat) + m)) (cvX z Sx fi row col m))
theorem cvA_rng (z Sx Sw : Nat → Int) (o fi : Nat) (row col : Int) (m : Nat) : 0 ≤ cvA z Sx Sw o fi row col m ∧ cvA z Sx Sw o fi row col m < 2147483647 := by
  cases m with
  | zero => show (0 : Int) ≤ 0 ∧ (0 : Int) < 2147483647; omega
  | succ m => exact pl_rng _ _
theorem dig3 {KH KW k a b : Nat} (ha : a < KH) (hb : b < KW) : ((k * KH + a) * KW + b) % KW = b ∧ ((k * KH + a) * KW + b) / KW % KH = a ∧ ((k * KH + a) * KW + b) / KW / KH = k := by
  have e1 : ((k * KH + a) * KW + b) / KW = k * KH + a := by rw [Nat.mul_comm, Nat.mul_add_div (by omega), Nat.div_eq_of_lt hb, Nat.add_zero]
  refine ⟨by rw [Nat.mul_comm, Nat.mul_add_mod, Nat.mod_eq_of_lt hb], ?_, ?_⟩
  · rw [e1, Nat.mul_comm, Nat.mul_add_mod, Nat.mod_eq_of_lt ha]
  · rw [e1, Nat.mul_comm, Nat.mul_add_div (by omega), Nat.div_eq_of_lt ha, Nat.add_zero]
theorem widx (o K KH KW k a b : Nat) : ((o * K + k) * KH + a) * KW + b = o * (K * KH * KW) + ((k * KH + a) * KW + b) := by
  simp only [Nat.add_mul, Nat.mul_assoc, Nat.add_assoc]
theorem lin_lt {K KH KW k a b : Nat} (hk : k < K) (ha : a < KH) (hb : b < KW) : (k * KH + a) * KW + b < K * KH * KW := by
  have h1 : (k + 1) * KH ≤ K * KH := Nat.mul_le_mul_right _ hk
  rw [Nat.add_mul, Nat.one_mul] at h1
  have h2 : (k * KH + a + 1) * KW ≤ K * KH * KW := Nat.mul_le_mul_right _ (by omega)
  rw [Nat.add_mul, Nat.one_mul] at h2
  omega
theorem inP_bd {B : Nat} {w : World} {a : Option Addr} {s : Nat} {S z : Nat → Int} {p r c : Int} (h : Ints B w a s S) (hc : CzB z) (p0 : 0 ≤ p) (hp : (p + 1) * z 2 * z 3 ≤ s) : bd (inP z S p r c) := by
  unfold inP
  split
  · unfold bd; omega
  · have q2 := hc.pos 2 (by decide)
    have q3 := hc.pos 3 (by decide)
    have e1 : (p + 1) * z 2 * z 3 = (p * z 2 + z 2) * z 3 := by rw [Int.add_mul, Int.one_mul]
    have m0 : 0 ≤ p * z 2 := Int.mul_nonneg p0 (by omega)
    have m1 : 0 ≤ (p * z 2 + r) * z 3 := Int.mul_nonneg (by omega) (by omega)
    have m2 : (p * z 2 + r + 1) * z 3 ≤ (p * z 2 + z 2) * z 3 := Int.mul_le_mul_of_nonneg_right (by omega) (by omega)
    rw [Int.add_mul _ 1, Int.one_mul] at m2
    rw [e1] at hp
    exact h.bd _ (by omega)
set_option maxRecDepth 100000 in
set_option maxHeartbeats 4000000 in
theorem numberF (B : Nat) (z : Nat → Int) (ax aw : Option Addr) (sx cx sw cw : Nat) (Sx Sw : Nat → Int) (n o fi qd od : Nat) (row col : Int) (w : World) (hB : B ≤ w.heap.size) (hx : Ints B w ax sx Sx) (hw : Ints B w aw sw Sw) (h : CzB z) (lx : (sx : Int) ≤ 4096) (lw : (sw : Int) ≤ 4096)
    (hqd : (z 4).tdiv (z 11) = (qd : Int)) (qd1 : 1 ≤ qd) (hod : (o : Int).tdiv (qd : Int) = (od : Int)) (hfi : (n : Int) * z 1 + (od : Int) * z 5 = (fi : Int)) (hpl : ((fi : Int) + z 5) * z 2 * z 3 ≤ sx) (hwl : (o + 1) * ((z 5).toNat * (z 6).toNat * (z 7).toNat) ≤ sw) (r0 : -4294967296 ≤ row ∧ row ≤ 4294967296) (c0 : -4294967296 ≤ col ∧ col ≤ 4294967296) :
    Calls Try.prog 71 #[.agg #[.int .i64 (z 0), .int .i64 (z 1), .int .i64 (z 2), .int .i64 (z 3), .int .i64 (z 4), .int .i64 (z 5), .int .i64 (z 6), .int .i64 (z 7), .int .i64 (z 8), .int .i64 (z 9), .int .i64 (z 10), .int .i64 (z 11), .slice ax sx cx, .slice aw sw cw], .int .i64 (n : Int), .int .i64 (o : Int), .int .i64 row, .int .i64 col] w fun e w' => e = .returned (.int .i64 (cvA z Sx Sw o fi row col ((z 5).toNat * (z 6).toNat * (z 7).toNat))) ∧ Below w.heap.size w w' := by
  obtain ⟨W0, hW0⟩ : ∃ W0, w.alloc (.cells #[.int .i64 (z 0), .int .i64 (z 1), .int .i64 (z 2), .int .i64 (z 3), .int .i64 (z 4), .int .i64 (z 5), .int .i64 (z 6), .int .i64 (z 7), .int .i64 (z 8), .int .i64 (z 9), .int .i64 (z 10), .int .i64 (z 11), .slice ax sx cx, .slice aw sw cw] 61) = W0 := ⟨_, rfl⟩
  have bl : Below w.heap.size w W0 := by rw [← hW0]; exact (Below.refl _ _).alloc (Nat.le_refl _) _
  have s0 : w.heap.size < W0.heap.size := by rw [← hW0]; simp
  have cc : (∀ i, i < 12 → W0.cell? ⟨w.heap.size, i, none⟩ = some (.int .i64 (z i))) ∧ W0.cell? ⟨w.heap.size, 12, none⟩ = some (.slice ax sx cx) ∧ W0.cell? ⟨w.heap.size, 13, none⟩ = some (.slice aw sw cw) := by
    rw [← hW0]
    refine ⟨fun i hi => ?_, by simp [go_sem], by simp [go_sem]⟩
    have : i = 0 ∨ i = 1 ∨ i = 2 ∨ i = 3 ∨ i = 4 ∨ i = 5 ∨ i = 6 ∨ i = 7 ∨ i = 8 ∨ i = 9 ∨ i = 10 ∨ i = 11 := by omega
    rcases this with rfl | rfl | rfl | rfl | rfl | rfl | rfl | rfl | rfl | rfl | rfl | rfl <;> simp [go_sem]
  have CC := hide (fun (W : World) (hb : Below W0.heap.size W0 W) => show (∀ i, i < 12 → W.cell? ⟨w.heap.size, i, none⟩ = some (.int .i64 (z i))) ∧ W.cell? ⟨w.heap.size, 12, none⟩ = some (.slice ax sx cx) ∧ W.cell? ⟨w.heap.size, 13, none⟩ = some (.slice aw sw cw) from
    ⟨fun i hi => (hb.cell (p := ⟨w.heap.size, i, none⟩) s0).trans (cc.1 i hi), (hb.cell (p := ⟨w.heap.size, 12, none⟩) s0).trans cc.2.1, (hb.cell (p := ⟨w.heap.size, 13, none⟩) s0).trans cc.2.2⟩)
  have HX := hide (hx.below (bl.mono hB))
  have HW := hide (hw.below (bl.mono hB))
  have BL := hide bl
  obtain ⟨K, hK⟩ : ∃ K : Nat, z 5 = K := ⟨(z 5).toNat, by have := h.pos 5 (by decide); omega⟩
  obtain ⟨KH, hKH⟩ : ∃ KH : Nat, z 6 = KH := ⟨(z 6).toNat, by have := h.pos 6 (by decide); omega⟩
  obtain ⟨KW, hKW⟩ : ∃ KW : Nat, z 7 = KW := ⟨(z 7).toNat, by have := h.pos 7 (by decide); omega⟩
  have K1 : 1 ≤ K ∧ K ≤ 4096 := by have := h.pos 5 (by decide); omega
  have KH1 : 1 ≤ KH ∧ KH ≤ 4096 := by have := h.pos 6 (by decide); omega
  have KW1 : 1 ≤ KW ∧ KW ≤ 4096 := by have := h.pos 7 (by decide); omega
  have EA := hide (fun (m : Nat) => show cvA z Sx Sw o fi row col (m + 1) = pl (cvA z Sx Sw o fi row col m) (ti (Sw (o * (K * KH * KW) + m)) (inP z Sx ((fi : Int) + (m / KW / KH : Nat)) (row + z 10 * (m / KW % KH : Nat)) (col + z 10 * (m % KW : Nat)))) by
    show pl _ (ti (Sw (o * ((z 5).toNat * (z 6).toNat * (z 7).toNat) + m)) (cvX z Sx fi row col m)) = _
    unfold cvX
    rw [hK, hKH, hKW, Int.toNat_natCast, Int.toNat_natCast, Int.toNat_natCast])
  rw [hK, hKH, hKW, Int.toNat_natCast, Int.toNat_natCast, Int.toNat_natCast] at hwl
  have EF := hide (show (z 5).toNat * (z 6).toNat * (z 7).toNat = K * KH * KW by rw [hK, hKH, hKW, Int.toNat_natCast, Int.toNat_natCast, Int.toNat_natCast])
  have hz1 := h.pos 1 (by decide)
  have hz2 := h.pos 2 (by decide)
  have hz3 := h.pos 3 (by decide)
  have hz4 := h.pos 4 (by decide)
  have hdl := h.dl
  have hgr := h.gr
  have PLN := hide (show ∀ k, k < K → (((fi : Int) + (k : Nat)) + 1) * z 2 * z 3 ≤ sx from fun k hk => by
    have m1 : ((fi : Int) + (k : Nat) + 1) * z 2 ≤ ((fi : Int) + z 5) * z 2 := Int.mul_le_mul_of_nonneg_right (by omega) (by omega)
    have m2 : ((fi : Int) + (k : Nat) + 1) * z 2 * z 3 ≤ ((fi : Int) + z 5) * z 2 * z 3 := Int.mul_le_mul_of_nonneg_right m1 (by omega)
    omega)
  have fi1 : (fi : Int) ≤ 4096 := by
    have m1 : ((fi : Int) + z 5) * 1 ≤ ((fi : Int) + z 5) * z 2 := Int.mul_le_mul_of_nonneg_left (by omega) (by omega)
    have m2 : ((fi : Int) + z 5) * z 2 * 1 ≤ ((fi : Int) + z 5) * z 2 * z 3 := Int.mul_le_mul_of_nonneg_left (by omega) (Int.mul_nonneg (by omega) (by omega))
    omega
  obtain ⟨nc, hnc⟩ : ∃ nc : Nat, (n : Int) * z 1 = nc := ⟨((n : Int) * z 1).toNat, by have := Int.mul_nonneg (show (0 : Int) ≤ n by omega) (show (0 : Int) ≤ z 1 by omega); omega⟩
  obtain ⟨oc, hoc⟩ : ∃ oc : Nat, (od : Int) * (K : Int) = oc := ⟨od * K, by rw [Int.natCast_mul]⟩
  rw [hK] at hfi
  rw [hnc, hoc] at hfi
  have oI : (o : Int) ≤ 4096 := by
    have m1 : (o + 1) * 1 ≤ (o + 1) * (K * KH * KW) := Nat.mul_le_mul_left _ (Nat.mul_pos (Nat.mul_pos (by omega) (by omega)) (by omega))
    omega
  have qdI : (qd : Int) ≤ 4096 := by
    have := tdiv_rng (a := z 4) (b := z 11) (by omega) hgr.1
    omega
  have odI : (od : Int) ≤ 4096 := by
    have := tdiv_rng (a := (o : Int)) (b := (qd : Int)) (by omega) (by omega)
    omega
  have w1 : IntKind.i64.wrap (nc : Int) = nc := by rw [IntKind.wrap_i64]; omega
  have w2 : IntKind.i64.wrap (qd : Int) = qd := by rw [IntKind.wrap_i64]; omega
  have w3 : IntKind.i64.wrap (od : Int) = od := by rw [IntKind.wrap_i64]; omega
  have w4 : IntKind.i64.wrap (oc : Int) = oc := by rw [IntKind.wrap_i64]; omega
  have w5 : IntKind.i64.wrap (fi : Int) = fi := by rw [IntKind.wrap_i64]; omega
  have g0 : (z 11 == 0) = false := beq_eq_false_iff_ne.2 (by omega)
  have g1 : ((qd : Int) == 0) = false := beq_eq_false_iff_ne.2 (by omega)
  have g1' : (qd == 0) = false := beq_eq_false_iff_ne.2 (by omega)
  have g2 : ¬ (z 11 = 0) := by omega
  have g3 : ¬ (qd = 0) := by omega
  obtain ⟨cl, cx', cw'⟩ := cc
  have HK := hide hK
  have HKH := hide hKH
  have HKW := hide hKW
  have c5 : W0.cell? ⟨w.heap.size, 5, none⟩ = some (.int .i64 (K : Int)) := by rw [← hK]; exact cl 5 (by decide)
  have c1 := cl 1 (by decide)
  have c4 := cl 4 (by decide)
  have c11 := cl 11 (by decide)
  have H := hide h
  clear cl bl hx hw hK hKH hKW h
  go_enter Try.func71, Try.ntmps71
  go_wp2_with fail
  clear hW0
  go_quiet (fail)
  have bz := below_drewN (Below.refl W0.heap.size W0) nq
  generalize W0.drewN nq = X0 at bz ⊢
  have BX0 := hide bz
  obtain ⟨cl0, _, _⟩ := CC.out X0 bz
  have d5 := cl0 5 (by decide)
  rw [HK.out] at d5
  clear c1 c4 c5 c11 cl0 bz w1 w2 w3 w4 w5 g0 g1 g2 g3 g1' hnc hoc hqd hod hz1 hz4
  go_wp2_with fail
  clear d5
  go_loopw [12, 39] (fun s i wx => ∃ k : Nat, k ≤ K ∧ s = .int .i64 (cvA z Sx Sw o fi row col (k * KH * KW)) ∧ i = .int .i64 k ∧ Below W0.heap.size W0 wx) (fun _ i _ => K - (intOf i).toNat)
  case atStart => exact ⟨0, by omega, by rw [Nat.zero_mul, Nat.zero_mul]; rfl, rfl, BX0.out⟩
  case round =>
    obtain ⟨k, hk, rfl, rfl, bk⟩ := hrel
    have BK := hide bk
    obtain ⟨cl, _, _⟩ := CC.out _ bk
    have d6 := cl 6 (by decide)
    rw [HKH.out] at d6
    clear cl bk
    by_cases hkl : k < K
    · have kI : (k : Int) < K := by omega
      go_wp2_with fail
      clear d6
      go_loopw [12, 45] (fun s i wx => ∃ a : Nat, a ≤ KH ∧ s = .int .i64 (cvA z Sx Sw o fi row col ((k * KH + a) * KW)) ∧ i = .int .i64 a ∧ Below W0.heap.size W0 wx) (fun _ i _ => KH - (intOf i).toNat)
      case atStart => exact ⟨0, by omega, by rw [Nat.add_zero], rfl, BK.out⟩
      case round =>
        obtain ⟨a, ha, rfl, rfl, ba⟩ := hrel
        have BA := hide ba
        obtain ⟨cl, _, _⟩ := CC.out _ ba
        have d7 := cl 7 (by decide)
        rw [HKW.out] at d7
        clear cl ba
        by_cases hal : a < KH
        · have aI : (a : Int) < KH := by omega
          go_wp2_with fail
          clear d7
          go_loopw [12, 51] (fun s i wx => ∃ b : Nat, b ≤ KW ∧ s = .int .i64 (cvA z Sx Sw o fi row col ((k * KH + a) * KW + b)) ∧ i = .int .i64 b ∧ Below W0.heap.size W0 wx) (fun _ i _ => KW - (intOf i).toNat)
          case atStart => exact ⟨0, by omega, by rw [Nat.add_zero], rfl, BA.out⟩
          case round =>
            obtain ⟨b, hb, rfl, rfl, bb⟩ := hrel
            have BB := hide bb
            by_cases hbl : b < KW
            · have bI : (b : Int) < KW := by omega
              obtain ⟨d1, d2, d3⟩ := dig3 (k := k) hal hbl
              have ll := lin_lt hkl hal hbl
              have EM := hide (EA.out ((k * KH + a) * KW + b))
              rw [d1, d2, d3] at EM
              obtain ⟨m, hm⟩ : ∃ m, (k * KH + a) * KW + b = m := ⟨_, rfl⟩
              have EN := hide (show (k * KH + a) * KW + (b + 1) = m + 1 by omega)
              have wi := widx o K KH KW k a b
              rw [hm] at EM ll wi ⊢
              obtain ⟨wx, hwx⟩ : ∃ wx, o * (K * KH * KW) + m = wx := ⟨_, rfl⟩
              rw [hwx] at wi EM
              have wl : wx < sw := by rw [Nat.add_mul, Nat.one_mul] at hwl; omega
              have wlI : (wx : Int) < sw := by omega
              obtain ⟨t1, ht1⟩ : ∃ t1, o * K = t1 := ⟨_, rfl⟩
              obtain ⟨t2, ht2⟩ : ∃ t2, (t1 + k) * KH = t2 := ⟨_, rfl⟩
              obtain ⟨t3, ht3⟩ : ∃ t3, (t2 + a) * KW = t3 := ⟨_, rfl⟩
              have wi' : t3 + b = wx := by rw [← wi, ← ht3, ← ht2, ← ht1]
              have l2 : (t2 + a) * 1 ≤ (t2 + a) * KW := Nat.mul_le_mul_left _ (by omega)
              have l3 : (t1 + k) * 1 ≤ (t1 + k) * KH := Nat.mul_le_mul_left _ (by omega)
              have i1 : (o : Int) * K = t1 := by rw [← ht1, Int.natCast_mul]
              have i1b : (t1 : Int) + k = ((t1 + k : Nat) : Int) := by omega
              have i2 : ((t1 : Int) + k) * KH = t2 := by rw [i1b, ← ht2, Int.natCast_mul]
              have i2b : (t2 : Int) + a = ((t2 + a : Nat) : Int) := by omega
              have i3 : ((t2 : Int) + a) * KW = t3 := by rw [i2b, ← ht3, Int.natCast_mul]
              have i4 : (t3 : Int) + b = wx := by omega
              have v1 : IntKind.i64.wrap (t1 : Int) = t1 := by rw [IntKind.wrap_i64]; omega
              have v2 : IntKind.i64.wrap ((t1 : Int) + k) = (t1 : Int) + k := by rw [IntKind.wrap_i64]; omega
              have v3 : IntKind.i64.wrap (t2 : Int) = t2 := by rw [IntKind.wrap_i64]; omega
              have v4 : IntKind.i64.wrap ((t2 : Int) + a) = (t2 : Int) + a := by rw [IntKind.wrap_i64]; omega
              have v5 : IntKind.i64.wrap (t3 : Int) = t3 := by rw [IntKind.wrap_i64]; omega
              have v6 : IntKind.i64.wrap (wx : Int) = wx := by rw [IntKind.wrap_i64]; omega
              have v7 : IntKind.i64.wrap ((fi : Int) + k) = (fi : Int) + k := by rw [IntKind.wrap_i64]; omega
              have ma := mul_rng (a := z 10) (b := (a : Int)) (m := 4096) (n := 4096) (by omega) hdl.2 (by omega) (by omega)
              have mb := mul_rng (a := z 10) (b := (b : Int)) (m := 4096) (n := 4096) (by omega) hdl.2 (by omega) (by omega)
              have v8 : IntKind.i64.wrap (z 10 * (a : Int)) = z 10 * (a : Int) := by rw [IntKind.wrap_i64]; omega
              have v9 : IntKind.i64.wrap (z 10 * (b : Int)) = z 10 * (b : Int) := by rw [IntKind.wrap_i64]; omega
              have v10 : IntKind.i64.wrap (row + z 10 * (a : Int)) = row + z 10 * (a : Int) := by rw [IntKind.wrap_i64]; omega
              have v11 : IntKind.i64.wrap (col + z 10 * (b : Int)) = col + z 10 * (b : Int) := by rw [IntKind.wrap_i64]; omega
              obtain ⟨cl, e12, e13⟩ := CC.out _ bb
              have f5 := cl 5 (by decide)
              have f6 := cl 6 (by decide)
              have f7 := cl 7 (by decide)
              rw [HK.out] at f5
              rw [HKH.out] at f6
              rw [HKW.out] at f7
              have f0 := cl 0 (by decide)
              have f1 := cl 1 (by decide)
              have f2 := cl 2 (by decide)
              have f3 := cl 3 (by decide)
              have f4 := cl 4 (by decide)
              have f8 := cl 8 (by decide)
              have f9 := cl 9 (by decide)
              have f10 := cl 10 (by decide)
              have f11 := cl 11 (by decide)
              have PK := hide (PLN.out k hkl)
              have hBw : B ≤ wr.heap.size := by have := bb.size; omega
              have hBW : B ≤ W0.heap.size := by omega
              have HXr := hide (HX.out.below (bb.mono hBW))
              have HWr := hide (HW.out.below (bb.mono hBW))
              have CI := hide (inPlaneF B z ax aw sx cx sw cw Sx ((fi : Int) + (k : Nat)) (row + z 10 * (a : Nat)) (col + z 10 * (b : Nat)) wr hBw HXr.out H.out (by omega) lx PK.out)
              have ib := inP_bd (r := row + z 10 * (a : Nat)) (c := col + z 10 * (b : Nat)) HXr.out H.out (show 0 ≤ (fi : Int) + (k : Nat) by omega) PK.out
              rw [HK.out, HKH.out, HKW.out] at CI
              obtain ⟨iv, hiv⟩ : ∃ iv, inP z Sx ((fi : Int) + (k : Nat)) (row + z 10 * (a : Nat)) (col + z 10 * (b : Nat)) = iv := ⟨_, rfl⟩
              rw [hiv] at CI EM ib
              rcases HWr.out with h0 | ⟨b2, o2, rfl, g2, hcw⟩
              · omega
              obtain ⟨cwx, bwx⟩ := hcw wx wl
              obtain ⟨wv', hwv⟩ : ∃ wv', Sw wx = wv' := ⟨_, rfl⟩
              rw [hwv] at cwx bwx EM
              have ar := cvA_rng z Sx Sw o fi row col m
              have ar1 := cvA_rng z Sx Sw o fi row col (m + 1)
              obtain ⟨sm, hsm⟩ : ∃ sm, cvA z Sx Sw o fi row col m = sm := ⟨_, rfl⟩
              rw [hsm] at ar EM ⊢
              have tr := ti_rng wv' iv
              unfold bd at bwx ib
              have CT := hide (fun (W : World) => show Calls Try.prog 75 #[.int .i64 wv', .int .i64 iv] W (fun e w' => e = .returned (.int .i64 (ti wv' iv)) ∧ w' = W) from Base.implTimes wv' iv W bwx.1 bwx.2 ib.1 ib.2)
              obtain ⟨tv, htv⟩ : ∃ tv, ti wv' iv = tv := ⟨_, rfl⟩
              rw [htv] at tr CT EM
              have CP := hide (fun (W : World) => show Calls Try.prog 74 #[.int .i64 sm, .int .i64 tv] W (fun e w' => e = .returned (.int .i64 (pl sm tv)) ∧ w' = W) from Base.implPlus sm tv W (by omega) (by omega) (by omega) (by omega))
              rw [← EM.out] at CP
              clear cl hcw d1 d2 d3 ll wi hm hwx ht1 ht2 ht3 wi' l2 l3 i1b i2b ma mb hiv hwv hsm htv EM HXr HWr PK bb
              go_wp2_with fail
              refine CI.out.mono ?_
              rintro e w1 ⟨rfl, b1⟩
              have B1 := hide (BB.out.trans (b1.mono BB.out.size))
              clear b1 CI
              go_wp2_with fail
              refine (CT.out _).mono ?_
              rintro e w2 ⟨rfl, hq⟩
              have hq := hq.symm
              subst hq
              go_wp2_with fail
              refine (CP.out _).mono ?_
              rintro e w2 ⟨rfl, hq⟩
              have hq := hq.symm
              subst hq
              go_wp2_with fail
              go_roundw
              case rel => exact ⟨b + 1, by omega, by rw [EN.out], by go_num, B1.out⟩
              case measure => simp [intOf]; omega
            · have eb : b = KW := by omega
              have EN := hide (show (k * KH + a) * KW + b = (k * KH + (a + 1)) * KW by rw [eb, ← Nat.add_assoc, Nat.add_mul (k * KH + a) 1, Nat.one_mul])
              have hbl' : decide ((b : Int) < (KW : Int)) = false := decide_eq_false (by omega)
              have hbl'' : decide (b < KW) = false := decide_eq_false (by omega)
              clear eb bb
              go_wp2_with fail
              go_roundw
              case rel => exact ⟨a + 1, by omega, by rw [EN.out], by go_num, BB.out⟩
              case measure => simp [intOf]; omega
        · have ea : a = KH := by omega
          have EN := hide (show (k * KH + a) * KW = (k + 1) * KH * KW by rw [ea, Nat.add_mul k 1, Nat.one_mul])
          have hal' : decide ((a : Int) < (KH : Int)) = false := decide_eq_false (by omega)
          have hal'' : decide (a < KH) = false := decide_eq_false (by omega)
          clear ea
          go_wp2_with fail
          go_roundw
          case rel => exact ⟨k + 1, by omega, by rw [EN.out], by go_num, BA.out⟩
          case measure => simp [intOf]; omega
    · have ek : k = K := by omega
      have hkl' : decide ((k : Int) < (K : Int)) = false := decide_eq_false (by omega)
      have hkl'' : decide (k < K) = false := decide_eq_false (by omega)
      have EN := hide (show k * KH * KW = K * KH * KW by rw [ek])
      clear ek hkl
      go_wp2_with fail
      go_ret
      exact ⟨by rw [EF.out, ← EN.out]; rfl, BL.out.trans (BK.out.mono BL.out.size)⟩
end Vo
end Go.Proofs.Ytgcialbchmbgkaa
