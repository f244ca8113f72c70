/- Pools: what is kept along two axes, plain. -/
import Derived.Test.YtdenfcckmpkomaaWa
namespace Go.Proofs.Ytdenfcckmpkomaa
namespace Vo
open Go.ChangeShapes Go.WideShapes Go.ChangeAt Go.RowKit Go.Joins
open Vl Vp Vr
set_option linter.unusedVariables false
set_option linter.unusedSimpArgs false

/-- how many windows there are -/
def poolH (d z t : Int) : Int := (d - z).tdiv t + 1
theorem poolH_rng {d z t : Int} (hz : 1 ≤ z) (ht : 1 ≤ t) (hd : z ≤ d) : 1 ≤ poolH d z t ∧ poolH d z t ≤ d ∧ (poolH d z t - 1) * t ≤ d - z := by
  unfold poolH
  have e : (d - z).tdiv t = (d - z) / t := Int.tdiv_eq_ediv_of_nonneg (by omega)
  have a : 0 ≤ (d - z) / t := Int.ediv_nonneg (by omega) (by omega)
  have b : (d - z) / t ≤ d - z := Int.ediv_le_self _ (by omega)
  have m := Int.ediv_mul_le (d - z) (show t ≠ 0 by omega)
  rw [e]
  refine ⟨by omega, by omega, ?_⟩
  rw [show (d - z) / t + 1 - 1 = (d - z) / t by omega]
  exact m
/-- an int of a window lies in the line -/
theorem pool_in {d z t i u : Int} (hz : 1 ≤ z) (ht : 1 ≤ t) (hd : z ≤ d) (hi : 0 ≤ i) (hi2 : i < poolH d z t) (hu : 0 ≤ u) (hu2 : u < z) : 0 ≤ i * t + u ∧ i * t + u < d := by
  have h := (poolH_rng hz ht hd).2.2
  have m : i * t ≤ (poolH d z t - 1) * t := Int.mul_le_mul_of_nonneg_right (by omega) (by omega)
  have m2 : 0 ≤ i * t := Int.mul_nonneg hi (by omega)
  omega
theorem pr_up1 {D : Nat → Int} {r k : Nat} (hk : k < r) (n : Int) : pr (up1 D k n) r = pr D k * n * bhd D r k := by
  rw [pr_axis _ hk, bhd_up1, up1_at, pr_same (E := D) (fun j hj => up1_ne D n (by omega))]
theorem line_isN {r s k : Nat} {D S : Nat → Int} {n j : Int} (ht : tok r s D S = true) (hk : k < r) (hn : 1 ≤ n) (hj : 0 ≤ j) (hj2 : j < pr (up1 D k n) r) (u : Nat) (hu : (u : Int) < D k) : isN (lineAt S (D k) (bhd D r k) n j u) := by
  obtain ⟨td, ts, tw⟩ := tok_split ht
  have dp := dok_pr td
  rw [pr_up1 hk] at hj2
  have m := mv_rng (l := D k) (x := (u : Int)) (bhd_pos dp.2) hn (by omega) hu hj hj2
  rw [← pr_axis D hk, ← dp.1, ts] at m
  exact tw _ (by omega)
theorem poolG_isN {op : Int} (h : Mix (two1 op)) {d z t : Int} (hz : 1 ≤ z) (ht : 1 ≤ t) (hd : z ≤ d) {L : Nat → Int} (hL : ∀ u : Nat, (u : Int) < d → isN (L u)) {i : Nat} (hi : (i : Int) < poolH d z t) : isN (poolG op z.toNat t.toNat L i) := by
  refine fo_isN h (fun u hu => hL _ ?_)
  have := (pool_in (i := (i : Int)) (u := (u : Int)) hz ht hd (by omega) hi (by omega) (by omega)).2
  rw [Int.natCast_add, Int.natCast_mul, Int.toNat_of_nonneg (show 0 ≤ t by omega)]
  exact this
theorem up1_le {D : Nat → Int} {r k : Nat} {n : Int} (hd : ∀ j, j < r → 1 ≤ D j) (h1 : 1 ≤ n) (h2 : n ≤ D k) : ∀ j, j < r → 1 ≤ up1 D k n j ∧ up1 D k n j ≤ D j := by
  intro j hj
  by_cases c : j = k
  · subst c; rw [up1_at]; exact ⟨h1, h2⟩
  · rw [up1_ne _ _ c]; exact ⟨hd j hj, Int.le_refl _⟩
/-- the first pass -/
theorem poolA_is {op : Int} (h : Mix (two1 op)) {r s k : Nat} {D S : Nat → Int} {z t : Int} (ht : tok r s D S = true) (hk : k < r) (hz : 1 ≤ z) (h1 : 1 ≤ t) (hd : z ≤ D k) :
    poolA op r s D S (k : Int) z t = ⟨r, cntT r (up1 D k (poolH (D k) z t)), up1 D k (poolH (D k) z t), fun j => poolG op z.toNat t.toNat (lineAt S (D k) (bhd D r k) (poolH (D k) z t) j) ((j : Int) / bhd D r k % poolH (D k) z t).toNat⟩ ∧
    tok r (cntT r (up1 D k (poolH (D k) z t))) (up1 D k (poolH (D k) z t)) (fun j => poolG op z.toNat t.toNat (lineAt S (D k) (bhd D r k) (poolH (D k) z t) j) ((j : Int) / bhd D r k % poolH (D k) z t).toNat) = true := by
  obtain ⟨td, ts, tw⟩ := tok_split ht
  have dp := dok_pr td
  have hl : lenA r s D S (k : Int) = D k := by rw [lenA_yes ⟨ht, by omega, by omega⟩, Int.toNat_natCast]
  have pr0 := poolH_rng hz h1 hd
  have hE : dok r (up1 D k (poolH (D k) z t)) = true := dok_le td (up1_le dp.2 pr0.1 pr0.2.1)
  constructor
  · rw [poolA_yes (by rw [hl]; exact ⟨hz, h1, hd⟩), hl]
    exact lineP_yes ht hk hE
  · refine tok_yes hE (cntT_cast _ _) (fun j hj => ?_)
    have hj2 : (j : Int) < pr (up1 D k (poolH (D k) z t)) r := by rw [← (dok_pr hE).1, ← cntT_cast]; omega
    refine poolG_isN h hz h1 hd (fun u hu => line_isN ht hk pr0.1 (by omega) hj2 u hu) ?_
    rw [Int.toNat_of_nonneg (Int.emod_nonneg _ (by omega))]
    exact Int.emod_lt_of_pos _ (by omega)
def poolE (q : Nat) (D : Nat → Int) (z t : Int) : Nat → Int := up1 (up1 D q (poolH (D q) z t)) (q + 1) (poolH (D (q + 1)) z t)
/-- the number at row a and column b of a window -/
def poolY (q : Nat) (D S : Nat → Int) (z t : Int) (j : Nat) (a b : Nat) : Int :=
  S (od D (up1 (up1 (dg (poolE q D z t) (q + 2) j) q (dg (poolE q D z t) (q + 2) j q * t + a)) (q + 1) (dg (poolE q D z t) (q + 2) j (q + 1) * t + b)) (q + 2)).toNat
def PoolOk (r s : Nat) (D S : Nat → Int) (z t : Int) : Prop := tok r s D S = true ∧ 2 ≤ r ∧ 1 ≤ z ∧ 1 ≤ t ∧ z ≤ D (r - 2) ∧ z ≤ D (r - 1)
instance (r s : Nat) (D S : Nat → Int) (z t : Int) : Decidable (PoolOk r s D S z t) := by unfold PoolOk; infer_instance
theorem poolP_no {op : Int} (hm : Mix (two1 op)) {r s : Nat} {D S : Nat → Int} {z t : Int} (h : ¬ PoolOk r s D S z t) : poolP op r s D S z t = PT.zero := by
  have z2 : ∀ x, poolA op PT.zero.r PT.zero.s PT.zero.D PT.zero.S x z t = PT.zero := fun x => poolA_no (fun e => by
    have : lenA PT.zero.r PT.zero.s PT.zero.D PT.zero.S x = 0 := lenA_no (fun q => by have a := q.2.1; have b := q.2.2; simp [PT.zero] at b; omega)
    omega)
  unfold poolP
  by_cases c : 1 ≤ z ∧ 1 ≤ t ∧ z ≤ lenA r s D S ((r : Int) - 2)
  · by_cases ct : tok r s D S = true ∧ 0 ≤ (r : Int) - 2 ∧ (r : Int) - 2 < r
    · obtain ⟨q, rfl⟩ : ∃ q, r = q + 2 := ⟨r - 2, by omega⟩
      have e2 : ((q + 2 : Nat) : Int) - 2 = (q : Int) := by omega
      have e1 : ((q + 2 : Nat) : Int) - 1 = ((q + 1 : Nat) : Int) := by omega
      rw [e2] at c ct ⊢
      have hl : lenA (q + 2) s D S (q : Int) = D q := by rw [lenA_yes ct, Int.toNat_natCast]
      rw [hl] at c
      obtain ⟨p1, p2⟩ := poolA_is (k := q) hm ct.1 (by omega) c.1 c.2.1 c.2.2
      rw [p1, e1]
      dsimp only
      refine poolA_no (fun e => h ⟨ct.1, by omega, c.1, c.2.1, c.2.2, ?_⟩)
      have hl2 := e.2.2
      rw [lenA_yes ⟨p2, by omega, by omega⟩, Int.toNat_natCast, up1_ne _ _ (by omega)] at hl2
      exact hl2
    · rw [lenA_no ct] at c
      omega
  · rw [poolA_no c]
    exact z2 _
theorem poolP_is {op : Int} (hm : Mix (two1 op)) {q s : Nat} {D S : Nat → Int} {z t : Int} (h : PoolOk (q + 2) s D S z t) :
    ∃ V, poolP op (q + 2) s D S z t = ⟨q + 2, cntT (q + 2) (poolE q D z t), poolE q D z t, V⟩ ∧ dok (q + 2) (poolE q D z t) = true ∧
      (∀ j : Nat, j < cntT (q + 2) (poolE q D z t) → (∀ a b : Nat, (a : Int) < z → (b : Int) < z → isN (poolY q D S z t j a b) ∧ ∀ i, i < q + 2 → 0 ≤ up1 (up1 (dg (poolE q D z t) (q + 2) j) q (dg (poolE q D z t) (q + 2) j q * t + a)) (q + 1) (dg (poolE q D z t) (q + 2) j (q + 1) * t + b) i ∧ up1 (up1 (dg (poolE q D z t) (q + 2) j) q (dg (poolE q D z t) (q + 2) j q * t + a)) (q + 1) (dg (poolE q D z t) (q + 2) j (q + 1) * t + b) i < D i) ∧
        V j = fo (two1 op) (fun a => fo (two1 op) (fun b => poolY q D S z t j a b) (z.toNat - 1)) (z.toNat - 1)) := by
  obtain ⟨ht, _, hz, h1, hd, hd1⟩ := h
  rw [show q + 2 - 2 = q by omega] at hd
  rw [show q + 2 - 1 = q + 1 by omega] at hd1
  obtain ⟨td, ts, tw⟩ := tok_split ht
  have dp := dok_pr td
  obtain ⟨p1, p2⟩ := poolA_is (k := q) hm ht (by omega) hz h1 hd
  have hr1 := poolH_rng hz h1 hd
  have hr2 := poolH_rng hz h1 hd1
  have e2 : ((q + 2 : Nat) : Int) - 2 = (q : Int) := by omega
  have e1 : ((q + 2 : Nat) : Int) - 1 = ((q + 1 : Nat) : Int) := by omega
  unfold poolP
  rw [e2, e1, p1]
  dsimp only
  obtain ⟨E1, hE1⟩ : ∃ E1, up1 D q (poolH (D q) z t) = E1 := ⟨_, rfl⟩
  obtain ⟨S1, hS1⟩ : ∃ S1 : Nat → Int, (fun j => poolG op z.toNat t.toNat (lineAt S (D q) (bhd D (q + 2) q) (poolH (D q) z t) j) ((j : Int) / bhd D (q + 2) q % poolH (D q) z t).toNat : Nat → Int) = S1 := ⟨_, rfl⟩
  rw [hE1, hS1] at p2 ⊢
  have E1q : E1 (q + 1) = D (q + 1) := by rw [← hE1]; exact up1_ne _ _ (by omega)
  have E1q' : E1 q = poolH (D q) z t := by rw [← hE1]; exact up1_at _ _ _
  obtain ⟨p3, p4⟩ := poolA_is (k := q + 1) hm p2 (by omega) hz h1 (by rw [E1q]; exact hd1)
  rw [p3]
  have hE : up1 E1 (q + 1) (poolH (E1 (q + 1)) z t) = poolE q D z t := by rw [E1q, ← hE1]; rfl
  rw [hE] at p4 ⊢
  obtain ⟨tdE, tsE, _⟩ := tok_split p4
  refine ⟨_, rfl, tdE, fun j hj => ?_⟩
  have dpE := dok_pr tdE
  have dp1 := dok_pr (tok_split p2).1
  obtain ⟨E, hEE⟩ : ∃ E, poolE q D z t = E := ⟨_, rfl⟩
  rw [hEE] at hE tdE dpE hj
  have YY : ∀ a b : Nat, poolY q D S z t j a b = S (od D (up1 (up1 (dg E (q + 2) j) q (dg E (q + 2) j q * t + a)) (q + 1) (dg E (q + 2) j (q + 1) * t + b)) (q + 2)).toNat := fun a b => by unfold poolY; rw [hEE]
  rw [hEE]
  have jE : (j : Int) < pr E (q + 2) := by rw [← dpE.1, ← cntT_cast]; omega
  have Eq1 : E (q + 1) = poolH (D (q + 1)) z t := by rw [← hE, up1_at, E1q]
  have Eq0 : E q = poolH (D q) z t := by rw [← hE, up1_ne _ _ (by omega), E1q']
  have EE1 : ∀ i, i ≠ q + 1 → E i = E1 i := fun i hi => by rw [← hE]; exact up1_ne _ _ hi
  have EED : ∀ i, i ≠ q + 1 → i ≠ q → E i = D i := fun i hi hi' => by rw [EE1 i hi, ← hE1]; exact up1_ne _ _ hi'
  have g := dg_rng E (q + 2) dpE.2 (j : Int)
  have g0 := g q (by omega)
  have g1 := g (q + 1) (by omega)
  rw [Eq0] at g0
  rw [Eq1] at g1
  have IN : ∀ a b : Nat, (a : Int) < z → (b : Int) < z → ∀ i, i < q + 2 → 0 ≤ up1 (up1 (dg E (q + 2) j) q (dg E (q + 2) j q * t + a)) (q + 1) (dg E (q + 2) j (q + 1) * t + b) i ∧ up1 (up1 (dg E (q + 2) j) q (dg E (q + 2) j q * t + a)) (q + 1) (dg E (q + 2) j (q + 1) * t + b) i < D i := by
    intro a b ha hb i hi
    by_cases c : i = q + 1
    · subst c; rw [up1_at]; exact pool_in hz h1 hd1 g1.1 g1.2 (by omega) hb
    · rw [up1_ne _ _ c]
      by_cases c' : i = q
      · subst c'; rw [up1_at]; exact pool_in hz h1 hd g0.1 g0.2 (by omega) ha
      · rw [up1_ne _ _ c', ← EED i c c']; exact g i hi
  have YN : ∀ a b : Nat, (a : Int) < z → (b : Int) < z → isN (poolY q D S z t j a b) := by
    intro a b ha hb
    rw [YY]
    have o := od_rng D _ (q + 2) (IN a b ha hb)
    exact tw _ (by have := dp.1; omega)
  refine ⟨fun a b ha hb => ⟨YN a b ha hb, IN a b ha hb⟩, ?_⟩
  rw [← fo_swap hm (fun a ha b hb => YN a b (by omega) (by omega))]
  have ia : (j : Int) / bhd E1 (q + 2) (q + 1) % poolH (E1 (q + 1)) z t = dg E (q + 2) j (q + 1) := by
    rw [dg_axis (by omega) dpE.2 (j : Int) (by omega) jE, Eq1, E1q, ← hE, bhd_up1]
  show fo (two1 op) (fun u => lineAt S1 (E1 (q + 1)) (bhd E1 (q + 2) (q + 1)) (poolH (E1 (q + 1)) z t) j (((j : Int) / bhd E1 (q + 2) (q + 1) % poolH (E1 (q + 1)) z t).toNat * t.toNat + u)) (z.toNat - 1) = _
  rw [ia]
  refine fo_same (fun b hb => ?_)
  have hb' : (b : Int) < z := by omega
  have ub := pool_in (i := dg E (q + 2) j (q + 1)) (u := (b : Int)) hz h1 hd1 g1.1 g1.2 (by omega) hb'
  have cu : (((dg E (q + 2) j (q + 1)).toNat * t.toNat + b : Nat) : Int) = dg E (q + 2) j (q + 1) * t + b := by
    rw [Int.natCast_add, Int.natCast_mul, Int.toNat_of_nonneg g1.1, Int.toNat_of_nonneg (show 0 ≤ t by omega)]
  unfold lineAt
  rw [cu]
  have back1 : up1 E (q + 1) (E1 (q + 1)) = E1 := by rw [← hE, up1_up1, up1_self]
  have om := od_moved (D := E) (a := q + 1) (by omega) dpE.2 (E1 (q + 1)) (dg E (q + 2) j (q + 1) * t + b) (j : Int) (by omega) jE
  rw [back1, Eq1, show bhd E (q + 2) (q + 1) = bhd E1 (q + 2) (q + 1) by rw [← hE, bhd_up1], show poolH (D (q + 1)) z t = poolH (E1 (q + 1)) z t by rw [E1q]] at om
  rw [← om]
  have inI : ∀ i, i < q + 2 → 0 ≤ up1 (dg E (q + 2) j) (q + 1) (dg E (q + 2) j (q + 1) * t + b) i ∧ up1 (dg E (q + 2) j) (q + 1) (dg E (q + 2) j (q + 1) * t + b) i < E1 i := by
    intro i hi
    by_cases c : i = q + 1
    · subst c; rw [up1_at, E1q]; exact ub
    · rw [up1_ne _ _ c, ← EE1 i c]; exact g i hi
  have oI := od_rng E1 _ (q + 2) inI
  obtain ⟨j', hj'⟩ : ∃ j' : Nat, od E1 (up1 (dg E (q + 2) j) (q + 1) (dg E (q + 2) j (q + 1) * t + b)) (q + 2) = j' := ⟨(od E1 (up1 (dg E (q + 2) j) (q + 1) (dg E (q + 2) j (q + 1) * t + b)) (q + 2)).toNat, by omega⟩
  have do1 := dg_od E1 _ (q + 2) inI
  rw [hj'] at oI do1 ⊢
  rw [Int.toNat_natCast, ← hS1]
  have ib : (j' : Int) / bhd D (q + 2) q % poolH (D q) z t = dg E (q + 2) j q := by
    have := dg_axis (D := E1) (a := q) (r := q + 2) (by omega) dp1.2 (j' : Int) (by omega) oI.2
    rw [do1 q (by omega), up1_ne _ _ (by omega), E1q', show bhd E1 (q + 2) q = bhd D (q + 2) q by rw [← hE1, bhd_up1]] at this
    exact this.symm
  show fo (two1 op) (fun u => lineAt S (D q) (bhd D (q + 2) q) (poolH (D q) z t) j' (((j' : Int) / bhd D (q + 2) q % poolH (D q) z t).toNat * t.toNat + u)) (z.toNat - 1) = _
  rw [ib]
  refine fo_same (fun a ha => ?_)
  have ca : (((dg E (q + 2) j q).toNat * t.toNat + a : Nat) : Int) = dg E (q + 2) j q * t + a := by
    rw [Int.natCast_add, Int.natCast_mul, Int.toNat_of_nonneg g0.1, Int.toNat_of_nonneg (show 0 ≤ t by omega)]
  unfold lineAt
  rw [ca, YY]
  have back2 : up1 E1 q (D q) = D := by rw [← hE1, up1_up1, up1_self]
  have om2 := od_moved (D := E1) (a := q) (r := q + 2) (by omega) dp1.2 (D q) (dg E (q + 2) j q * t + a) (j' : Int) (by omega) oI.2
  rw [back2, E1q', show bhd E1 (q + 2) q = bhd D (q + 2) q by rw [← hE1, bhd_up1]] at om2
  rw [← om2]
  congr 2
  rw [up1_swap _ _ _ (show q ≠ q + 1 by omega)]
  refine od_same (fun i hi => rfl) (fun i hi => ?_)
  by_cases c : i = q
  · subst c; rw [up1_at, up1_at]
  · rw [up1_ne _ _ c, up1_ne _ _ c]; exact do1 i hi
theorem poolP_le (op : Int) (r s : Nat) (D S : Nat → Int) (z t : Int) : (poolP op r s D S z t).r ≤ r ∧ (((poolP op r s D S z t).s : Nat) : Int) ≤ 4096 := by
  unfold poolP
  have a := poolA_le op r s D S ((r : Int) - 2) z t
  have b := poolA_le op (poolA op r s D S ((r : Int) - 2) z t).r (poolA op r s D S ((r : Int) - 2) z t).s (poolA op r s D S ((r : Int) - 2) z t).D (poolA op r s D S ((r : Int) - 2) z t).S ((r : Int) - 1) z t
  exact ⟨Nat.le_trans b.1 a.1, b.2⟩
end Vo
end Go.Proofs.Ytdenfcckmpkomaa
