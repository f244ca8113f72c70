/- Fold: plain. -/
import Derived.Test.YtldcacdopijfdabUl
import Derived.Test.YtldcacdopijfdabTx
import Derived.Test.YtldcacdopijfdabVar
namespace Go.Proofs.Ytldcacdopijfdab
namespace Vo
open Go.ChangeShapes Go.WideShapes Go.ChangeAt Go.RowKit Go.Joins
open Vl Vp Vr
set_option linter.unusedVariables false
set_option linter.unusedSimpArgs false

theorem sm_up1 (I S : Nat → Int) {x n : Nat} (h : x < n) (y : Int) : sm (up1 I x y) S n = sm I S n + (y - I x) * S x := by
  induction n with
  | zero => omega
  | succ n ih =>
    show sm (up1 I x y) S n + up1 I x y n * S n = sm I S n + I n * S n + (y - I x) * S x
    by_cases c : x = n
    · subst c
      rw [up1_at, sm_same (J := I) (T := S) (fun j hj => up1_ne I y (by omega)) (fun _ _ => rfl), Int.sub_mul]
      omega
    · rw [ih (by omega), up1_ne I y (by omega)]
      omega
theorem sm_up2 (I S : Nat → Int) {x n : Nat} (h : x < n) (m : Int) : sm I (up1 S x m) n = sm I S n + I x * (m - S x) := by
  induction n with
  | zero => omega
  | succ n ih =>
    show sm I (up1 S x m) n + I n * up1 S x m n = sm I S n + I n * S n + I x * (m - S x)
    by_cases c : x = n
    · subst c
      rw [up1_at, sm_same (J := I) (T := S) (fun _ _ => rfl) (fun j hj => up1_ne S m (by omega)), Int.mul_sub]
      omega
    · rw [ih (by omega), up1_ne S m (by omega)]
      omega
/-- what Fold asks of the lengths, of an axis ahead of the last -/
def FoldOk (q : Nat) (D : Nat → Int) (k : Nat) (t n : Int) : Prop := 1 ≤ t ∧ D q ≤ n ∧ (n - D q).tdiv t + 1 = D k ∧ dok q (up1 D k n) = true
instance (q : Nat) (D : Nat → Int) (k : Nat) (t n : Int) : Decidable (FoldOk q D k t n) := by unfold FoldOk; infer_instance
/-- the index to which a number is added -/
def foldX (q : Nat) (D : Nat → Int) (k : Nat) (t : Int) (i : Int) : Nat → Int := up1 (dg D (q + 1) i) k (dg D (q + 1) i k * t + dg D (q + 1) i q)
/-- where it stands -/
def foldI (q : Nat) (D : Nat → Int) (k : Nat) (t n : Int) (i : Nat) : Int := od (up1 D k n) (foldX q D k t i) q
def foldP (r s : Nat) (D S : Nat → Int) (x t n : Int) : PT :=
  if tok r s D S = true ∧ 0 ≤ x ∧ x + 1 < r ∧ FoldOk (r - 1) D x.toNat t n then ⟨r - 1, cntT (r - 1) (up1 D x.toNat n), up1 D x.toNat n, fun p => scaS (foldI (r - 1) D x.toNat t n) S (p : Int) s⟩ else PT.zero
theorem foldP_no {r s : Nat} {D S : Nat → Int} {x t n : Int} (h : ¬ (tok r s D S = true ∧ 0 ≤ x ∧ x + 1 < r ∧ FoldOk (r - 1) D x.toNat t n)) : foldP r s D S x t n = PT.zero := by unfold foldP; rw [if_neg h]
theorem foldP_yes {q k s : Nat} {D S : Nat → Int} {t n : Int} (h : tok (q + 1) s D S = true) (hk : k < q) (hf : FoldOk q D k t n) : foldP (q + 1) s D S (k : Int) t n = ⟨q, cntT q (up1 D k n), up1 D k n, fun p => scaS (foldI q D k t n) S (p : Int) s⟩ := by
  unfold foldP
  rw [if_pos ⟨h, by omega, by omega, by rw [Int.toNat_natCast]; exact hf⟩, Int.toNat_natCast]
  rfl
theorem foldP_le (r s : Nat) (D S : Nat → Int) (x t n : Int) : (foldP r s D S x t n).r ≤ r ∧ (((foldP r s D S x t n).s : Nat) : Int) ≤ 4096 := by
  unfold foldP
  split
  · exact ⟨Nat.sub_le _ _, cntT_le _ _⟩
  · exact ⟨Nat.zero_le _, by simp [PT.zero]⟩
theorem foldX_rng {q k : Nat} {D : Nat → Int} {t n : Int} (hk : k < q) (hd : ∀ j, j < q + 1 → 1 ≤ D j) (h : FoldOk q D k t n) (i : Int) : ∀ j, j < q → 0 ≤ foldX q D k t i j ∧ foldX q D k t i j < up1 D k n j := by
  intro j hj
  have g := dg_rng D (q + 1) hd i
  obtain ⟨h1, h2, h3, h4⟩ := h
  by_cases c : j = k
  · subst c
    unfold foldX
    rw [up1_at, up1_at]
    have a := g j (by omega)
    have b := g q (by omega)
    have e : (n - D q).tdiv t = (n - D q) / t := Int.tdiv_eq_ediv_of_nonneg (by omega)
    rw [e] at h3
    have m := Int.ediv_mul_le (n - D q) (show t ≠ 0 by omega)
    have m2 : dg D (q + 1) i j * t ≤ (n - D q) / t * t := Int.mul_le_mul_of_nonneg_right (by omega) (by omega)
    have m3 : 0 ≤ dg D (q + 1) i j * t := Int.mul_nonneg a.1 (by omega)
    omega
  · unfold foldX
    rw [up1_ne _ _ c, up1_ne _ _ c]
    exact g j (by omega)
theorem foldI_rng {q k : Nat} {D : Nat → Int} {t n : Int} (hk : k < q) (hd : ∀ j, j < q + 1 → 1 ≤ D j) (h : FoldOk q D k t n) (i : Nat) : 0 ≤ foldI q D k t n i ∧ foldI q D k t n i < ((cntT q (up1 D k n) : Nat) : Int) := by
  rw [cntT_cast, (dok_pr h.2.2.2).1]
  exact od_rng _ _ _ (foldX_rng hk hd h i)
/-- strides of a whole view -/
theorem stW_le {q k : Nat} {E : Nat → Int} (hk : k < q) (h : dok q E = true) : 0 ≤ stW E q k ∧ stW E q k * E k ≤ 4096 := by
  have hd := fun i (hi : i < q) => (dok_len h hi).1
  have e := (dok_pr h).1
  have sz := szR_rng E q
  unfold stW
  split
  · omega
  · have b1 := bh_le hd (q - 1 - k) (by omega)
    have b2 := bh_le hd (q - 1 - k + 1) (by omega)
    have e2 : bh E q (q - 1 - k + 1) = bh E q (q - 1 - k) * E (q - 1 - (q - 1 - k)) := rfl
    rw [show q - 1 - (q - 1 - k) = k by omega] at e2
    rw [← e2]
    omega
/-- the strides of the windows -/
def fldS (q : Nat) (D : Nat → Int) (k : Nat) (t n : Int) : Nat → Int := upd (upd (stW (up1 D k n) q) k (so (D k) (IntKind.i64.wrap (stW (up1 D k n) q k * t)))) q (so (D q) (stW (up1 D k n) q k))
theorem fold_stride {q k : Nat} {D : Nat → Int} {t n : Int} (hk : k < q) (hd : ∀ j, j < q + 1 → 1 ≤ D j) (h : FoldOk q D k t n) (hc : D k ≠ 1) : 0 ≤ stW (up1 D k n) q k * t ∧ stW (up1 D k n) q k * t ≤ 4096 := by
  obtain ⟨h1, h2, h3, h4⟩ := h
  have s := stW_le hk h4
  rw [up1_at] at s
  have e : (n - D q).tdiv t = (n - D q) / t := Int.tdiv_eq_ediv_of_nonneg (by omega)
  rw [e] at h3
  have d1 := hd k (by omega)
  have d2 := hd q (by omega)
  have m := Int.ediv_mul_le (n - D q) (show t ≠ 0 by omega)
  have m2 : 1 * t ≤ (n - D q) / t * t := Int.mul_le_mul_of_nonneg_right (by omega) (by omega)
  have m3 : stW (up1 D k n) q k * t ≤ stW (up1 D k n) q k * n := Int.mul_le_mul_of_nonneg_left (by omega) s.1
  exact ⟨Int.mul_nonneg s.1 (by omega), by omega⟩
theorem fold_place {q k : Nat} {D : Nat → Int} {t n : Int} (hk : k < q) (hd : ∀ j, j < q + 1 → 1 ≤ D j) (h : FoldOk q D k t n) (i : Int) : rel D (fldS q D k t n) (q + 1) i = od (up1 D k n) (foldX q D k t i) q := by
  have g := dg_rng D (q + 1) hd i
  rw [← sm_dg, ← sm_whole (foldX_rng hk hd h i)]
  show sm (dg D (q + 1) i) (fldS q D k t n) q + dg D (q + 1) i q * fldS q D k t n q = _
  have e1 : fldS q D k t n q = so (D q) (stW (up1 D k n) q k) := by unfold fldS upd; simp
  have e2 : sm (dg D (q + 1) i) (fldS q D k t n) q = sm (dg D (q + 1) i) (up1 (stW (up1 D k n) q) k (so (D k) (IntKind.i64.wrap (stW (up1 D k n) q k * t)))) q := sm_same (fun _ _ => rfl) (fun j hj => by
    unfold fldS
    show (if j = q then _ else _) = _
    rw [if_neg (by omega)]
    rfl)
  rw [e1, e2, sm_up2 _ _ hk]
  unfold foldX
  rw [sm_up1 _ _ hk]
  have gk := g k (by omega)
  have gq := g q (by omega)
  have st := fold_stride hk hd h
  generalize stW (up1 D k n) q k = W at *
  have f1 : dg D (q + 1) i k * so (D k) (IntKind.i64.wrap (W * t)) = dg D (q + 1) i k * (W * t) := by
    unfold so
    split
    · rename_i c
      rw [show dg D (q + 1) i k = 0 by omega, Int.zero_mul, Int.zero_mul]
    · rename_i c
      have := st c
      rw [wrap_id (by omega) (by omega)]
  have f2 : dg D (q + 1) i q * so (D q) W = dg D (q + 1) i q * W := by
    unfold so
    split
    · rename_i c
      rw [show dg D (q + 1) i q = 0 by omega, Int.zero_mul, Int.zero_mul]
    · rfl
  rw [Int.mul_sub, f1, f2, Int.sub_mul, Int.add_mul, Int.mul_assoc _ t W, Int.mul_comm t W]
  omega
theorem fold_vok {q k : Nat} {D : Nat → Int} {t n : Int} (hk : k < q) (hD : dok (q + 1) D = true) (h : FoldOk q D k t n) : vok (q + 1) (q + 1) D (fldS q D k t n) 0 (szR (up1 D k n) q) = true := by
  have hd := fun i (hi : i < q + 1) => (dok_len hD hi).1
  have dp := dok_pr h.2.2.2
  have rg := fun i => od_rng (up1 D k n) (foldX q D k t i) q (foldX_rng hk hd h i)
  obtain ⟨k1, _, _, e1⟩ := lo_at (S := fldS q D k t n) (q + 1) hd
  obtain ⟨k2, _, _, e2⟩ := hi_at (S := fldS q D k t n) (q + 1) hd
  have a1 := rg k1
  have a2 := rg k2
  rw [← fold_place hk hd h, e1] at a1
  rw [← fold_place hk hd h, e2] at a2
  have p1 := pr_pos dp.2
  have sz := szR_rng (up1 D k n) q
  have sW := fun j (hj : j < q) => stW_le hj h.2.2.2
  have sB : ∀ j, j < q → 0 ≤ stW (up1 D k n) q j ∧ stW (up1 D k n) q j ≤ 4096 := fun j hj => by
    have a := sW j hj
    have b := Int.mul_le_mul_of_nonneg_left (dp.2 j hj) a.1
    omega
  rw [vok_iff]
  refine ⟨hD, rfl, by omega, by omega, by omega, by omega, fun j hj => ?_, by omega, by omega⟩
  unfold fldS upd
  by_cases c : j = q
  · rw [if_pos c]
    have := sB k hk
    unfold so
    split <;> omega
  · rw [if_neg c]
    by_cases c2 : j = k
    · rw [if_pos c2]
      unfold so
      split
      · omega
      · rename_i c3
        have := fold_stride hk hd h c3
        rw [wrap_id (by omega) (by omega)]
        omega
    · rw [if_neg c2]
      have := sB j (by omega)
      omega
theorem wholeV_vk {r : Nat} {D : Nat → Int} (hD : dok r D = true) : vok r r D (stW D r) 0 (szR D r) = true := by
  have hd := fun i (hi : i < r) => (dok_len hD hi).1
  have dp := dok_pr hD
  have pl : ∀ i, rel D (stW D r) r i = od D (dg D r i) r := fun i => by rw [← sm_dg, sm_whole (dg_rng D r hd i)]
  have rg := fun i => od_rng D (dg D r i) r (dg_rng D r hd i)
  obtain ⟨k1, _, _, e1⟩ := lo_at (S := stW D r) r hd
  obtain ⟨k2, _, _, e2⟩ := hi_at (S := stW D r) r hd
  have a1 := rg k1
  have a2 := rg k2
  rw [← pl, e1] at a1
  rw [← pl, e2] at a2
  have p1 := pr_pos hd
  have sz := szR_rng D r
  rw [vok_iff]
  refine ⟨hD, rfl, by omega, by omega, by omega, by omega, fun j hj => ?_, by omega, by omega⟩
  have a := stW_le hj hD
  have b := Int.mul_le_mul_of_nonneg_left (hd j hj) a.1
  omega
/-- the windows of the whole view of what is made -/
def fldV (q : Nat) (D : Nat → Int) (k : Nat) (t n : Int) : PV :=
  turnedV (wholeV q (up1 D k n)).r (wholeV q (up1 D k n)).s (wholeV q (up1 D k n)).D (wholeV q (up1 D k n)).S (wholeV q (up1 D k n)).o (wholeV q (up1 D k n)).n (winV (wholeV q (up1 D k n)).r (wholeV q (up1 D k n)).s (wholeV q (up1 D k n)).D (wholeV q (up1 D k n)).S (wholeV q (up1 D k n)).o (wholeV q (up1 D k n)).n (k : Int) (D q) t)
theorem fldV_yes {q k : Nat} {D : Nat → Int} {t n : Int} (hk : k < q) (hD : dok (q + 1) D = true) (h : FoldOk q D k t n) : fldV q D k t n = ⟨q + 1, q + 1, upd (upd (up1 D k n) k (D k)) q (D q), fldS q D k t n, 0, szR (up1 D k n) q⟩ := by
  unfold fldV
  rw [wholeV_yes h.2.2.2]
  dsimp only
  have hw : winOk q (up1 D k n) (k : Int) (D q) t := by
    unfold winOk
    rw [Int.toNat_natCast, up1_at]
    exact ⟨by omega, by omega, (dok_len hD (by omega)).1, h.1, h.2.1⟩
  rw [winV_yes hw, Int.toNat_natCast, up1_at, h.2.2.1]
  unfold turnedV
  rw [if_pos (wholeV_vk h.2.2.2)]
  unfold PV.orZero PV.ok
  dsimp only
  rw [if_pos]
  · rfl
  · rw [← fold_vok hk hD h]
    refine vok_same (fun j hj => ?_) (fun j hj => rfl)
    unfold upd
    split
    · rename_i c; rw [c]
    · split
      · rename_i c; rw [c]
      · rename_i c; exact up1_ne D n c
theorem fldV_D {q k : Nat} (D : Nat → Int) (n : Int) : upd (upd (up1 D k n) k (D k)) q (D q) = D := by
  funext j
  unfold upd
  split
  · rename_i c; rw [c]
  · split
    · rename_i c; rw [c]
    · rename_i c; exact up1_ne D n c
theorem fldV_is {q k : Nat} {D : Nat → Int} {t n : Int} (hk : k < q) (hD : dok (q + 1) D = true) (h : FoldOk q D k t n) : fldV q D k t n = ⟨q + 1, q + 1, D, fldS q D k t n, 0, szR (up1 D k n) q⟩ := by
  rw [fldV_yes hk hD h, fldV_D]
theorem fldV_le (q : Nat) (D : Nat → Int) (k : Nat) (t n : Int) : ((fldV q D k t n).r : Int) ≤ 1048576 ∧ ((fldV q D k t n).s : Int) ≤ 1048576 := by
  unfold fldV turnedV PV.orZero
  split
  · split
    · rename_i h1 h2
      have v := vok_iff.1 (show vok _ _ _ _ _ _ = true from h2)
      have a := (dok_iff.1 v.1).1
      have b := v.2.1
      omega
    · exact ⟨by simp [PV.zero], by simp [PV.zero]⟩
  · exact ⟨by simp [PV.zero], by simp [PV.zero]⟩
/-- the test: windows of these lengths -/
theorem fldV_iff {q k : Nat} {D : Nat → Int} {t n : Int} (hk : k < q) (hD : dok (q + 1) D = true) : ((fldV q D k t n).r = q + 1 ∧ ∀ j, j < (fldV q D k t n).r → (fldV q D k t n).D j = D j) ↔ FoldOk q D k t n := by
  constructor
  · rintro ⟨h1, h2⟩
    by_cases hE : dok q (up1 D k n) = true
    · by_cases hw : winOk q (up1 D k n) (k : Int) (D q) t
      · have hw' := hw
        unfold winOk at hw'
        rw [Int.toNat_natCast, up1_at] at hw'
        have e : (fldV q D k t n).D k = (n - D q).tdiv t + 1 := by
          unfold fldV turnedV at h1 ⊢
          rw [wholeV_yes hE] at h1 ⊢
          dsimp only at h1 ⊢
          rw [if_pos (wholeV_vk hE)] at h1 ⊢
          unfold PV.orZero at h1 ⊢
          split at h1
          · rename_i c
            rw [if_pos c, winV_yes hw, Int.toNat_natCast, up1_at]
            unfold upd
            dsimp only
            rw [if_neg (by omega), if_pos rfl]
          · exact absurd h1 (by simp [PV.zero])
        rw [h1] at h2
        exact ⟨hw'.2.2.2.1, hw'.2.2.2.2, by rw [← e]; exact h2 k (by omega), hE⟩
      · exfalso
        unfold fldV turnedV at h1
        rw [wholeV_yes hE] at h1
        dsimp only at h1
        rw [if_pos (wholeV_vk hE), winV_no hw] at h1
        unfold PV.orZero at h1
        split at h1 <;> exact absurd h1 (by simp [PV.zero])
    · exfalso
      unfold fldV turnedV at h1
      rw [wholeV_no (by simpa using hE)] at h1
      rw [if_neg (fun e => by have := (vok_iff.1 e).2.2.1; exact absurd this (by decide))] at h1
      exact absurd h1 (by simp [PV.zero])
  · intro h
    rw [fldV_is hk hD h]
    exact ⟨rfl, fun j _ => rfl⟩
theorem fold_plc {q k : Nat} {D : Nat → Int} {t n : Int} (hk : k < q) (hD : dok (q + 1) D = true) (h : FoldOk q D k t n) (i : Nat) : plcN D (fldS q D k t n) (q + 1) 0 i = foldI q D k t n i := by
  unfold plcN foldI
  rw [fold_place hk (fun j hj => (dok_len hD hj).1) h, Int.zero_add]
theorem fold_cnt {q k s : Nat} {D : Nat → Int} {t n : Int} (hk : k < q) (hD : dok (q + 1) D = true) (hs : szR D (q + 1) = (s : Int)) (h : FoldOk q D k t n) : cntS (q + 1) (q + 1) D (fldS q D k t n) 0 (szR (up1 D k n) q) = s := by
  unfold cntS
  rw [if_pos (fold_vok hk hD h), hs, Int.toNat_natCast]
end Vo
end Go.Proofs.Ytldcacdopijfdab
