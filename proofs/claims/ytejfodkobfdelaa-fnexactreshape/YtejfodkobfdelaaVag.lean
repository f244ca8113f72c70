/- Whole views: plain; Whole on the model's side. -/
import Derived.Test.YtejfodkobfdelaaVaf
import Derived.Deep.RegionLaw
namespace Go.Proofs.Ytejfodkobfdelaa
namespace Vo
open Go.ChangeShapes Go.WideShapes Go.ChangeAt Go.RowKit Go.Joins
open Vl Vp Vr
set_option linter.unusedVariables false
set_option linter.unusedSimpArgs false

/-- the product of the last k lengths -/
def bh (D : Nat → Int) (r : Nat) : Nat → Int | 0 => 1 | k + 1 => bh D r k * D (r - 1 - k)
theorem pr_front (E : Nat → Int) (m : Nat) : pr E (m + 1) = E 0 * pr (fun t => E (t + 1)) m := by
  induction m with
  | zero => simp [pr]
  | succ m ih =>
    have e : pr E (m + 1 + 1) = pr E (m + 1) * E (m + 1) := rfl
    rw [e, ih]
    simp only [pr]
    rw [Int.mul_assoc]
theorem bh_seg (D : Nat → Int) (r m : Nat) (hm : m ≤ r) : bh D r m = pr (fun t => D (r - m + t)) m := by
  induction m with
  | zero => rfl
  | succ m ih =>
    simp only [bh]
    rw [ih (by omega), pr_front, Int.mul_comm]
    congr 1
    · congr 1; omega
    · exact pr_same (fun j hj => by congr 1; omega)
theorem pr_add (D : Nat → Int) (a b : Nat) : pr D (a + b) = pr D a * pr (fun t => D (a + t)) b := by
  induction b with
  | zero => simp [pr]
  | succ b ih =>
    have e : pr D (a + (b + 1)) = pr D (a + b) * D (a + b) := rfl
    rw [e, ih]; simp only [pr]; rw [Int.mul_assoc]
theorem bh_le {D : Nat → Int} {r : Nat} (h : ∀ j, j < r → 1 ≤ D j) (m : Nat) (hm : m ≤ r) : 1 ≤ bh D r m ∧ bh D r m ≤ pr D r := by
  rw [bh_seg D r m hm]
  have p1 := pr_pos (D := D) (r := r - m) (fun j hj => h j (by omega))
  have p2 := pr_pos (D := fun t => D (r - m + t)) (r := m) (fun j hj => h _ (by omega))
  have e := pr_add D (r - m) m
  rw [show r - m + m = r by omega] at e
  refine ⟨p2, ?_⟩
  rw [e]
  have := Int.mul_le_mul_of_nonneg_right p1 (show 0 ≤ pr (fun t => D (r - m + t)) m by omega)
  omega
/-- the size of the lengths behind an axis -/
theorem tail_size {D : Nat → Int} {r i : Nat} (hi : i < r) (h : dok r D = true) : szR (fun t => D (i + 1 + t)) (r - (i + 1)) = bh D r (r - 1 - i) := by
  have hd : ∀ j, j < r → 1 ≤ D j := fun j hj => (dok_len h hj).1
  have hp : pr D r ≤ 4096 := by
    have := (dok_iff.1 h).2
    rcases szR_cases D r with q | ⟨_, q, _, q4⟩
    · omega
    · omega
  have hb := bh_le hd (r - 1 - i) (by omega)
  have e := bh_seg D r (r - 1 - i) (by omega)
  rw [show r - (r - 1 - i) = i + 1 by omega] at e
  rw [show r - (i + 1) = r - 1 - i by omega]
  -- where all are lengths and the product fits, szR is the product
  have key : ∀ (E : Nat → Int) (m : Nat), (∀ j, j < m → 1 ≤ E j) → pr E m ≤ 4096 → szR E m = pr E m := by
    intro E m
    induction m with
    | zero => intro _ _; rfl
    | succ m ih =>
      intro h1 h2
      have a1 := pr_pos (D := E) (r := m) (fun j hj => h1 j (by omega))
      have a2 := h1 m (by omega)
      have a3 : pr E m ≤ pr E m * E m := by
        have := Int.mul_le_mul_of_nonneg_left a2 (show 0 ≤ pr E m by omega)
        omega
      have a4 : pr E (m + 1) = pr E m * E m := rfl
      have i1 := ih (fun j hj => h1 j (by omega)) (by omega)
      rw [szR_next (by omega) a2 (by rw [i1]; omega), i1]; rfl
  rw [key _ _ (fun j hj => hd _ (by omega)) (by omega), e]
def stW (D : Nat → Int) (r : Nat) : Nat → Int := fun j => if D j = 1 then 0 else bh D r (r - 1 - j)
/-- the whole view of these lengths -/
def wholeV (r : Nat) (D : Nat → Int) : PV := if dok r D = true then ⟨r, r, D, stW D r, 0, szR D r⟩ else PV.zero
theorem wholeV_no {r : Nat} {D : Nat → Int} (h : dok r D = false) : wholeV r D = PV.zero := by unfold wholeV; rw [h]; simp
theorem wholeV_yes {r : Nat} {D : Nat → Int} (h : dok r D = true) : wholeV r D = ⟨r, r, D, stW D r, 0, szR D r⟩ := by unfold wholeV; rw [if_pos h]
theorem l3Ints (B : Nat) (ad : Addr) (r cap : Nat) (D : Nat → Int) (w : World) (h : Ints B w (some ad) r D) (hB : B ≤ w.heap.size) (hr : (r : Int) ≤ 1048576) :
    Calls Try.prog 27 #[.slice (some ad) r cap] w fun e w' => ∃ v, e = .returned v ∧ RowV w.heap.size w' v r D ∧ Below w.heap.size w w' := by
  obtain ⟨i0, hi0, hz0, hz1, hz2⟩ := info_parts infoInt
  have hbd : ∀ j, j < r → bd (D j) := fun j hj => h.bd j hj
  have H := hide h
  have HB := hide hbd
  clear h hbd
  have hown0 : (w.alloc (.cells #[] 3)).ownsRow w.heap.size 3 1 (.slice (some ⟨w.heap.size, 0, none⟩) 0 0) 0 [] :=
    ⟨rfl, .inr ⟨w.heap.size, 0, #[], rfl, Nat.le_refl _, heap_alloc_new w _, Nat.le_refl _, by simp [maxLen], rfl, rfl⟩⟩
  have B0 := hide (show Below w.heap.size w (w.alloc (.cells #[] 3)) from (Below.refl _ _).alloc (Nat.le_refl _) _)
  have hnews := hide (ints_of (H.out.below (B0.out.mono hB)) rfl)
  go_enter Try.func27, Try.ntmps27
  go_wp2_with (at_builtin; refine wpList_append_own _ rfl _ _ 22 rfl w.heap.size 3 i0 (.int .i64 0) 1 8 Try.underlying22 hi0 hz0 hz1 hz2 rfl (by decide) _ _ _ rfl hown0 ad r cap (ints r D) rfl (by rw [ints_len]; omega) hnews.out (ints_one r D) (by unfold maxLen; omega) (by omega) (by simp) ?_; intro v' w1 hown1 hgrow1 _)
  go_ret
  rw [List.nil_append, Nat.zero_add] at hown1
  exact ⟨v', rfl, ⟨hown1, HB.out⟩, B0.out.grown hgrow1 (by simp) (by rintro k ⟨⟩; exact Nat.le_refl _)⟩
end Vo
end Go.Proofs.Ytejfodkobfdelaa
