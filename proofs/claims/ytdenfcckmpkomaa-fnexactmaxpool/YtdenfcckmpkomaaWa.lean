/- Pools: plain. -/
import Derived.Test.YtdenfcckmpkomaaUk
import Derived.Test.YtdenfcckmpkomaaTi
namespace Go.Proofs.Ytdenfcckmpkomaa
namespace Vo
open Go.ChangeShapes Go.WideShapes Go.ChangeAt Go.RowKit Go.Joins
open Vl Vp Vr
set_option linter.unusedVariables false
set_option linter.unusedSimpArgs false

/-- numbers joined, one behind the other -/
def fo (f : Int → Int → Int) (g : Nat → Int) : Nat → Int | 0 => g 0 | m + 1 => f (fo f g m) (g (m + 1))
/-- .. joined to what there is -/
def fo2 (f : Int → Int → Int) (c : Int) (g : Nat → Int) : Nat → Int | 0 => c | m + 1 => f (fo2 f c g m) (g m)
/-- neither order nor brackets matter -/
structure Mix (f : Int → Int → Int) : Prop where
  isN : ∀ x y, isN x → isN y → isN (f x y)
  comm : ∀ x y, Vo.isN x → Vo.isN y → f x y = f y x
  assoc : ∀ x y z, Vo.isN x → Vo.isN y → Vo.isN z → f (f x y) z = f x (f y z)
theorem mix1 : Mix (two1 1) := by
  have e : ∀ x y, two1 1 x y = (x + y) % 2147483647 := fun x y => by unfold two1; simp
  refine ⟨fun x y hx hy => two1_rng hx hy, fun x y _ _ => by rw [e, e, Int.add_comm], fun x y z _ _ _ => ?_⟩
  rw [e, e, e, e]
  omega
theorem mix5 : Mix (two1 5) := by
  have e : ∀ x y, two1 5 x y = if Base.sg (x % 2147483647) < Base.sg (y % 2147483647) then y else x := fun x y => by unfold two1; simp
  refine ⟨fun x y hx hy => two1_rng hx hy, fun x y hx hy => ?_, fun x y z hx hy hz => ?_⟩
  · rw [e, e]
    have a := sg_back hx
    have b := sg_back hy
    by_cases c1 : Base.sg (x % 2147483647) < Base.sg (y % 2147483647)
    · rw [if_pos c1, if_neg (by omega)]
    · rw [if_neg c1]
      by_cases c2 : Base.sg (y % 2147483647) < Base.sg (x % 2147483647)
      · rw [if_pos c2]
      · rw [if_neg c2, ← a, ← b, show Base.sg (x % 2147483647) = Base.sg (y % 2147483647) by omega]
  · by_cases c1 : Base.sg (x % 2147483647) < Base.sg (y % 2147483647)
    · by_cases c2 : Base.sg (y % 2147483647) < Base.sg (z % 2147483647)
      · rw [e x y, if_pos c1, e y z, if_pos c2, e x z, if_pos (by omega)]
      · rw [e x y, if_pos c1, e y z, if_neg c2, e x y, if_pos c1]
    · by_cases c2 : Base.sg (y % 2147483647) < Base.sg (z % 2147483647)
      · rw [e x y, if_neg c1, e y z, if_pos c2]
      · rw [e x y, if_neg c1, e y z, if_neg c2, e x y, if_neg c1, e x z, if_neg (by omega)]
theorem fo_isN {f : Int → Int → Int} (h : Mix f) {g : Nat → Int} {m : Nat} (hg : ∀ i, i ≤ m → isN (g i)) : isN (fo f g m) := by
  induction m with
  | zero => exact hg 0 (Nat.le_refl _)
  | succ m ih => exact h.isN _ _ (ih (fun i hi => hg i (by omega))) (hg _ (Nat.le_refl _))
theorem fo_same {f : Int → Int → Int} {g k : Nat → Int} {m : Nat} (h : ∀ i, i ≤ m → g i = k i) : fo f g m = fo f k m := by
  induction m with
  | zero => exact h 0 (Nat.le_refl _)
  | succ m ih =>
    show f (fo f g m) (g (m + 1)) = f (fo f k m) (k (m + 1))
    rw [ih (fun i hi => h i (by omega)), h (m + 1) (Nat.le_refl _)]
theorem mix_four {f : Int → Int → Int} (h : Mix f) {a b c d : Int} (ha : isN a) (hb : isN b) (hc : isN c) (hd : isN d) : f (f a b) (f c d) = f (f a c) (f b d) := by
  rw [h.assoc a b _ ha hb (h.isN _ _ hc hd), ← h.assoc b c d hb hc hd, h.comm b c hb hc, h.assoc c b d hc hb hd, ← h.assoc a c _ ha hc (h.isN _ _ hb hd)]
theorem fo_mul {f : Int → Int → Int} (h : Mix f) {g k : Nat → Int} {m : Nat} (hg : ∀ i, i ≤ m → isN (g i)) (hk : ∀ i, i ≤ m → isN (k i)) : fo f (fun i => f (g i) (k i)) m = f (fo f g m) (fo f k m) := by
  induction m with
  | zero => rfl
  | succ m ih =>
    show f (fo f (fun i => f (g i) (k i)) m) (f (g (m + 1)) (k (m + 1))) = f (f (fo f g m) (g (m + 1))) (f (fo f k m) (k (m + 1)))
    rw [ih (fun i hi => hg i (by omega)) (fun i hi => hk i (by omega))]
    exact mix_four h (fo_isN h (fun i hi => hg i (by omega))) (fo_isN h (fun i hi => hk i (by omega))) (hg _ (Nat.le_refl _)) (hk _ (Nat.le_refl _))
theorem fo_swap {f : Int → Int → Int} (h : Mix f) {y : Nat → Nat → Int} {m n : Nat} (hy : ∀ a, a ≤ m → ∀ b, b ≤ n → isN (y a b)) : fo f (fun b => fo f (fun a => y a b) m) n = fo f (fun a => fo f (fun b => y a b) n) m := by
  induction n with
  | zero => rfl
  | succ n ih =>
    show f (fo f (fun b => fo f (fun a => y a b) m) n) (fo f (fun a => y a (n + 1)) m) = fo f (fun a => f (fo f (fun b => y a b) n) (y a (n + 1))) m
    rw [ih (fun a ha b hb => hy a ha b (by omega)), fo_mul h (fun a ha => fo_isN h (fun b hb => hy a ha b (by omega))) (fun a ha => hy a ha _ (Nat.le_refl _))]
theorem fo2_fo {f : Int → Int → Int} (h : Mix f) {c : Int} {g : Nat → Int} (hc : isN c) : ∀ m, (∀ i, i ≤ m → isN (g i)) → fo2 f c g (m + 1) = f c (fo f g m) := by
  intro m
  induction m with
  | zero => intro _; rfl
  | succ m ih =>
    intro hg
    show f (fo2 f c g (m + 1)) (g (m + 1)) = f c (f (fo f g m) (g (m + 1)))
    rw [ih (fun i hi => hg i (by omega)), h.assoc c _ _ hc (fo_isN h (fun i hi => hg i (by omega))) (hg _ (Nat.le_refl _))]
/-- what the model has come to at row a, number b -/
def poolC (f : Int → Int → Int) (z : Nat) (y : Nat → Nat → Int) : Nat → Nat → Int
  | 0, 0 => 0
  | 0, b + 1 => fo f (y 0) b
  | a + 1, b => fo2 f (fo f (fun i => fo f (y i) (z - 1)) a) (y (a + 1)) b
theorem poolC_first {f : Int → Int → Int} {z : Nat} {y : Nat → Nat → Int} : poolC f z y 0 1 = y 0 0 := rfl
theorem poolC_step {f : Int → Int → Int} {z : Nat} {y : Nat → Nat → Int} {a b : Nat} (h : 0 < a + b) : poolC f z y a (b + 1) = f (poolC f z y a b) (y a b) := by
  match a, b with
  | 0, 0 => omega
  | 0, b + 1 => rfl
  | a + 1, b => rfl
theorem poolC_row {f : Int → Int → Int} (h : Mix f) {z : Nat} (hz : 1 ≤ z) {y : Nat → Nat → Int} {a : Nat} (hy : ∀ i, i ≤ a → ∀ b, b < z → isN (y i b)) : poolC f z y a z = poolC f z y (a + 1) 0 := by
  obtain ⟨m, rfl⟩ : ∃ m, z = m + 1 := ⟨z - 1, by omega⟩
  match a with
  | 0 => rfl
  | a + 1 =>
    show fo2 f (fo f (fun i => fo f (y i) (m + 1 - 1)) a) (y (a + 1)) (m + 1) = f (fo f (fun i => fo f (y i) (m + 1 - 1)) a) (fo f (y (a + 1)) (m + 1 - 1))
    rw [fo2_fo h (fo_isN h (fun i hi => fo_isN h (fun b hb => hy i (by omega) b (by omega)))) m (fun i hi => hy _ (Nat.le_refl _) i (by omega))]
    rfl
theorem poolC_end {f : Int → Int → Int} {z : Nat} (hz : 1 ≤ z) {y : Nat → Nat → Int} : poolC f z y z 0 = fo f (fun a => fo f (y a) (z - 1)) (z - 1) := by
  obtain ⟨m, rfl⟩ : ∃ m, z = m + 1 := ⟨z - 1, by omega⟩
  rfl
theorem fo2_isN {f : Int → Int → Int} (h : Mix f) {c : Int} {g : Nat → Int} (hc : isN c) {m : Nat} (hg : ∀ i, i < m → isN (g i)) : isN (fo2 f c g m) := by
  induction m with
  | zero => exact hc
  | succ m ih => exact h.isN _ _ (ih (fun i hi => hg i (by omega))) (hg _ (by omega))
theorem poolC_isN {f : Int → Int → Int} (h : Mix f) {z a b : Nat} (hz : 1 ≤ z) {y : Nat → Nat → Int} (hb : b ≤ z) (hy : ∀ i, i ≤ a → ∀ b, b < z → isN (y i b) ∨ (i = a ∧ a = z)) (ha : a < z ∨ b = 0) : isN (poolC f z y a b) := by
  match a, b with
  | 0, 0 => exact ⟨by simp [poolC], by simp [poolC]⟩
  | 0, b + 1 => exact fo_isN h (fun i hi => (hy 0 (Nat.le_refl _) i (by omega)).resolve_right (by omega))
  | a + 1, b =>
    refine fo2_isN h (fo_isN h (fun i hi => fo_isN h (fun b' hb' => (hy i (by omega) b' (by omega)).resolve_right (by omega)))) (fun i hi => ?_)
    exact (hy (a + 1) (Nat.le_refl _) i (by omega)).resolve_right (by omega)
/-- what is kept of a window -/
def poolG (op : Int) (z t : Nat) (L : Nat → Int) (i : Nat) : Int := fo (two1 op) (fun u => L (i * t + u)) (z - 1)
/-- pooled along an axis -/
def poolA (op : Int) (r s : Nat) (D S : Nat → Int) (x z t : Int) : PT :=
  if 1 ≤ z ∧ 1 ≤ t ∧ z ≤ lenA r s D S x then lineP r s D S x ((lenA r s D S x - z).tdiv t + 1) (poolG op z.toNat t.toNat) else PT.zero
def poolP (op : Int) (r s : Nat) (D S : Nat → Int) (z t : Int) : PT :=
  poolA op (poolA op r s D S ((r : Int) - 2) z t).r (poolA op r s D S ((r : Int) - 2) z t).s (poolA op r s D S ((r : Int) - 2) z t).D (poolA op r s D S ((r : Int) - 2) z t).S ((r : Int) - 1) z t
theorem poolA_no {op : Int} {r s : Nat} {D S : Nat → Int} {x z t : Int} (h : ¬ (1 ≤ z ∧ 1 ≤ t ∧ z ≤ lenA r s D S x)) : poolA op r s D S x z t = PT.zero := by unfold poolA; rw [if_neg h]
theorem poolA_yes {op : Int} {r s : Nat} {D S : Nat → Int} {x z t : Int} (h : 1 ≤ z ∧ 1 ≤ t ∧ z ≤ lenA r s D S x) : poolA op r s D S x z t = lineP r s D S x ((lenA r s D S x - z).tdiv t + 1) (poolG op z.toNat t.toNat) := by unfold poolA; rw [if_pos h]
theorem poolA_le (op : Int) (r s : Nat) (D S : Nat → Int) (x z t : Int) : (poolA op r s D S x z t).r ≤ r ∧ (((poolA op r s D S x z t).s : Nat) : Int) ≤ 4096 := by
  unfold poolA
  split
  · exact lineP_le _ _ _ _ _ _ _
  · exact ⟨Nat.zero_le _, by simp [PT.zero]⟩
theorem dg_od (D I : Nat → Int) (r : Nat) (h : ∀ j, j < r → 0 ≤ I j ∧ I j < D j) : ∀ j, j < r → dg D r (od D I r) j = I j := by
  induction r with
  | zero => intro j hj; omega
  | succ n ih =>
    intro j hj
    have hn := h n (by omega)
    have e1 : od D I (n + 1) = od D I n * D n + I n := rfl
    rw [e1]
    by_cases c : j = n
    · subst c
      rw [dg_succ_eq, Int.add_comm, Int.add_mul_emod_self_right, Int.emod_eq_of_lt hn.1 hn.2]
    · rw [dg_succ_lt _ _ _ (by omega)]
      have : (od D I n * D n + I n) / D n = od D I n := by
        rw [Int.add_comm, Int.add_mul_ediv_right _ _ (by omega), Int.ediv_eq_zero_of_lt hn.1 hn.2]; omega
      rw [this]
      exact ih (fun j hj => h j (by omega)) j (by omega)
theorem up1_swap (D : Nat → Int) {x y : Nat} (a b : Int) (h : x ≠ y) : up1 (up1 D x a) y b = up1 (up1 D y b) x a := by
  funext t
  unfold up1
  split
  · split
    · omega
    · rfl
  · rfl
theorem pr_le {D E : Nat → Int} : ∀ {r : Nat}, (∀ j, j < r → 1 ≤ E j ∧ E j ≤ D j) → 1 ≤ pr E r ∧ pr E r ≤ pr D r := by
  intro r
  induction r with
  | zero => intro _; exact ⟨Int.le_refl _, Int.le_refl _⟩
  | succ n ih =>
    intro h
    have i := ih (fun j hj => h j (by omega))
    have a := h n (by omega)
    have m := Int.mul_le_mul i.2 a.2 (by omega) (by omega)
    have m1 := Int.mul_le_mul i.1 a.1 (by omega) (by omega)
    exact ⟨by show 1 ≤ pr E n * E n; omega, m⟩
/-- lengths that are no greater -/
theorem dok_le {r : Nat} {D E : Nat → Int} (h : dok r D = true) (he : ∀ j, j < r → 1 ≤ E j ∧ E j ≤ D j) : dok r E = true := by
  have r6 := (dok_iff.1 h).1
  have e := (dok_pr h).1
  have s4 := (szR_rng D r).2
  have key : ∀ n, n ≤ r → pr E n ≤ 4096 → szR E n = pr E n := by
    intro n
    induction n with
    | zero => intro _ _; rfl
    | succ n ih =>
      intro hn hp
      have a := he n (by omega)
      have p := (pr_le (r := n) (fun j hj => he j (by omega))).1
      have hp' : pr E n * E n ≤ 4096 := hp
      have p2 : pr E n * 1 ≤ pr E n * E n := Int.mul_le_mul_of_nonneg_left a.1 (by omega)
      have i := ih (by omega) (by omega)
      show (if szR E n = 0 ∨ E n < 1 ∨ 4096 < szR E n * E n then 0 else szR E n * E n) = pr E n * E n
      rw [i, if_neg (by omega)]
  have p := pr_le he
  rw [dok_iff]
  refine ⟨r6, ?_⟩
  rw [key r (Nat.le_refl _) (by omega)]
  omega
end Vo
end Go.Proofs.Ytdenfcckmpkomaa
