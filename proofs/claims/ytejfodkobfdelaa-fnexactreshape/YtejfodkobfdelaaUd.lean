/- Permute: plain; the search of a list. -/
import Derived.Test.YtejfodkobfdelaaVq
import Derived.Test.YtejfodkobfdelaaVc
import Derived.Test.YtejfodkobfdelaaVaf
namespace Go.Proofs.Ytejfodkobfdelaa
namespace Vo
open Go.ChangeShapes Go.WideShapes Go.ChangeAt Go.RowKit Go.Joins
open Vl Vp Vr
set_option linter.unusedVariables false
set_option linter.unusedSimpArgs false

/-- numbers joined one behind the other -/
def fo (op : Int → Int → Int) (e : Int) (f : Nat → Int) : Nat → Int | 0 => e | n + 1 => op (fo op e f n) (f n)
theorem fo_same {op : Int → Int → Int} {e : Int} {f g : Nat → Int} {n : Nat} (h : ∀ i, i < n → f i = g i) : fo op e f n = fo op e g n := by
  induction n with
  | zero => rfl
  | succ n ih => simp only [fo]; rw [ih (fun i hi => h i (by omega)), h n (by omega)]
/-- a way of n numbers into themselves that meets none twice meets all -/
theorem onto_of_inj : ∀ (r : Nat) (A : Nat → Nat), (∀ i, i < r → A i < r) → (∀ i k, i < r → k < r → A i = A k → i = k) → ∀ x, x < r → ∃ i, i < r ∧ A i = x
  | 0, _, _, _, x, hx => by omega
  | r + 1, A, h, inj, x, hx => by
    have key := onto_of_inj r (fun i => if A i = r then A r else A i) (fun i hi => by
      have h1 := h i (by omega)
      have h2 := h r (by omega)
      have n1 : A i ≠ A r := fun e => by have := inj i r (by omega) (by omega) e; omega
      split
      · omega
      · omega) (fun i k hi hk e => by
      have n1 : A i ≠ A r := fun e => by have := inj i r (by omega) (by omega) e; omega
      have n2 : A k ≠ A r := fun e => by have := inj k r (by omega) (by omega) e; omega
      split at e
      · split at e
        · exact inj i k (by omega) (by omega) (by omega)
        · exact absurd e.symm n2
      · split at e
        · exact absurd e n1
        · exact inj i k (by omega) (by omega) e)
    have hv := h r (by omega)
    by_cases c : x = A r
    · exact ⟨r, by omega, c.symm⟩
    · by_cases c2 : x = r
      · obtain ⟨i, hi, e⟩ := key (A r) (by omega)
        split at e
        · exact ⟨i, by omega, by omega⟩
        · have := inj i r (by omega) (by omega) e
          omega
      · obtain ⟨i, hi, e⟩ := key x (by omega)
        split at e
        · exact absurd e.symm c
        · exact ⟨i, by omega, e⟩
theorem fo_swap {op : Int → Int → Int} {e : Int} (hc : ∀ a b, op a b = op b a) (ha : ∀ a b c, op (op a b) c = op a (op b c)) {g g' : Nat → Int} {j : Nat} : ∀ {r : Nat}, j < r → (∀ i, i < r → i ≠ j → g i = g' i) → op (fo op e g r) (g' j) = op (fo op e g' r) (g j)
  | 0, hj, _ => by omega
  | r + 1, hj, h => by
    simp only [fo]
    by_cases c : j = r
    · subst c
      rw [fo_same (g := g') (fun i hi => h i (by omega) (by omega)), ha, ha, hc (g j)]
    · have ih := fo_swap (op := op) (e := e) hc ha (r := r) (j := j) (g := g) (g' := g') (by omega) (fun i hi hn => h i (by omega) hn)
      rw [h r (by omega) (fun e => c e.symm), ha, hc (g' r), ← ha, ih, ha, hc (g j), ← ha]
/-- the order does not matter -/
theorem fo_perm {op : Int → Int → Int} {e : Int} (hc : ∀ a b, op a b = op b a) (ha : ∀ a b c, op (op a b) c = op a (op b c)) (f : Nat → Int) : ∀ (r : Nat) (A : Nat → Nat), (∀ i, i < r → A i < r) → (∀ i k, i < r → k < r → A i = A k → i = k) → fo op e (fun i => f (A i)) r = fo op e f r
  | 0, _, _, _ => rfl
  | r + 1, A, h, inj => by
    show op (fo op e (fun i => f (A i)) r) (f (A r)) = op (fo op e f r) (f r)
    have hv := h r (by omega)
    by_cases c : A r = r
    · rw [c, fo_perm hc ha f r A (fun i hi => by have := h i (by omega); have n1 : A i ≠ r := fun e => by have := inj i r (by omega) (by omega) (by omega); omega
                                                 omega) (fun i k hi hk e => inj i k (by omega) (by omega) e)]
    · obtain ⟨j, hj, ej⟩ := onto_of_inj (r + 1) A h inj r (by omega)
      have jr : j < r := by
        have : j ≠ r := fun e => by subst e; exact c ej
        omega
      have ih := fo_perm (e := e) hc ha f r (fun i => if i = j then A r else A i) (fun i hi => by
        split
        · omega
        · rename_i n1
          have := h i (by omega)
          have : A i ≠ r := fun e => n1 (inj i j (by omega) (by omega) (by omega))
          omega) (fun i k hi hk e => by
        split at e
        · split at e
          · omega
          · have := inj r k (by omega) (by omega) e; omega
        · split at e
          · have := inj i r (by omega) (by omega) e; omega
          · exact inj i k (by omega) (by omega) e)
      have sw := fo_swap (op := op) (e := e) hc ha (j := j) (r := r) (g := fun i => f (A i)) (g' := fun i => f (if i = j then A r else A i)) jr (fun i hi hn => by simp [hn])
      simp only [if_pos] at sw
      rw [ej] at sw
      rw [ih] at sw
      exact sw
theorem pr_fo (D : Nat → Int) (n : Nat) : pr D n = fo (· * ·) 1 D n := by
  induction n with
  | zero => rfl
  | succ n ih => simp only [pr, fo]; rw [ih]
theorem lo_fo (D S : Nat → Int) (n : Nat) : lo D S n = fo (· + ·) 0 (fun i => min ((D i - 1) * S i) 0) n := by
  induction n with
  | zero => rfl
  | succ n ih => simp only [lo, fo]; rw [ih]
theorem hi_fo (D S : Nat → Int) (n : Nat) : hi D S n = fo (· + ·) 0 (fun i => max ((D i - 1) * S i) 0) n := by
  induction n with
  | zero => rfl
  | succ n ih => simp only [hi, fo]; rw [ih]
theorem szR_of {D : Nat → Int} {n : Nat} (h : ∀ j, j < n → 1 ≤ D j) (hp : pr D n ≤ 4096) : szR D n = pr D n := by
  induction n with
  | zero => rfl
  | succ n ih =>
    have p1 : 1 ≤ pr D n := pr_pos (fun j hj => h j (by omega))
    have d1 := h n (by omega)
    have e : pr D (n + 1) = pr D n * D n := rfl
    have le : pr D n * 1 ≤ pr D n * D n := Int.mul_le_mul_of_nonneg_left d1 (by omega)
    have ih := ih (fun j hj => h j (by omega)) (by omega)
    rw [szR_next (by omega) d1 (by rw [ih]; omega), ih, e]
/-- each of the first m axes is one, and none comes twice -/
def PerOk (r : Nat) (A : Nat → Int) (m : Nat) : Prop := ∀ i, i < m → (0 ≤ A i ∧ A i < r) ∧ ∀ k, k < i → A k ≠ A i
instance (r : Nat) (A : Nat → Int) (m : Nat) : Decidable (PerOk r A m) := by unfold PerOk; infer_instance
theorem PerOk.next {r m : Nat} {A : Nat → Int} (h : PerOk r A m) (h1 : 0 ≤ A m ∧ A m < r) (h2 : ∀ k, k < m → A k ≠ A m) : PerOk r A (m + 1) := fun i hi => by
  by_cases c : i = m
  · subst c; exact ⟨h1, h2⟩
  · exact h i (by omega)
/-- what stands along the axes that have been taken -/
def perf (D A : Nat → Int) : Nat → Nat → Int | 0 => fun _ => 0 | m + 1 => fun j => if j = m then D (A m).toNat else perf D A m j
theorem perf_at (D A : Nat → Int) (m : Nat) {j : Nat} (hj : j < m) : perf D A m j = D (A j).toNat := by
  induction m with
  | zero => omega
  | succ m ih =>
    simp only [perf]
    split
    · rename_i c; rw [c]
    · exact ih (by omega)
def perV (r q : Nat) (D S A : Nat → Int) (o n : Int) : PV := if q = r ∧ PerOk r A r then ⟨r, r, perf D A r, perf S A r, o, n⟩ else PV.zero
theorem perV_no {r q : Nat} {D S A : Nat → Int} {o n : Int} (h : ¬ (q = r ∧ PerOk r A r)) : perV r q D S A o n = PV.zero := by unfold perV; rw [if_neg h]
theorem perV_yes {r q : Nat} {D S A : Nat → Int} {o n : Int} (h : q = r ∧ PerOk r A r) : perV r q D S A o n = ⟨r, r, perf D A r, perf S A r, o, n⟩ := by unfold perV; rw [if_pos h]
theorem perV_le (r q : Nat) (D S A : Nat → Int) (o n : Int) : (perV r q D S A o n).r ≤ r ∧ (perV r q D S A o n).s ≤ r := by
  unfold perV
  split
  · exact ⟨Nat.le_refl _, Nat.le_refl _⟩
  · exact ⟨Nat.zero_le _, Nat.zero_le _⟩
theorem per_ok {r : Nat} {D S A : Nat → Int} {o n : Int} (hv : VOk r r D S o n) (h : PerOk r A r) : VOk r r (perf D A r) (perf S A r) o n := by
  obtain ⟨v1, v2, v3, v4, v5, v6, v7, v8, v9⟩ := hv
  have rng : ∀ i, i < r → (A i).toNat < r := fun i hi => by have := (h i hi).1; omega
  have inj : ∀ i k, i < r → k < r → (A i).toNat = (A k).toNat → i = k := fun i k hi hk e => by
    have a1 := (h i hi).1
    have a2 := (h k hk).1
    have e : A i = A k := by omega
    by_cases c : i < k
    · exact absurd e ((h k hk).2 i c)
    · by_cases c2 : k < i
      · exact absurd e.symm ((h i hi).2 k c2)
      · omega
  have dl := fun j (hj : j < r) => dok_len v1 hj
  have pp : pr (perf D A r) r = pr D r := by
    rw [pr_fo, pr_fo, fo_same (g := fun i => D (A i).toNat) (fun i hi => perf_at D A r hi)]
    exact fo_perm (fun a b => Int.mul_comm a b) (fun a b c => Int.mul_assoc a b c) D r (fun i => (A i).toNat) rng inj
  have ll : lo (perf D A r) (perf S A r) r = lo D S r := by
    rw [lo_fo, lo_fo, fo_same (g := fun i => min ((D (A i).toNat - 1) * S (A i).toNat) 0) (fun i hi => by rw [perf_at D A r hi, perf_at S A r hi])]
    exact fo_perm (fun a b => Int.add_comm a b) (fun a b c => Int.add_assoc a b c) (fun i => min ((D i - 1) * S i) 0) r (fun i => (A i).toNat) rng inj
  have hh : hi (perf D A r) (perf S A r) r = hi D S r := by
    rw [hi_fo, hi_fo, fo_same (g := fun i => max ((D (A i).toNat - 1) * S (A i).toNat) 0) (fun i hi => by rw [perf_at D A r hi, perf_at S A r hi])]
    exact fo_perm (fun a b => Int.add_comm a b) (fun a b c => Int.add_assoc a b c) (fun i => max ((D i - 1) * S i) 0) r (fun i => (A i).toNat) rng inj
  have r6 := (dok_iff.1 v1).1
  have sz := (dok_iff.1 v1).2
  have dpr : szR D r = pr D r := by
    rcases szR_cases D r with e | e
    · omega
    · exact e.2.1
  have s4 := (szR_rng D r).2
  have ds : szR (perf D A r) r = pr D r := by
    rw [← pp]
    exact szR_of (fun j hj => by rw [perf_at D A r hj]; exact (dl _ (rng j hj)).1) (by omega)
  refine ⟨dok_iff.2 ⟨r6, by omega⟩, rfl, v3, v4, v5, v6, fun j hj => by rw [perf_at S A r hj]; exact v7 _ (rng j hj), by rw [ll]; exact v8, by rw [hh]; exact v9⟩
theorem per_turned {r s q : Nat} {D S A : Nat → Int} {o n : Int} : turnedV r s D S o n (perV r q D S A o n) = if vok r s D S o n = true then perV r q D S A o n else PV.zero := by
  unfold turnedV
  by_cases hv : vok r s D S o n = true
  · rw [if_pos hv, if_pos hv]
    have hv' := vok_iff.1 hv
    obtain rfl := hv'.2.1
    by_cases h : q = s ∧ PerOk s A s
    · rw [perV_yes h]
      unfold PV.orZero
      rw [if_pos (show PV.ok _ = true from vok_iff.2 (per_ok hv' h.2))]
    · rw [perV_no h]
      unfold PV.orZero
      split <;> rfl
  · rw [if_neg hv, if_neg hv]
/-- where a number stands first -/
theorem indexI (B : Nat) (a : Option Addr) (t cap : Nat) (A : Nat → Int) (x : Int) (w : World) (h : Ints B w a t A) (ht : (t : Int) ≤ 1048576) :
    Calls Try.prog 101 #[.slice a t cap, .int .i64 x] w fun e w' => (∃ z : Int, e = .returned (.int .i64 z) ∧ -1 ≤ z ∧ (0 ≤ z ↔ ∃ k, k < t ∧ A k = x)) ∧ w' = w := by
  have H := hide h
  clear h
  go_enter Try.func101, Try.ntmps101
  go_wp2_with fail
  go_loopw [8] (fun i wx => ∃ k : Nat, k ≤ t ∧ i = .int .i64 k ∧ (∀ j, j < k → A j ≠ x) ∧ wx = w) (fun i _ => t - (intOf i).toNat)
  case atStart => exact ⟨0, Nat.zero_le _, rfl, fun j hj => by omega, rfl⟩
  case round =>
    obtain ⟨k, hk, rfl, hall, hw⟩ := hrel
    subst hw
    have HA := hide hall
    clear hall
    by_cases hlt : k < t
    · have kI : (k : Int) < t := by omega
      rcases H.out with h0 | ⟨b, off, rfl, hb, hc⟩
      · omega
      have c1 := (hc k hlt).1
      clear hc
      by_cases d : x = A k
      · have d' : (x == A k) = true := beq_iff_eq.2 d
        have D := hide d
        clear d
        go_wp2_with fail
        go_ret
        exact ⟨⟨k, rfl, by omega, ⟨fun _ => ⟨k, hlt, D.out.symm⟩, fun _ => by omega⟩⟩, by first | rfl | trivial⟩
      · have d' : (x == A k) = false := beq_eq_false_iff_ne.2 d
        have D := hide d
        clear d
        go_wp2_with fail
        go_roundw
        case rel => exact ⟨k + 1, by omega, by go_num, fun j hj => by
          by_cases c : j = k
          · subst c; exact fun e => D.out e.symm
          · exact HA.out j (by omega), by first | rfl | trivial⟩
        case measure => simp [intOf]; omega
    · obtain rfl : k = t := by omega
      go_wp2_with fail
      go_ret
      exact ⟨⟨-1, rfl, by omega, ⟨fun e => by omega, fun ⟨j, hj, e⟩ => absurd e (HA.out j hj)⟩⟩, by first | rfl | trivial⟩
theorem containsI (B : Nat) (a : Option Addr) (t cap : Nat) (A : Nat → Int) (x : Int) (w : World) (h : Ints B w a t A) (ht : (t : Int) ≤ 1048576) :
    Calls Try.prog 93 #[.slice a t cap, .int .i64 x] w fun e w' => (∃ z : Bool, e = .returned (.bool z) ∧ (z = true ↔ ∃ k, k < t ∧ A k = x)) ∧ w' = w := by
  have H := hide h
  clear h
  go_enter Try.func93, Try.ntmps93
  go_wp2_with fail
  refine (indexI B a t cap A x w H.out ht).mono ?_
  rintro e w1 ⟨⟨z, rfl, z1, z2⟩, hw⟩
  have hw := hw.symm
  subst hw
  have Z := hide z2
  clear z1 z2
  go_wp2_with fail
  go_ret
  exact ⟨⟨decide (0 ≤ z), rfl, by rw [decide_eq_true_eq]; exact Z.out⟩, by first | rfl | trivial⟩
end Vo
end Go.Proofs.Ytejfodkobfdelaa
