/- Lemmas for the proof of the law. -/
import Derived.Test.YtjlmbeachanlfaaMgar
import Derived.Lib.QuietBelow
import Derived.Test.YtjlmbeachanlfaaMgaq
import Derived.Test.YtjlmbeachanlfaaMgam
/- The model's l3Order, l4Get, l4With, l4Axis, l4Line. -/
namespace Go.Proofs.Ytjlmbeachanlfaa
namespace Vo
open Go.ChangeShapes Go.WideShapes Go.ChangeAt Go.RowKit Go.Joins Go.Sort
open Vl Vp Vr
set_option linter.unusedVariables false
set_option linter.unusedSimpArgs false

theorem od_le {D I : Nat → Int} {r : Nat} (h : dok r D = true) (hi : ∀ j, j < r → 0 ≤ I j ∧ I j < D j) {m : Nat} (hm : m ≤ r) : 0 ≤ od D I m ∧ od D I m < 4096 := by
  have q := od_rng D I m (fun j hj => hi j (by omega))
  have := (dok_iff.1 h).2
  have h1 : szR D m ≠ 0 := fun e => by have := szR_zero e hm; omega
  rcases szR_cases D m with e | ⟨_, e, _, e4⟩
  · exact absurd e h1
  · omega
end Vo
end Go.Proofs.Ytjlmbeachanlfaa

/- Concat, plain. -/
namespace Go.Proofs.Ytjlmbeachanlfaa
namespace Vo
open Vl Vp
set_option linter.unusedVariables false
/-- what the first k are long -/
def tot (L : Nat → Int) : Nat → Int | 0 => 0 | k + 1 => tot L k + L k
/-- how many of the first m end at y or ahead of it -/
def pk (L : Nat → Int) (y : Int) : Nat → Nat | 0 => 0 | m + 1 => pk L y m + (if tot L (m + 1) ≤ y then 1 else 0)
theorem tot_mono {L : Nat → Int} {n : Nat} (h : ∀ i, i < n → 1 ≤ L i) {i j : Nat} (hij : i ≤ j) (hj : j ≤ n) : tot L i + (j - i : Nat) ≤ tot L j := by
  induction j with
  | zero => obtain rfl : i = 0 := by omega
            simp
  | succ j ih =>
    by_cases c : i = j + 1
    · subst c; simp
    · have := ih (by omega) (by omega)
      have := h j (by omega)
      show _ ≤ tot L j + L j
      omega
theorem pk_is {L : Nat → Int} {n k : Nat} {y : Int} (h : ∀ i, i < n → 1 ≤ L i) (hk : k < n) (h0 : tot L k ≤ y) (h1 : y < tot L (k + 1)) : pk L y n = k := by
  have q : ∀ m, m ≤ n → pk L y m = min m k := by
    intro m
    induction m with
    | zero => intro _; simp [pk]
    | succ m ih =>
      intro hm
      show pk L y m + _ = _
      rw [ih (by omega)]
      by_cases c : m < k
      · have := tot_mono h (i := m + 1) (j := k) (by omega) (by omega)
        rw [if_pos (by omega)]; omega
      · have := tot_mono h (i := k + 1) (j := m + 1) (by omega) hm
        rw [if_neg (by omega)]; omega
  rw [q n (Nat.le_refl _)]; omega
theorem pk_ex {L : Nat → Int} {n : Nat} {y : Int} (h0 : 0 ≤ y) (h1 : y < tot L n) : ∃ k, k < n ∧ tot L k ≤ y ∧ y < tot L (k + 1) := by
  induction n with
  | zero => simp [tot] at h1; omega
  | succ n ih =>
    by_cases c : y < tot L n
    · obtain ⟨k, a, b, d⟩ := ih c
      exact ⟨k, by omega, b, d⟩
    · exact ⟨n, by omega, by omega, h1⟩
/-- tensors that fit along an axis -/
def ConOk (n : Nat) (x : Int) (T : Nat → TV) : Prop :=
  1 ≤ n ∧ n ≤ 6 ∧ ∀ i, i < n → (tok (T i).r (T i).s (T i).D (T i).S = true ∧ 0 ≤ x ∧ x < (T i).r) ∧ (T i).r = (T 0).r ∧ ∀ j, j < (T 0).r → j ≠ x.toNat → (T i).D j = (T 0).D j
instance (n : Nat) (x : Int) (T : Nat → TV) : Decidable (ConOk n x T) := by unfold ConOk; infer_instance
def conL (x : Int) (T : Nat → TV) (i : Nat) : Int := (T i).D x.toNat
def conD (n : Nat) (x : Int) (T : Nat → TV) : Nat → Int := up1 (T 0).D x.toNat (tot (conL x T) n)
def conB (x : Int) (T : Nat → TV) : Int := bhd (T 0).D (T 0).r x.toNat
/-- what stands at place p -/
def conS (n : Nat) (x : Int) (T : Nat → TV) (p : Int) : Int :=
  (T (pk (conL x T) (p / conB x T % tot (conL x T) n) n)).S (mv (conL x T (pk (conL x T) (p / conB x T % tot (conL x T) n) n)) (conB x T) (tot (conL x T) n) (p / conB x T % tot (conL x T) n - tot (conL x T) (pk (conL x T) (p / conB x T % tot (conL x T) n) n)) p).toNat
def conP (n : Nat) (x : Int) (T : Nat → TV) : PT :=
  if ConOk n x T ∧ dok (T 0).r (conD n x T) = true then ⟨(T 0).r, cntT (T 0).r (conD n x T), conD n x T, fun p => conS n x T p⟩ else PT.zero
theorem conP_no {n : Nat} {x : Int} {T : Nat → TV} (h : ¬ (ConOk n x T ∧ dok (T 0).r (conD n x T) = true)) : conP n x T = PT.zero := by unfold conP; rw [if_neg h]
theorem conP_yes {n : Nat} {x : Int} {T : Nat → TV} (h : ConOk n x T) (h' : dok (T 0).r (conD n x T) = true) : conP n x T = ⟨(T 0).r, cntT (T 0).r (conD n x T), conD n x T, fun p => conS n x T p⟩ := by unfold conP; rw [if_pos ⟨h, h'⟩]
theorem ConOk.pos {n : Nat} {x : Int} {T : Nat → TV} (h : ConOk n x T) : ∀ i, i < n → 1 ≤ conL x T i := fun i hi => by
  obtain ⟨⟨t, x0, x1⟩, _⟩ := h.2.2 i hi
  exact (dok_len (tok_split t).1 (by omega)).1
theorem ConOk.bpos {n : Nat} {x : Int} {T : Nat → TV} (h : ConOk n x T) : 1 ≤ conB x T :=
  bhd_pos (fun j hj => (dok_len (tok_split (h.2.2 0 (by have := h.1; omega)).1.1).1 hj).1)
/-- what the program lays down -/
theorem conS_row {n : Nat} {x : Int} {T : Nat → TV} (h : ConOk n x T) {k : Nat} (hk : k < n) (blk q : Int) (q0 : 0 ≤ q) (q1 : q < conL x T k * conB x T) :
    conS n x T ((blk * tot (conL x T) n + tot (conL x T) k) * conB x T + q) = (T k).S (blk * (conL x T k * conB x T) + q).toNat := by
  have hb := h.bpos
  have hp := h.pos
  have l1 := hp k hk
  have d0 : 0 ≤ q / conB x T := Int.ediv_nonneg q0 (by omega)
  have d1 : q / conB x T < conL x T k := quo_lt2 hb q1
  have m0 := Int.emod_nonneg q (show conB x T ≠ 0 by omega)
  have m1 := Int.emod_lt_of_pos q (show 0 < conB x T by omega)
  have t0 := tot_mono hp (i := 0) (j := k) (by omega) (by omega)
  have t1 := tot_mono hp (i := k + 1) (j := n) (by omega) (Nat.le_refl _)
  have t2 : tot (conL x T) (k + 1) = tot (conL x T) k + conL x T k := rfl
  have t3 : tot (conL x T) 0 = 0 := rfl
  have e : (blk * tot (conL x T) n + tot (conL x T) k) * conB x T + q = (blk * tot (conL x T) n + (tot (conL x T) k + q / conB x T)) * conB x T + q % conB x T := by
    have := Int.ediv_mul_add_emod q (conB x T)
    rw [← Int.add_assoc, Int.add_mul (blk * tot (conL x T) n + tot (conL x T) k)]
    omega
  obtain ⟨p1, p2, p3⟩ := part3 (n := tot (conL x T) n) (b := conB x T) (x := blk) (k := tot (conL x T) k + q / conB x T) (q := q % conB x T) hb (by omega) (by omega) m0 m1
  unfold conS
  rw [e, p2, pk_is hp hk (by omega) (by omega)]
  congr 2
  unfold mv
  rw [p1, p3, show tot (conL x T) k + q / conB x T - tot (conL x T) k = q / conB x T by omega, Int.add_mul, Int.mul_assoc]
  have := Int.ediv_mul_add_emod q (conB x T)
  omega
/-- what the model finds -/
theorem conS_at {n : Nat} {x : Int} {T : Nat → TV} (h : ConOk n x T) (hd : dok (T 0).r (conD n x T) = true) {k : Nat} (hk : k < n) {p : Int} (p0 : 0 ≤ p) (p1 : p < pr (conD n x T) (T 0).r) (I : Nat → Int)
    (h0 : tot (conL x T) k ≤ dg (conD n x T) (T 0).r p x.toNat) (h1 : dg (conD n x T) (T 0).r p x.toNat < tot (conL x T) (k + 1))
    (hI : ∀ j, j < (T 0).r → I j = up1 (dg (conD n x T) (T 0).r p) x.toNat (dg (conD n x T) (T 0).r p x.toNat - tot (conL x T) k) j) :
    conS n x T p = (T k).S (od (T k).D I (T k).r).toNat := by
  have hp := h.pos
  obtain ⟨⟨tk, x0, x1⟩, er, ed⟩ := h.2.2 k hk
  have one : ∀ j, j < (T 0).r → 1 ≤ conD n x T j := fun j hj => (dok_len hd hj).1
  have ha : x.toNat < (T 0).r := by omega
  have hbb : bhd (conD n x T) (T 0).r x.toNat = conB x T := bhd_up1 _ _ _ _
  have hN : conD n x T x.toNat = tot (conL x T) n := up1_at _ _ _
  have g := dg_axis ha one p p0 p1
  rw [hbb, hN] at g
  have om := od_moved ha one (conL x T k) (dg (conD n x T) (T 0).r p x.toNat - tot (conL x T) k) p p0 p1
  rw [hbb, hN] at om
  rw [er, od_same (D := (T k).D) (E := up1 (conD n x T) x.toNat (conL x T k)) (I := I) (J := up1 (dg (conD n x T) (T 0).r p) x.toNat (dg (conD n x T) (T 0).r p x.toNat - tot (conL x T) k)) (n := (T 0).r) (fun j hj => by
    unfold conD
    rw [up1_up1]
    by_cases c : j = x.toNat
    · subst c; rw [up1_at]; rfl
    · rw [up1_ne _ _ c]; exact ed j hj c) hI, om]
  unfold conS
  rw [← g, pk_is hp hk h0 h1]
/-- the size of the first m lengths, and of those from m on -/
theorem sz_head {r m : Nat} {D : Nat → Int} (h : dok r D = true) (hm : m ≤ r) : sz m D = pr D m := by
  obtain ⟨h6, h0⟩ := dok_iff.1 h
  unfold sz
  rw [if_neg (by omega)]
  rcases szR_cases D m with q | q
  · have := szR_zero q hm; omega
  · exact q.2.1
theorem szR_of {D : Nat → Int} {n : Nat} (h : ∀ j, j < n → 1 ≤ D j) (h1 : pr D n ≤ 4096) : szR D n = pr D n := by
  induction n with
  | zero => rfl
  | succ n ih =>
    have p := pr_pos (D := D) (r := n) (fun j hj => h j (by omega))
    have d := h n (by omega)
    have h2 : pr D n * D n ≤ 4096 := h1
    have l : pr D n * 1 ≤ pr D n * D n := Int.mul_le_mul_of_nonneg_left d (by omega)
    have e := ih (fun j hj => h j (by omega)) (by omega)
    exact (szR_next (by omega) d (by rw [e]; exact h2)).trans (by rw [e]; rfl)
theorem sz_tail {r m : Nat} {D : Nat → Int} (h : dok r D = true) (hm : m ≤ r) : sz (r - m) (fun t => D (m + t)) = pr (fun t => D (m + t)) (r - m) := by
  obtain ⟨h6, h0⟩ := dok_iff.1 h
  unfold sz
  rw [if_neg (by omega)]
  refine szR_of (fun j hj => (dok_len h (by omega)).1) ?_
  rcases szR_cases D r with q | ⟨q1, q2, q3, q4⟩
  · omega
  · have e := pr_add D m (r - m)
    rw [show m + (r - m) = r by omega] at e
    have p := pr_pos (D := D) (r := m) (fun j hj => q1 j (by omega))
    have p' := pr_pos (D := fun t => D (m + t)) (r := r - m) (fun j hj => q1 _ (by omega))
    have l : 1 * pr (fun t => D (m + t)) (r - m) ≤ pr D m * pr (fun t => D (m + t)) (r - m) := Int.mul_le_mul_of_nonneg_right p (by omega)
    omega
theorem pr_tail (D : Nat → Int) {r a : Nat} (ha : a < r) : pr (fun t => D (a + t)) (r - a) = D a * bhd D r a := by
  have := pr_add (fun t => D (a + t)) 1 (r - (a + 1))
  rw [show 1 + (r - (a + 1)) = r - a by omega] at this
  rw [this]
  unfold bhd
  rw [pr_same (D := fun t => D (a + (1 + t))) (E := fun t => D (a + 1 + t)) (fun j hj => by rw [Nat.add_assoc])]
  simp [pr]
theorem ints_from {B : Nat} {w : World} {a : Option Addr} {r : Nat} {D : Nat → Int} {blk off m q : Nat} (h : Ints B w a r D) (ha : a = some ⟨blk, off, none⟩) (hm : m + q ≤ r) : Ints B w (some ⟨blk, off + m, none⟩) q (fun t => D (m + t)) := by
  rcases h with h | ⟨b, o, e, hb, hc⟩
  · exact .inl (by omega)
  · rw [ha] at e
    injection e with e
    injection e with e1 e2
    subst e1 e2
    exact .inr ⟨blk, off + m, rfl, hb, fun t ht => by rw [Nat.add_assoc]; exact hc (m + t) (by omega)⟩
end Vo
end Go.Proofs.Ytjlmbeachanlfaa
