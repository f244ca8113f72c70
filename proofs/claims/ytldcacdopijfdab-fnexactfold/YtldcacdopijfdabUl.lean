/- Places of whole views, and of whole views that are spread. -/
import Derived.Test.YtldcacdopijfdabUb
import Derived.Test.YtldcacdopijfdabLn
namespace Go.Proofs.Ytldcacdopijfdab
namespace Vo
open Go.ChangeShapes Go.WideShapes Go.ChangeAt Go.RowKit Go.Joins
open Vl Vp Vr
set_option linter.unusedVariables false
set_option linter.unusedSimpArgs false

theorem sm_mul (I T : Nat → Int) (d : Int) (n : Nat) : sm I (fun j => T j * d) n = sm I T n * d := by
  induction n with
  | zero => simp [sm]
  | succ n ih =>
    show sm I (fun j => T j * d) n + I n * (T n * d) = (sm I T n + I n * T n) * d
    rw [ih, Int.add_mul, Int.mul_assoc]
/-- products of the lengths behind j, below n -/
def wgt (D : Nat → Int) (n j : Nat) : Int := pr (fun t => D (j + 1 + t)) (n - (j + 1))
theorem od_sm (D I : Nat → Int) (n : Nat) : od D I n = sm I (wgt D n) n := by
  induction n with
  | zero => rfl
  | succ n ih =>
    show od D I n * D n + I n = sm I (wgt D (n + 1)) n + I n * wgt D (n + 1) n
    have e1 : wgt D (n + 1) n = 1 := by unfold wgt; rw [show n + 1 - (n + 1) = 0 by omega]; rfl
    have e2 : sm I (wgt D (n + 1)) n = sm I (fun j => wgt D n j * D n) n := sm_same (fun j _ => rfl) (fun j hj => by
      unfold wgt
      rw [show n + 1 - (j + 1) = n - (j + 1) + 1 by omega]
      show pr (fun t => D (j + 1 + t)) (n - (j + 1)) * D (j + 1 + (n - (j + 1))) = _
      rw [show j + 1 + (n - (j + 1)) = n by omega])
    rw [e1, e2, sm_mul, ← ih, Int.mul_one]
theorem bh_wgt {D : Nat → Int} {r j : Nat} (hj : j < r) : bh D r (r - 1 - j) = wgt D r j := by
  rw [bh_seg D r (r - 1 - j) (by omega)]
  unfold wgt
  rw [show r - (r - 1 - j) = j + 1 by omega, show r - (j + 1) = r - 1 - j by omega]
/-- an index's place in the whole view is where it stands -/
theorem sm_whole {D I : Nat → Int} {r : Nat} (hi : ∀ j, j < r → 0 ≤ I j ∧ I j < D j) : sm I (stW D r) r = od D I r := by
  rw [od_sm]
  have key : ∀ n, n ≤ r → sm I (stW D r) n = sm I (wgt D r) n := by
    intro n hn
    induction n with
    | zero => rfl
    | succ n ih =>
      show sm I (stW D r) n + I n * stW D r n = sm I (wgt D r) n + I n * wgt D r n
      rw [ih (by omega)]
      unfold stW
      split
      · rename_i c
        have := hi n (by omega)
        rw [show I n = 0 by omega, Int.zero_mul, Int.zero_mul]
      · rw [bh_wgt (by omega)]
  exact key r (Nat.le_refl _)
theorem sm_behind {F T I S : Nat → Int} {a m : Nat} (h : ∀ j, j < a → T j = 0) (h' : ∀ i, i < m → F (a + i) * T (a + i) = I i * S i) : sm F T (a + m) = sm I S m := by
  induction m with
  | zero =>
    show sm F T a = 0
    clear h'
    induction a with
    | zero => rfl
    | succ a ih =>
      show sm F T a + F a * T a = 0
      rw [ih (fun j hj => h j (by omega)), h a (by omega), Int.mul_zero]; rfl
  | succ m ih =>
    show sm F T (a + m) + F (a + m) * T (a + m) = sm I S m + I m * S m
    rw [ih (fun i hi => h' i (by omega)), h' m (by omega)]
/-- the index that an index of greater dims shows -/
def sprI (r q : Nat) (D J : Nat → Int) : Nat → Int := fun i => if D i = 1 then 0 else J (q - r + i)
theorem sprI_rng {r q : Nat} {D E J : Nat → Int} (h : SprOk r q D E) (hd : ∀ i, i < r → 1 ≤ D i) (hJ : ∀ j, j < q → 0 ≤ J j ∧ J j < E j) : ∀ i, i < r → 0 ≤ sprI r q D J i ∧ sprI r q D J i < D i := by
  intro i hi
  unfold sprI
  split
  · rename_i c; omega
  · rename_i c
    have := hJ (q - r + i) (by have := h.2.1; omega)
    rcases h.2.2 i hi with e | e
    · omega
    · exact absurd e c
/-- a place of a whole view that is spread -/
theorem spr_place {r q : Nat} {D E : Nat → Int} (h : SprOk r q D E) (hd : ∀ i, i < r → 1 ≤ D i) (k : Int) (hE : ∀ j, j < q → 1 ≤ E j) : rel E (sprS r q D (stW D r) E r) q k = od D (sprI r q D (dg E q k)) r := by
  rw [← sm_dg, ← sm_whole (sprI_rng h hd (dg_rng E q hE k))]
  have := sm_behind (F := dg E q k) (T := sprS r q D (stW D r) E r) (I := sprI r q D (dg E q k)) (S := stW D r) (a := q - r) (m := r) (fun j hj => by unfold sprS; rw [if_neg (by omega)]) (fun i hi => by
    unfold sprI
    by_cases c : D i = E (q - r + i)
    · have e : sprS r q D (stW D r) E r (q - r + i) = stW D r i := by unfold sprS; rw [if_pos ⟨by omega, by omega, by rw [show q - r + i - (q - r) = i by omega]; exact c⟩, show q - r + i - (q - r) = i by omega]
      rw [e]
      split
      · rename_i c1
        have : stW D r i = 0 := by unfold stW; rw [if_pos c1]
        rw [this, Int.mul_zero, Int.mul_zero]
      · rfl
    · have e : sprS r q D (stW D r) E r (q - r + i) = 0 := by unfold sprS; rw [if_neg (fun e => by rw [show q - r + i - (q - r) = i by omega] at e; exact c e.2.2)]
      have c1 : D i = 1 := (h.2.2 i hi).resolve_left c
      rw [e, if_pos c1, Int.mul_zero, Int.zero_mul])
  rw [show q - r + r = q by have := h.2.1; omega] at this
  exact this
end Vo
end Go.Proofs.Ytldcacdopijfdab
