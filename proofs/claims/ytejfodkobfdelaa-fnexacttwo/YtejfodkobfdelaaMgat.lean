/- Lemmas for the proof of the law. -/
import Derived.Test.YtejfodkobfdelaaMgae
import Derived.Test.YtejfodkobfdelaaMgaq
import Derived.Test.YtejfodkobfdelaaMgas
/- Joint on both sides. -/
namespace Go.Proofs.Ytejfodkobfdelaa
namespace Vo
open Go.ChangeShapes Go.WideShapes Go.ChangeAt Go.RowKit Go.Joins
open Vl Vp
set_option linter.unusedVariables false

/-- a length from behind -/
def bk (r : Nat) (D : Nat → Int) (k : Nat) : Int := if r ≤ k then 1 else D (r - 1 - k)
def fits (x y : Int) : Prop := x = y ∨ x = 1 ∨ y = 1
instance (x y : Int) : Decidable (fits x y) := by unfold fits; infer_instance
def jt (r s : Nat) (D E : Nat → Int) : Nat → Int := fun j => max (bk r D (max r s - 1 - j)) (bk s E (max r s - 1 - j))
def JOk (r s : Nat) (D E : Nat → Int) : Prop := dok r D = true ∧ dok s E = true ∧ (∀ k, k < max r s → fits (bk r D k) (bk s E k)) ∧ dok (max r s) (jt r s D E) = true
instance (r s : Nat) (D E : Nat → Int) : Decidable (JOk r s D E) := by unfold JOk; infer_instance
def jn (r s : Nat) (D E : Nat → Int) : Nat := if JOk r s D E then max r s else 0
theorem jn_no {r s : Nat} {D E : Nat → Int} (h : ¬ JOk r s D E) : jn r s D E = 0 := by unfold jn; rw [if_neg h]
theorem jn_yes {r s : Nat} {D E : Nat → Int} (h : JOk r s D E) : jn r s D E = max r s := by unfold jn; rw [if_pos h]
theorem dok_same {r : Nat} {D E : Nat → Int} (h : ∀ j, j < r → D j = E j) : dok r D = dok r E := by unfold dok; rw [sz_same h]
/-- the longer one first: what stands behind the lengths ahead -/
theorem jt_ahead {r s : Nat} {D E : Nat → Int} (h : s ≤ r) {j : Nat} (hj : j < r - s) (hd : 1 ≤ D j) : jt r s D E j = D j := by
  unfold jt bk
  rw [Nat.max_eq_left h, if_neg (by omega), if_pos (by omega), show r - 1 - (r - 1 - j) = j by omega]
  omega
theorem jt_both {r s : Nat} {D E : Nat → Int} (h : s ≤ r) {t : Nat} (ht : t < s) : jt r s D E (r - s + t) = max (D (r - s + t)) (E t) := by
  unfold jt bk
  rw [Nat.max_eq_left h, if_neg (by omega), if_neg (by omega), show r - 1 - (r - 1 - (r - s + t)) = r - s + t by omega, show s - 1 - (r - 1 - (r - s + t)) = t by omega]
theorem fits_ahead {r s : Nat} {D E : Nat → Int} (h : s ≤ r) (hf : ∀ t, t < s → fits (D (r - s + t)) (E t)) : ∀ k, k < max r s → fits (bk r D k) (bk s E k) := by
  intro k hk
  rw [Nat.max_eq_left h] at hk
  unfold bk
  rw [if_neg (by omega)]
  by_cases c : s ≤ k
  · rw [if_pos c]; exact .inr (.inr rfl)
  · rw [if_neg c]
    have := hf (s - 1 - k) (by omega)
    rwa [show r - s + (s - 1 - k) = r - 1 - k by omega] at this
theorem fits_of {r s : Nat} {D E : Nat → Int} (h : s ≤ r) (hf : ∀ k, k < max r s → fits (bk r D k) (bk s E k)) {t : Nat} (ht : t < s) : fits (D (r - s + t)) (E t) := by
  have := hf (s - 1 - t) (by rw [Nat.max_eq_left h]; omega)
  unfold bk at this
  rwa [if_neg (by omega), if_neg (by omega), show r - 1 - (s - 1 - t) = r - s + t by omega, show s - 1 - (s - 1 - t) = t by omega] at this
theorem fits_comm {x y : Int} (h : fits x y) : fits y x := by unfold fits at *; omega
theorem jt_comm (r s : Nat) (D E : Nat → Int) : jt r s D E = jt s r E D := by
  funext j; unfold jt; rw [Nat.max_comm r s, Int.max_comm]
theorem JOk_comm {r s : Nat} {D E : Nat → Int} : JOk r s D E ↔ JOk s r E D := by
  unfold JOk
  rw [jt_comm r s D E, Nat.max_comm r s]
  exact ⟨fun ⟨a, b, c, d⟩ => ⟨b, a, fun k hk => fits_comm (c k hk), d⟩, fun ⟨a, b, c, d⟩ => ⟨b, a, fun k hk => fits_comm (c k hk), d⟩⟩
theorem jn_comm (r s : Nat) (D E : Nat → Int) : jn r s D E = jn s r E D := by
  unfold jn; rw [Nat.max_comm r s]; simp only [JOk_comm (r := r)]
theorem bk_rng {r : Nat} {D : Nat → Int} (h : ∀ j, j < r → 1 ≤ D j ∧ D j ≤ 4096) (k : Nat) : 1 ≤ bk r D k ∧ bk r D k ≤ 4096 := by
  unfold bk
  split
  · omega
  · exact h _ (by omega)
theorem jt_rng {r s : Nat} {D E : Nat → Int} (h : ∀ j, j < r → 1 ≤ D j ∧ D j ≤ 4096) (h' : ∀ j, j < s → 1 ≤ E j ∧ E j ≤ 4096) (j : Nat) : 1 ≤ jt r s D E j ∧ jt r s D E j ≤ 4096 := by
  unfold jt
  have a := bk_rng h (max r s - 1 - j)
  have b := bk_rng h' (max r s - 1 - j)
  omega
/-- the empty list -/
theorem own_empty (B : Nat) (w : World) (a : Option Addr) (D : Nat → Int) : OwnL B w a 0 D := .inl rfl

theorem l3Back (B : Nat) (a : Option Addr) (r cap k : Nat) (D : Nat → Int) (w : World) (h : Ints B w a r D) (hr : (r : Int) ≤ 6) (hk : (k : Int) ≤ 6) :
    Calls Try.prog 47 #[.slice a r cap, .int .i64 k] w fun e w' => e = .returned (.int .i64 (bk r D k)) ∧ w' = w := by
  by_cases c : (r : Int) ≤ k
  · have e := hide (show bk r D k = 1 by unfold bk; rw [if_pos (by omega)])
    clear h
    go_enter Try.func47, Try.ntmps47
    go_wp2_with fail
    go_ret
    exact ⟨ret_int e.out.symm, rfl⟩
  · have c' : decide ((r : Int) ≤ k) = false := by rw [decide_eq_false_iff_not]; exact c
    obtain ⟨m, hm⟩ : ∃ m : Nat, (r : Int) - 1 - k = m := ⟨r - 1 - k, by omega⟩
    have e := hide (show bk r D k = D m by unfold bk; rw [if_neg (by omega)]; congr 1; omega)
    have hlt : m < r := by omega
    have mI : (m : Int) < r := by omega
    rcases h with h0 | ⟨b, off, rfl, hbB, hc⟩
    · omega
    have c1 := (hc m hlt).1
    clear hc c
    go_enter Try.func47, Try.ntmps47
    go_wp2_with fail
    go_ret
    exact ⟨ret_int e.out.symm, rfl⟩
end Vo
end Go.Proofs.Ytejfodkobfdelaa

/- Two: plain. -/
namespace Go.Proofs.Ytejfodkobfdelaa
namespace Vo
open Go.ChangeShapes Go.WideShapes Go.ChangeAt Go.RowKit Go.Joins
open Vl Vp Vr
set_option linter.unusedVariables false
set_option linter.unusedSimpArgs false

theorem spr_of_joint {r s : Nat} {D E : Nat → Int} (h : JOk r s D E) : SprOk r (max r s) D (jt r s D E) := by
  obtain ⟨h1, h2, h3, h4⟩ := h
  refine ⟨h4, by omega, fun i hi => ?_⟩
  have d1 := (dok_len h1 hi).1
  have e : bk r D (r - 1 - i) = D i := by unfold bk; rw [if_neg (by omega), show r - 1 - (r - 1 - i) = i by omega]
  have f := h3 (r - 1 - i) (by omega)
  rw [e] at f
  have ej : jt r s D E (max r s - r + i) = max (D i) (bk s E (r - 1 - i)) := by
    unfold jt
    rw [show max r s - 1 - (max r s - r + i) = r - 1 - i by omega, e]
  rw [ej]
  rcases f with f | f | f
  · exact .inl (by omega)
  · exact .inr f
  · exact .inl (by omega)
theorem spr_of_joint2 {r s : Nat} {D E : Nat → Int} (h : JOk r s D E) : SprOk s (max r s) E (jt r s D E) := by
  have := spr_of_joint (JOk_comm.1 h)
  rwa [jt_comm s r E D, Nat.max_comm s r] at this
/-- lengths that can't be joined: one of them has an axis -/
theorem joint_no {r s : Nat} {D E : Nat → Int} (h1 : dok r D = true) (h2 : dok s E = true) (h : ¬ JOk r s D E) : 0 < r ∨ 0 < s := by
  by_cases c : 0 < r ∨ 0 < s
  · exact c
  · obtain ⟨rfl, rfl⟩ : r = 0 ∧ s = 0 := by omega
    exact absurd ⟨h1, h2, fun k hk => absurd hk (by simp), by rw [dok_iff]; exact ⟨by simp, by simp [szR]⟩⟩ h
/-- what stands at place k when a tensor is spread to dims E -/
def sprN (r q : Nat) (D S E : Nat → Int) (k : Nat) : Int := S (od D (sprI r q D (dg E q k)) r).toNat
/-- two tensors joined -/
def twoP (op : Int) (r s : Nat) (D S : Nat → Int) (r' s' : Nat) (D' S' : Nat → Int) : PT :=
  if (1 ≤ op ∧ op ≤ 8) ∧ (tok r s D S = true ∧ tok r' s' D' S' = true) ∧ JOk r r' D D' then
    ⟨max r r', cntT (max r r') (jt r r' D D'), jt r r' D D', fun k => two1 op (sprN r (max r r') D S (jt r r' D D') k) (sprN r' (max r r') D' S' (jt r r' D D') k)⟩ else PT.zero
theorem twoP_no {op : Int} {r s : Nat} {D S : Nat → Int} {r' s' : Nat} {D' S' : Nat → Int} (h : ¬ ((1 ≤ op ∧ op ≤ 8) ∧ (tok r s D S = true ∧ tok r' s' D' S' = true) ∧ JOk r r' D D')) : twoP op r s D S r' s' D' S' = PT.zero := by unfold twoP; rw [if_neg h]
theorem twoP_le (op : Int) (r s : Nat) (D S : Nat → Int) (r' s' : Nat) (D' S' : Nat → Int) : (twoP op r s D S r' s' D' S').r ≤ max r r' ∧ (((twoP op r s D S r' s' D' S').s : Nat) : Int) ≤ 4096 := by
  unfold twoP
  split
  · exact ⟨Nat.le_refl _, cntT_le _ _⟩
  · exact ⟨Nat.zero_le _, by simp [PT.zero]⟩
end Vo
end Go.Proofs.Ytejfodkobfdelaa
