/- Lines along an axis: lengthAt, withLength, clear. -/
import Derived.Test.YtbdcbanbnbaoiaaTc
import Derived.Test.YtbdcbanbnbaoiaaLn
import Derived.Lib.SliceRun
namespace Go.Proofs.Ytbdcbanbnbaoiaa
namespace Vo
open Go.ChangeShapes Go.WideShapes Go.ChangeAt Go.RowKit Go.Joins
open Vl Vp Vr
set_option linter.unusedVariables false
set_option linter.unusedSimpArgs false

theorem tok_split {r s : Nat} {D S : Nat → Int} (h : tok r s D S = true) : dok r D = true ∧ szR D r = (s : Int) ∧ WI s S 2147483647 := by
  unfold tok wi at h
  simp only [Bool.and_eq_true, decide_eq_true_eq] at h
  exact ⟨h.1.1, h.1.2.symm, h.2⟩
/-- how long an axis is; 0: there is none -/
def lenA (r s : Nat) (D S : Nat → Int) (x : Int) : Int := if tok r s D S = true ∧ 0 ≤ x ∧ x < r then D x.toNat else 0
theorem lenA_no {r s : Nat} {D S : Nat → Int} {x : Int} (h : ¬ (tok r s D S = true ∧ 0 ≤ x ∧ x < r)) : lenA r s D S x = 0 := by unfold lenA; rw [if_neg h]
theorem lenA_yes {r s : Nat} {D S : Nat → Int} {x : Int} (h : tok r s D S = true ∧ 0 ≤ x ∧ x < r) : lenA r s D S x = D x.toNat := by unfold lenA; rw [if_pos h]
theorem lenA_rng (r s : Nat) (D S : Nat → Int) (x : Int) : 0 ≤ lenA r s D S x ∧ lenA r s D S x ≤ 4096 := by
  by_cases h : tok r s D S = true ∧ 0 ≤ x ∧ x < r
  · rw [lenA_yes h]
    have := dok_len (tok_split h.1).1 (j := x.toNat) (by omega)
    omega
  · rw [lenA_no h]; omega
theorem lenA_zero {r s : Nat} {D S : Nat → Int} {x : Int} : lenA r s D S x = 0 ↔ ¬ (tok r s D S = true ∧ 0 ≤ x ∧ x < r) := by
  constructor
  · intro e h
    rw [lenA_yes h] at e
    have := dok_len (tok_split h.1).1 (j := x.toNat) (by omega)
    omega
  · exact lenA_no
theorem zeroInt (w : World) : (zeroValue 3).run Try.prog w = .ok (.int .i64 0) w := by
  obtain ⟨i0, hi0, hz0, hz1, hz2⟩ := info_parts infoInt
  simp [zeroValue, hi0, hz0, go_sem, Try.t3]
theorem clearRow {w : World} {g n c : Nat} {f : Nat → Int} (h : Rw w g n f) (hn : 0 < n) (ty : TypeId) :
    (Builtin.clear_ #[26] ty #[.slice (some ⟨g, 0, none⟩) n c]).run Try.prog w = .ok (.tuple #[]) (w.setCells g 0 (List.replicate n (.int .i64 0))) :=
  Lib.run_clear_slice w 26 3 ty (.int .i64 0) Try.underlying26 zeroInt rfl rfl g 0 n c hn (fun j hj => by rw [Nat.zero_add, (h j hj).1]; rfl) (fun j hj => by rw [Nat.zero_add]; exact (h j hj).2.1)
theorem kept_setCells (g : Nat) : ∀ (vs : List Value) (o : Nat) (w : World), Kept (· = g) w (w.setCells g o vs)
  | [], _, w => Kept.refl _ w
  | v :: vs, o, w => (Kept.setCell w ⟨g, o, none⟩ v).trans (kept_setCells g vs (o + 1) _)
theorem rw_cleared {w : World} {g n : Nat} {f : Nat → Int} (h : Rw w g n f) : Rw (w.setCells g 0 (List.replicate n (.int .i64 0))) g n (fun _ => 0) := fun t ht => by
  have q := World.cell?_setCells_in g (List.replicate n (.int .i64 0)) 0 w (fun j hj => by rw [Nat.zero_add, (h j (by simpa using hj)).1]; rfl) t (by simpa using ht)
  rw [Nat.zero_add] at q
  refine ⟨by rw [q]; simp, ?_, by unfold bd; constructor <;> simp⟩
  rw [World.frozen?_setCells]
  exact (h t ht).2.1
end Vo
end Go.Proofs.Ytbdcbanbnbaoiaa
