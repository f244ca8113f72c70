/- Two: what spreadTo answers, plain. -/
import Derived.Test.YtldcacdopijfdabUo
import Derived.Test.YtldcacdopijfdabUq
namespace Go.Proofs.Ytldcacdopijfdab
namespace Vo
open Go.ChangeShapes Go.WideShapes Go.ChangeAt Go.RowKit Go.Joins
open Vl Vp Vr
set_option linter.unusedVariables false
set_option linter.unusedSimpArgs false

/-- a tensor spread to these dims -/
def sprT (r s : Nat) (D S : Nat → Int) (q : Nat) (E : Nat → Int) : PT := if tok r s D S = true ∧ SprOk r q D E then ⟨q, cntT q E, E, sprN r q D S E⟩ else PT.zero
theorem sprV_vok {r q : Nat} {D E : Nat → Int} (hD : dok r D = true) (h : SprOk r q D E) : vok q q E (sprS r q D (stW D r) E r) 0 (szR D r) = true := by
  have hd := fun i (hi : i < r) => (dok_len hD hi).1
  have hE := fun i (hi : i < q) => (dok_len h.1 hi).1
  have pl := fun k => spr_place h hd k hE
  have rg := fun k => od_rng D (sprI r q D (dg E q k)) r (sprI_rng h hd (dg_rng E q hE k))
  have dp := dok_pr hD
  obtain ⟨k1, _, _, e1⟩ := lo_at (S := sprS r q D (stW D r) E r) q hE
  obtain ⟨k2, _, _, e2⟩ := hi_at (S := sprS r q D (stW D r) E r) q hE
  have a1 := rg k1
  have a2 := rg k2
  rw [← pl, e1] at a1
  rw [← pl, e2] at a2
  have p1 := pr_pos hd
  have sz := szR_rng D r
  rw [vok_iff]
  refine ⟨h.1, rfl, by omega, by omega, by omega, by omega, fun j hj => ?_, by omega, by omega⟩
  unfold sprS
  split
  · unfold stW
    split
    · omega
    · have := bh_le hd (r - 1 - (j - (q - r))) (by omega)
      omega
  · omega
theorem wholeV_vok {r : Nat} {D : Nat → Int} (hD : dok r D = true) : vok r r D (stW D r) 0 (szR D r) = true := by
  have := sprV_vok (E := D) hD ⟨hD, Nat.le_refl _, fun i hi => .inl (by rw [show r - r + i = i by omega])⟩
  rw [← this]
  refine vok_same (fun j hj => rfl) (fun j hj => ?_)
  unfold sprS
  rw [if_pos ⟨by omega, by omega, by rw [show j - (r - r) = j by omega]⟩, show j - (r - r) = j by omega]
theorem spreadP (r s : Nat) (D S : Nat → Int) (q : Nat) (E : Nat → Int) : (let v := turnedV (wholeV r D).r (wholeV r D).s (wholeV r D).D (wholeV r D).S (wholeV r D).o (wholeV r D).n (sprV (wholeV r D).r q (wholeV r D).D (wholeV r D).S E (wholeV r D).o (wholeV r D).n); lookP r s D S v.r v.s v.D v.S v.o v.n) = sprT r s D S q E := by
  by_cases ht : tok r s D S = true
  rotate_left
  · unfold sprT
    rw [if_neg (fun q => ht q.1)]
    exact lookP_no (fun q => ht q.1)
  have tp := tok_parts ht
  rw [wholeV_yes tp.1]
  dsimp only
  by_cases hs : SprOk r q D E
  · rw [sprV_yes hs]
    have hv := sprV_vok tp.1 hs
    have e : turnedV r r D (stW D r) 0 (szR D r) ⟨q, q, E, sprS r q D (stW D r) E r, 0, szR D r⟩ = ⟨q, q, E, sprS r q D (stW D r) E r, 0, szR D r⟩ := by
      unfold turnedV
      rw [if_pos (wholeV_vok tp.1)]
      unfold PV.orZero PV.ok
      rw [if_pos hv]
    rw [e]
    dsimp only
    rw [lookP_yes ⟨ht, hv, tp.2.1⟩]
    unfold sprT
    rw [if_pos ⟨ht, hs⟩]
    have e1 : cntS q q E (sprS r q D (stW D r) E r) 0 (szR D r) = cntT q E := by unfold cntS cntT; rw [if_pos hv]
    have e2 : (fun j : Nat => S (plcN E (sprS r q D (stW D r) E r) q 0 j).toNat) = sprN r q D S E := by
      funext j
      unfold plcN sprN
      rw [spr_place hs (fun i hi => (dok_len tp.1 hi).1) j (fun i hi => (dok_len hs.1 hi).1), Int.zero_add]
    rw [e1, e2]
  · have ez : turnedV r r D (stW D r) 0 (szR D r) PV.zero = PV.zero := by
      unfold turnedV PV.orZero
      split <;> first | rfl | (split <;> rfl)
    rw [sprV_no hs, ez]
    unfold sprT
    rw [if_neg (fun q => hs q.2)]
    exact lookP_no (fun q => by have := (vok_iff.1 q.2.1).2.2.1; exact absurd this (by decide))
theorem sprT_le (r s : Nat) (D S : Nat → Int) (q : Nat) (E : Nat → Int) : (sprT r s D S q E).r ≤ q ∧ (((sprT r s D S q E).s : Nat) : Int) ≤ 4096 := by
  unfold sprT
  split
  · exact ⟨Nat.le_refl _, cntT_le _ _⟩
  · exact ⟨Nat.zero_le _, by simp [PT.zero]⟩
theorem sprT_no {r s : Nat} {D S : Nat → Int} {q : Nat} {E : Nat → Int} (h : ¬ (tok r s D S = true ∧ SprOk r q D E)) : tok (sprT r s D S q E).r (sprT r s D S q E).s (sprT r s D S q E).D (sprT r s D S q E).S = false := by
  unfold sprT
  rw [if_neg h]
  exact tok_no2 (by simp [PT.zero, szR, dok, pr])
theorem sprT_yes {r s : Nat} {D S : Nat → Int} {q : Nat} {E : Nat → Int} (h : tok r s D S = true ∧ SprOk r q D E) : sprT r s D S q E = ⟨q, cntT q E, E, sprN r q D S E⟩ := by unfold sprT; rw [if_pos h]
theorem sprN_isN {r s : Nat} {D S : Nat → Int} {q : Nat} {E : Nat → Int} (h : tok r s D S = true) (h' : SprOk r q D E) (k : Nat) : isN (sprN r q D S E k) := by
  have tp := tok_parts h
  have hd := fun i (hi : i < r) => (dok_len tp.1 hi).1
  have hE := fun i (hi : i < q) => (dok_len h'.1 hi).1
  have o := od_rng D (sprI r q D (dg E q k)) r (sprI_rng h' hd (dg_rng E q hE k))
  have := tp.2.2 (od D (sprI r q D (dg E q k)) r).toNat (by have := (dok_pr tp.1).1; have := tp.2.1; omega)
  exact this
theorem sprT_tok {r s : Nat} {D S : Nat → Int} {q : Nat} {E : Nat → Int} (h : tok r s D S = true) (h' : SprOk r q D E) : tok q (cntT q E) E (sprN r q D S E) = true :=
  tok_yes h'.1 (cntT_cast _ _) (fun k _ => sprN_isN h h' k)
end Vo
end Go.Proofs.Ytldcacdopijfdab
