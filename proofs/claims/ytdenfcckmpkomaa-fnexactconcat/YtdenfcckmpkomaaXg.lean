/- Concat of copies, plain. -/
import Derived.Test.YtdenfcckmpkomaaXa
namespace Go.Proofs.Ytdenfcckmpkomaa
namespace Vo
open Vl Vp
set_option linter.unusedVariables false
theorem tot_same {L M : Nat → Int} {n : Nat} (h : ∀ i, i < n → M i = L i) {j : Nat} (hj : j ≤ n) : tot M j = tot L j := by
  induction j with
  | zero => rfl
  | succ j ih => show tot M j + M j = tot L j + L j; rw [ih (by omega), h j (by omega)]
theorem conL_same {n : Nat} {T U : Nat → TV} (h : TSame n T U) (x : Int) : ∀ i, i < n → conL x U i = conL x T i := fun i hi => by unfold conL; rw [(h i hi).2.2.1]
theorem conOk_same {n : Nat} {T U : Nat → TV} (h : TSame n T U) (x : Int) : ConOk n x U ↔ ConOk n x T := by
  constructor
  · rintro ⟨n1, n6, q⟩
    refine ⟨n1, n6, fun i hi => ?_⟩
    have := q i hi
    obtain ⟨e1, e2, e3, e4, _⟩ := h i hi
    obtain ⟨f1, f2, f3, f4, _⟩ := h 0 (by omega)
    rwa [e1, e2, e3, e4, f1, f3] at this
  · rintro ⟨n1, n6, q⟩
    refine ⟨n1, n6, fun i hi => ?_⟩
    have := q i hi
    obtain ⟨e1, e2, e3, e4, _⟩ := h i hi
    obtain ⟨f1, f2, f3, f4, _⟩ := h 0 (by omega)
    rwa [e1, e2, e3, e4, f1, f3]
theorem conP_same {n : Nat} {T U : Nat → TV} (h : TSame n T U) (x : Int) : conP n x U = conP n x T := by
  by_cases c : ConOk n x T
  · have cU := (conOk_same h x).2 c
    have n1 := c.1
    obtain ⟨f1, f2, f3, f4, _⟩ := h 0 (by omega)
    have eN := tot_same (conL_same h x) (Nat.le_refl n)
    have eD : conD n x U = conD n x T := by unfold conD; rw [f3, eN]
    have eB : conB x U = conB x T := by unfold conB; rw [f1, f3]
    have eS : ∀ p : Int, conS n x U p = conS n x T p := fun p => by
      have N1 : 0 < tot (conL x T) n := by have := tot_mono c.pos (i := 0) (j := n) (by omega) (Nat.le_refl _); have : tot (conL x T) 0 = 0 := rfl; omega
      obtain ⟨k, hk, h0, h1⟩ := pk_ex (L := conL x T) (n := n) (y := p / conB x T % tot (conL x T) n) (Int.emod_nonneg _ (by omega)) (Int.emod_lt_of_pos _ N1)
      have eU : pk (conL x U) (p / conB x T % tot (conL x T) n) n = k := pk_is cU.pos hk (by rw [tot_same (conL_same h x) (by omega)]; exact h0) (by rw [tot_same (conL_same h x) (by omega)]; exact h1)
      unfold conS
      rw [eN, eB, eU, pk_is c.pos hk h0 h1, (h k hk).2.2.2.1, conL_same h x k hk, tot_same (conL_same h x) (Nat.le_of_lt hk)]
    unfold conP
    rw [eD, f1]
    by_cases d : dok (T 0).r (conD n x T) = true
    · rw [if_pos ⟨cU, d⟩, if_pos ⟨c, d⟩]
      congr 1
      funext p
      exact eS p
    · rw [if_neg (fun e => d e.2), if_neg (fun e => d e.2)]
  · rw [conP_no (fun e => c e.1), conP_no (fun e => c ((conOk_same h x).1 e.1))]
theorem conP_le {n : Nat} {x : Int} {T : Nat → TV} : ((conP n x T).r : Int) ≤ 6 ∧ ((conP n x T).s : Int) ≤ 4096 := by
  by_cases c : ConOk n x T ∧ dok (T 0).r (conD n x T) = true
  · rw [conP_yes c.1 c.2]
    have := (dok_iff.1 c.2).1
    exact ⟨by show ((T 0).r : Int) ≤ 6; omega, cntT_le _ _⟩
  · rw [conP_no c]
    exact ⟨by show ((0 : Nat) : Int) ≤ 6; omega, by show ((0 : Nat) : Int) ≤ 4096; omega⟩
theorem tsum_same {n : Nat} {T U : Nat → TV} (h : TSame n T U) : tsum U n = tsum T n := by
  have q : ∀ m, m ≤ n → tsum U m = tsum T m := by
    intro m
    induction m with
    | zero => intro _; rfl
    | succ m ih => intro hm; show tsum U m + ((U m).r + (U m).s) = tsum T m + ((T m).r + (T m).s); rw [ih (by omega), (h m (by omega)).1, (h m (by omega)).2.1]
  exact q n (Nat.le_refl _)
end Vo
end Go.Proofs.Ytdenfcckmpkomaa
