/- For the law on lives: what stays where a nest of one's own is written over. -/
import Derived.Test.YtgmjijjckedmcaaMw
import Derived.Test.YtgmjijjckedmcaaMy
namespace Go.Proofs.Ytgmjijjckedmcaa
namespace Vo
open Go.ChangeShapes Go.WideShapes Go.ChangeAt Go.RowKit Go.Joins Go.Sort
open Vl Vp
set_option linter.unusedVariables false
set_option linter.unusedSimpArgs false
theorem mk_below {lo hi : Nat} {w w' : World} (b : Below w.heap.size w w') : Mk lo hi w w' :=
  ⟨Kept.of_below b, fun p hp => b.frozen hp, fun p k z e => ⟨z, (b.cell (World.block_lt_of_cell? _ _ e)).trans e⟩, fun p x e => ⟨x, (b.cell (World.block_lt_of_cell? _ _ e)).trans e⟩, fun p a n c e => (b.cell (World.block_lt_of_cell? _ _ e)).trans e⟩
theorem OML.keptG {T : Nat → Prop} {B : Nat} {w w' : World} {g n k : Nat} {C : Nat → MV} (h : OML B w g n k C) (hk : Kept T w w') (hn : ¬ T g) : OML B w' g n k C :=
  have e := hk.block g h.lt hn
  h.of (fun i => World.cell?_of_block (a := ⟨g, i, none⟩) e) (fun i => World.frozen?_of_block (a := ⟨g, i, none⟩) e) hk.size
theorem NCopyS.of {v : NV} {w : World} {e : Ending} {w' : World} (h : NCopyS v w e w') : NCopy v w e w' := by
  obtain ⟨u, e1, k, _, s, b⟩ := h
  exact ⟨u, e1, k w' (Kept.refl _ _), s, b⟩
theorem asum_same {n : Nat} {A U : Nat → AV} (h : ∀ i, i < n → (U i).r = (A i).r) : asum U n = asum A n := by
  induction n with
  | zero => rfl
  | succ n ih => show asum U n + (U n).r = asum A n + (A n).r; rw [ih (fun i hi => h i (by omega)), h n (by omega)]
theorem fsum_same {n : Nat} {A U : Nat → FV} (h : ∀ i, i < n → (U i).r = (A i).r) : fsum U n = fsum A n := by
  induction n with
  | zero => rfl
  | succ n ih => show fsum U n + (U n).r = fsum A n + (A n).r; rw [ih (fun i hi => h i (by omega)), h n (by omega)]
theorem ksz_same {k k' : KV} (h : KSame k k') : ksz k' = ksz k := by
  obtain ⟨a1, a2, a3, a4, ⟨a5, a6, a7, a8⟩, a9, a10, a11⟩ := h
  unfold ksz
  rw [a1, a3, a7, a10, asum_same (fun i hi => (a4 i hi).2.2.1)]
theorem kss_same {n : Nat} {K K' : Nat → KV} (h : ∀ i, i < n → KSame (K i) (K' i)) : kss K' n = kss K n := by
  induction n with
  | zero => rfl
  | succ n ih => show kss K' n + ksz (K' n) = kss K n + ksz (K n); rw [ih (fun i hi => h i (by omega)), ksz_same (h n (by omega))]
theorem nsz_same {v u : NV} (h : NSame v u) : nsz u = nsz v := by
  obtain ⟨⟨a1, a2⟩, ⟨a3, a4⟩, ⟨a5, a6⟩, ⟨a7, a8⟩, a9, a10⟩ := h
  unfold nsz
  rw [a1, a3, a5, a7, a9, fsum_same (fun i hi => (a6 i hi).2.1), kss_same a8]
end Vo
end Go.Proofs.Ytgmjijjckedmcaa
