/- For the law on Pack: lives that are written over. -/
import Derived.Test.YtpmkjifpoikdjaaHi
namespace Go.Proofs.Ytpmkjifpoikdjaa
namespace Vo
open Go.ChangeShapes Go.WideShapes Go.ChangeAt Go.RowKit Go.Joins Go.Sort
open Vl Vp
set_option linter.unusedVariables false
set_option linter.unusedSimpArgs false
def updL (U : Nat → MV) (j : Nat) (x : MV) : Nat → MV := fun i => if i = j then x else U i
theorem oml_sameL {B : Nat} {w : World} {g n : Nat} {C D : Nat → MV} (h : OML B w g n n C) (e : ∀ i, i < n → D i = C i) : OML B w g n n D := ⟨h.lo, h.lt, fun i hi => by rw [e i hi]; exact h.laid i hi, h.rest, h.free⟩
theorem lm_same {B : Nat} {w : World} {a : Option Addr} {n : Nat} {C U : Nat → MV} (h : LM B w a n U) (e : MSame n C U) : LM B w a n C := by
  rcases h with h | ⟨blk, off, rfl, hB, hc⟩
  · exact .inl h
  · exact .inr ⟨blk, off, rfl, hB, fun i hi => by rw [← e i hi]; exact hc i hi⟩
theorem pkN_le (n : Nat) (C : Nat → MV) : pkN n C ≤ n := by unfold pkN; split <;> omega
theorem oml_s4 {B : Nat} {X : World} {g n j : Nat} {b s f t : Int} {U : Nat → MV} (h : OML B X g n n U) (hj : j < n) (hd : bd b ∧ bd s ∧ bd f ∧ bd t) :
    OML B ((((X.setCell ⟨g, j * 4, none⟩ (.int .i64 b)).setCell ⟨g, j * 4 + 1, none⟩ (.int .i64 s)).setCell ⟨g, j * 4 + 2, none⟩ (.int .i64 f)).setCell ⟨g, j * 4 + 3, none⟩ (.int .i64 t)) g n n (updL U j ⟨b, s, f, t⟩) := by
  obtain ⟨⟨e0, e1, e2, e3⟩, _⟩ := h.laid j hj
  have far : ∀ q, q ≠ j * 4 → q ≠ j * 4 + 1 → q ≠ j * 4 + 2 → q ≠ j * 4 + 3 → ((((X.setCell ⟨g, j * 4, none⟩ (.int .i64 b)).setCell ⟨g, j * 4 + 1, none⟩ (.int .i64 s)).setCell ⟨g, j * 4 + 2, none⟩ (.int .i64 f)).setCell ⟨g, j * 4 + 3, none⟩ (.int .i64 t)).cell? ⟨g, q, none⟩ = X.cell? ⟨g, q, none⟩ := fun q n0 n1 n2 n3 => by
    rw [World.cell?_setCell_other _ _ _ _ (by intro e; injection e with _ e _; omega), World.cell?_setCell_other _ _ _ _ (by intro e; injection e with _ e _; omega), World.cell?_setCell_other _ _ _ _ (by intro e; injection e with _ e _; omega), World.cell?_setCell_other _ _ _ _ (by intro e; injection e with _ e _; omega)]
  refine ⟨h.lo, by simpa [World.setCell] using h.lt, fun i hi => ?_, fun i h1 h2 => by omega, fun i => by rw [World.frozen?_setCell, World.frozen?_setCell, World.frozen?_setCell, World.frozen?_setCell]; exact h.free i⟩
  unfold updL
  by_cases c : i = j
  · subst c
    simp only [if_true]
    refine ⟨⟨?_, ?_, ?_, ?_⟩, hd⟩
    · rw [World.cell?_setCell_other _ _ _ _ (by intro e; injection e with _ e _; omega), World.cell?_setCell_other _ _ _ _ (by intro e; injection e with _ e _; omega), World.cell?_setCell_other _ _ _ _ (by intro e; injection e with _ e _; omega)]
      exact World.cell?_setCell_same _ _ _ e0
    · rw [World.cell?_setCell_other _ _ _ _ (by intro e; injection e with _ e _; omega), World.cell?_setCell_other _ _ _ _ (by intro e; injection e with _ e _; omega)]
      exact World.cell?_setCell_same _ _ _ ((World.cell?_setCell_other _ _ _ _ (by intro e; injection e with _ e _; omega)).trans e1)
    · rw [World.cell?_setCell_other _ _ _ _ (by intro e; injection e with _ e _; omega)]
      exact World.cell?_setCell_same _ _ _ ((World.cell?_setCell_other _ _ _ _ (by intro e; injection e with _ e _; omega)).trans ((World.cell?_setCell_other _ _ _ _ (by intro e; injection e with _ e _; omega)).trans e2))
    · exact World.cell?_setCell_same _ _ _ ((World.cell?_setCell_other _ _ _ _ (by intro e; injection e with _ e _; omega)).trans ((World.cell?_setCell_other _ _ _ _ (by intro e; injection e with _ e _; omega)).trans ((World.cell?_setCell_other _ _ _ _ (by intro e; injection e with _ e _; omega)).trans e3)))
  · simp only [c, if_false]
    rw [far _ (by omega) (by omega) (by omega) (by omega), far _ (by omega) (by omega) (by omega) (by omega), far _ (by omega) (by omega) (by omega) (by omega), far _ (by omega) (by omega) (by omega) (by omega)]
    exact h.laid i hi
theorem kept_s4 (X : World) (g a b c d : Nat) (u0 u1 u2 u3 : Value) : Kept (· = g) X ((((X.setCell ⟨g, a, none⟩ u0).setCell ⟨g, b, none⟩ u1).setCell ⟨g, c, none⟩ u2).setCell ⟨g, d, none⟩ u3) :=
  (((Kept.setCell X ⟨g, a, none⟩ u0).trans (Kept.setCell _ ⟨g, b, none⟩ u1)).trans (Kept.setCell _ ⟨g, c, none⟩ u2)).trans (Kept.setCell _ ⟨g, d, none⟩ u3)
/-- lives that were written over -/
def mkL (k : Int) : Nat → MV := fun i => ⟨k + 4 * i, k + 4 * i + 1, k + 4 * i + 1 + 1, k + 4 * i + 1 + 1 + 1⟩
set_option maxHeartbeats 2000000 in
theorem markLS (B g n c : Nat) (C : Nat → MV) (k : Int) (w : World) (h : OML B w g n n C) (hn : (n : Int) ≤ 1048576) (k0 : 0 ≤ k) (k1 : k ≤ 67108864) :
    Calls Try.prog 11 #[.slice (some ⟨g, 0, none⟩) n c, .int .i64 k] w fun e w' => e = .returned (.int .i64 (k + 4 * n)) ∧ OML B w' g n n (mkL k) ∧ Kept (· = g) w w' := by
  have H := hide h
  clear h
  go_enter Try.func11, Try.ntmps11
  go_wp2_with fail
  go_loopw [1, 5] (fun x i wx => ∃ (j : Nat) (y : Int) (E : Nat → MV), j ≤ n ∧ x = .int .i64 y ∧ i = .int .i64 j ∧ y = k + 4 * j ∧ OML B wx g n n E ∧ (∀ t, t < j → E t = mkL k t) ∧ Kept (· = g) w wx) (fun _ i _ => n - (intOf i).toNat)
  case atStart => exact ⟨0, k, C, Nat.zero_le _, rfl, rfl, by omega, H.out, fun t ht => by omega, Kept.refl _ _⟩
  case round =>
    obtain ⟨X, rfl⟩ : ∃ X, X = wr := ⟨_, rfl⟩
    obtain ⟨j, y, E, hj, rfl, rfl, hy, ho, he, hk⟩ := hrel
    have HO := hide ho
    have HE := hide he
    have HK := hide hk
    have HY := hide hy
    clear ho he hk
    by_cases hlt : j < n
    · have jI : (j : Int) < n := by omega
      obtain ⟨⟨c0, c1, c2, c3⟩, _⟩ := HO.out.laid j hlt
      have f0 := HO.out.free (j * 4)
      have f1 := HO.out.free (j * 4 + 1)
      have f2 := HO.out.free (j * 4 + 2)
      have f3 := HO.out.free (j * 4 + 3)
      have y0 : 0 ≤ y := by omega
      have y1 : y ≤ 71303168 := by omega
      have w1 : IntKind.i64.wrap (y + 1) = y + 1 := by rw [IntKind.wrap_i64]; omega
      have w2 : IntKind.i64.wrap (y + 1 + 1) = y + 1 + 1 := by rw [IntKind.wrap_i64]; omega
      have w3 : IntKind.i64.wrap (y + 1 + 1 + 1) = y + 1 + 1 + 1 := by rw [IntKind.wrap_i64]; omega
      have w4 : IntKind.i64.wrap (y + 1 + 1 + 1 + 1) = y + 1 + 1 + 1 + 1 := by rw [IntKind.wrap_i64]; omega
      have OS := hide (oml_s4 (b := y) (s := y + 1) (f := y + 1 + 1) (t := y + 1 + 1 + 1) HO.out hlt ⟨by unfold bd; omega, by unfold bd; omega, by unfold bd; omega, by unfold bd; omega⟩)
      have NE := hide (show ∀ t, t < j + 1 → updL E j ⟨y, y + 1, y + 1 + 1, y + 1 + 1 + 1⟩ t = mkL k t from fun t ht => by
        unfold updL
        by_cases d : t = j
        · rw [if_pos d, d]; unfold mkL; rw [HY.out]
        · rw [if_neg d]; exact HE.out t (by omega))
      have NY := hide (show y + 1 + 1 + 1 + 1 = k + 4 * ((j + 1 : Nat) : Int) by omega)
      clear hy
      go_wp2_with fail
      go_roundw
      all_goals first
        | (simp only [intOf]; omega)
        | (simp [intOf]; omega)
        | exact ⟨j + 1, _, _, by omega, rfl, by go_num, NY.out, OS.out, NE.out, HK.out.trans (kept_s4 _ _ _ _ _ _ _ _ _ _)⟩
    · obtain rfl : j = n := by omega
      clear hy
      go_wp2_with fail
      go_ret
      exact ⟨by rw [← HY.out]; rfl, oml_sameL HO.out (fun i hi => (HE.out i hi).symm), HK.out⟩
end Vo
end Go.Proofs.Ytpmkjifpoikdjaa
