/- Nests that are written over: shapes stay, whatever the numbers become. -/
import Derived.Test.YtgmjijjckedmcaaMu
namespace Go.Proofs.Ytgmjijjckedmcaa
namespace Vo
open Go.ChangeShapes Go.WideShapes Go.ChangeAt Go.RowKit Go.Joins Go.Sort
open Vl Vp
set_option linter.unusedVariables false
set_option linter.unusedSimpArgs false
/-- numbers (and bools) from block lo on may have turned, lists are as they were -/
structure Mk (lo hi : Nat) (w w' : World) : Prop where
  kept : Kept (fun q => lo ≤ q ∧ q < hi) w w'
  frz : ∀ p : Addr, p.block < w.heap.size → w'.frozen? p = w.frozen? p
  int : ∀ p k z, w.cell? p = some (.int k z) → ∃ z', w'.cell? p = some (.int k z')
  bool : ∀ p b, w.cell? p = some (.bool b) → ∃ b', w'.cell? p = some (.bool b')
  slice : ∀ p a n c, w.cell? p = some (.slice a n c) → w'.cell? p = some (.slice a n c)
theorem Mk.refl (lo hi : Nat) (w : World) : Mk lo hi w w := ⟨Kept.refl _ _, fun _ _ => rfl, fun p k z h => ⟨z, h⟩, fun p b h => ⟨b, h⟩, fun p a n c h => h⟩
theorem Mk.trans {lo hi : Nat} {a b c : World} (h : Mk lo hi a b) (g : Mk lo hi b c) : Mk lo hi a c :=
  ⟨h.kept.trans g.kept, fun p hp => (g.frz p (Nat.lt_of_lt_of_le hp h.kept.size)).trans (h.frz p hp), fun p k z e => by obtain ⟨z', e'⟩ := h.int p k z e; exact g.int p k z' e', fun p b e => by obtain ⟨b', e'⟩ := h.bool p b e; exact g.bool p b' e', fun p x n c e => g.slice p x n c (h.slice p x n c e)⟩
theorem Mk.setI {lo hi g o : Nat} {w : World} {z0 : Int} (h : w.cell? ⟨g, o, none⟩ = some (.int .i64 z0)) (hg : lo ≤ g ∧ g < hi) (z : Int) : Mk lo hi w (w.setCell ⟨g, o, none⟩ (.int .i64 z)) := by
  have oth : ∀ p, p ≠ ⟨g, o, none⟩ → (w.setCell ⟨g, o, none⟩ (.int .i64 z)).cell? p = w.cell? p := fun p hp => World.cell?_setCell_other _ _ _ _ (fun e => hp e.symm)
  refine ⟨(Kept.setCell w ⟨g, o, none⟩ _).mono (fun q _ e => by have e : q = g := e; show lo ≤ q ∧ q < hi; omega), fun p _ => World.frozen?_setCell _ _ _ _, fun p k z' e => ?_, fun p b e => ?_, fun p a n c e => ?_⟩
  · by_cases c : p = ⟨g, o, none⟩
    · subst c
      rw [h] at e
      cases e
      exact ⟨z, World.cell?_setCell_same _ _ _ h⟩
    · exact ⟨z', (oth p c).trans e⟩
  · by_cases c : p = ⟨g, o, none⟩
    · subst c; rw [h] at e; cases e
    · exact ⟨b, (oth p c).trans e⟩
  · by_cases d : p = ⟨g, o, none⟩
    · subst d; rw [h] at e; cases e
    · exact (oth p d).trans e
theorem Mk.setB {lo hi g o : Nat} {w : World} {b0 : Bool} (h : w.cell? ⟨g, o, none⟩ = some (.bool b0)) (hg : lo ≤ g ∧ g < hi) (z : Bool) : Mk lo hi w (w.setCell ⟨g, o, none⟩ (.bool z)) := by
  have oth : ∀ p, p ≠ ⟨g, o, none⟩ → (w.setCell ⟨g, o, none⟩ (.bool z)).cell? p = w.cell? p := fun p hp => World.cell?_setCell_other _ _ _ _ (fun e => hp e.symm)
  refine ⟨(Kept.setCell w ⟨g, o, none⟩ _).mono (fun q _ e => by have e : q = g := e; show lo ≤ q ∧ q < hi; omega), fun p _ => World.frozen?_setCell _ _ _ _, fun p k z' e => ?_, fun p b e => ?_, fun p a n c e => ?_⟩
  · by_cases c : p = ⟨g, o, none⟩
    · subst c; rw [h] at e; cases e
    · exact ⟨z', (oth p c).trans e⟩
  · by_cases c : p = ⟨g, o, none⟩
    · subst c; exact ⟨z, World.cell?_setCell_same _ _ _ h⟩
    · exact ⟨b, (oth p c).trans e⟩
  · by_cases d : p = ⟨g, o, none⟩
    · subst d; rw [h] at e; cases e
    · exact (oth p d).trans e
/-- a cell that holds a number and can be written -/
def NumAt (w : World) (g o : Nat) : Prop := (∃ z, w.cell? ⟨g, o, none⟩ = some (.int .i64 z)) ∧ w.frozen? ⟨g, o, none⟩ = false
theorem NumAt.mk {lo hi g o : Nat} {w w' : World} (h : NumAt w g o) (m : Mk lo hi w w') : NumAt w' g o := by
  obtain ⟨⟨z, e⟩, f⟩ := h
  exact ⟨m.int _ _ _ e, (m.frz _ (World.block_lt_of_cell? _ _ e)).trans f⟩
/-- a list of numbers of one's own, whatever they are -/
def ShI (lo hi : Nat) (w : World) (a : Option Addr) (r : Nat) : Prop := r = 0 ∨ ∃ g o, a = some ⟨g, o, none⟩ ∧ (lo ≤ g ∧ g < hi) ∧ ∀ j, j < r → NumAt w g (o + j)
theorem ShI.mk {lo hi : Nat} {w w' : World} {a : Option Addr} {r : Nat} (h : ShI lo hi w a r) (m : Mk lo hi w w') : ShI lo hi w' a r := by
  rcases h with h | ⟨g, o, e, hg, hc⟩
  · exact .inl h
  · exact .inr ⟨g, o, e, hg, fun j hj => (hc j hj).mk m⟩
def ShF (lo hi : Nat) (w : World) (a : Option Addr) (n : Nat) (A : Nat → FV) : Prop := n = 0 ∨ ∃ g o, a = some ⟨g, o, none⟩ ∧ (lo ≤ g ∧ g < hi) ∧ ∀ i, i < n → NumAt w g (o + i * 2) ∧ w.cell? ⟨g, o + i * 2 + 1, none⟩ = some (.slice (A i).a (A i).r (A i).cap) ∧ ShI lo hi w (A i).a (A i).r
theorem ShF.mk {lo hi : Nat} {w w' : World} {a : Option Addr} {n : Nat} {A : Nat → FV} (h : ShF lo hi w a n A) (m : Mk lo hi w w') : ShF lo hi w' a n A := by
  rcases h with h | ⟨g, o, e, hg, hc⟩
  · exact .inl h
  · exact .inr ⟨g, o, e, hg, fun i hi => ⟨(hc i hi).1.mk m, m.slice _ _ _ _ (hc i hi).2.1, (hc i hi).2.2.mk m⟩⟩
def ShA (lo hi : Nat) (w : World) (a : Option Addr) (n : Nat) (A : Nat → AV) : Prop := n = 0 ∨ ∃ g o, a = some ⟨g, o, none⟩ ∧ (lo ≤ g ∧ g < hi) ∧ ∀ i, i < n → NumAt w g (o + i * 3) ∧ NumAt w g (o + i * 3 + 1) ∧ w.cell? ⟨g, o + i * 3 + 2, none⟩ = some (.slice (A i).a (A i).r (A i).cap) ∧ ShI lo hi w (A i).a (A i).r
theorem ShA.mk {lo hi : Nat} {w w' : World} {a : Option Addr} {n : Nat} {A : Nat → AV} (h : ShA lo hi w a n A) (m : Mk lo hi w w') : ShA lo hi w' a n A := by
  rcases h with h | ⟨g, o, e, hg, hc⟩
  · exact .inl h
  · exact .inr ⟨g, o, e, hg, fun i hi => ⟨(hc i hi).1.mk m, (hc i hi).2.1.mk m, m.slice _ _ _ _ (hc i hi).2.2.1, (hc i hi).2.2.2.mk m⟩⟩
def ShC (lo hi : Nat) (w : World) (a : Option Addr) (n : Nat) : Prop := n = 0 ∨ ∃ g o, a = some ⟨g, o, none⟩ ∧ (lo ≤ g ∧ g < hi) ∧ ∀ i, i < n → NumAt w g (o + i * 3) ∧ NumAt w g (o + i * 3 + 1) ∧ NumAt w g (o + i * 3 + 2)
theorem ShC.mk {lo hi : Nat} {w w' : World} {a : Option Addr} {n : Nat} (h : ShC lo hi w a n) (m : Mk lo hi w w') : ShC lo hi w' a n := by
  rcases h with h | ⟨g, o, e, hg, hc⟩
  · exact .inl h
  · exact .inr ⟨g, o, e, hg, fun i hi => ⟨(hc i hi).1.mk m, (hc i hi).2.1.mk m, (hc i hi).2.2.mk m⟩⟩
set_option maxHeartbeats 1000000 in
theorem mkInts (lo hi : Nat) (a : Option Addr) (r cap : Nat) (k : Int) (w : World) (h : ShI lo hi w a r) (k0 : 0 ≤ k) (k1 : k + r ≤ 1099511627776) :
    Calls Try.prog 33 #[.slice a r cap, .int .i64 k] w fun e w' => e = .returned (.int .i64 (k + r)) ∧ Mk lo hi w w' := by
  have H := hide h
  clear h
  go_enter Try.func33, Try.ntmps33
  go_wp2_with fail
  go_loopw [1, 5] (fun c i wx => ∃ j : Nat, j ≤ r ∧ c = .int .i64 (k + j) ∧ i = .int .i64 j ∧ Mk lo hi w wx) (fun _ i _ => r - (intOf i).toNat)
  case atStart => exact ⟨0, Nat.zero_le _, by go_num, rfl, Mk.refl _ _ _⟩
  case round =>
    obtain ⟨X, rfl⟩ : ∃ X, X = wr := ⟨_, rfl⟩
    obtain ⟨j, hj, rfl, rfl, hk⟩ := hrel
    have HK := hide hk
    clear hk
    by_cases hlt : j < r
    · rcases H.out.mk HK.out with h0 | ⟨g, o, rfl, hg, hc⟩
      · omega
      obtain ⟨⟨z, cz⟩, fz⟩ := hc j hlt
      have jI : (j : Int) < r := by omega
      have MS := hide (Mk.setI cz hg (k + j))
      clear hc
      go_wp2_with fail
      go_roundw
      case rel => exact ⟨j + 1, by omega, by go_num, by go_num, HK.out.trans MS.out⟩
      case measure => simp [intOf]; omega
    · obtain rfl : j = r := by omega
      go_wp2_with fail
      go_ret
      exact ⟨rfl, HK.out⟩
set_option maxHeartbeats 2000000 in
theorem mkFixS (lo hi : Nat) (a : Option Addr) (n cap : Nat) (A : Nat → FV) (k : Int) (w : World) (h : ShF lo hi w a n A) (k0 : 0 ≤ k) (k1 : k + ((n + fsum A n : Nat) : Int) ≤ 1099511627776) :
    Calls Try.prog 34 #[.slice a n cap, .int .i64 k] w fun e w' => e = .returned (.int .i64 (k + ((n + fsum A n : Nat) : Int))) ∧ Mk lo hi w w' := by
  have H := hide h
  have MO := hide (fun (i : Nat) (hi : i ≤ n) => fsum_mono (A := A) hi)
  clear h
  go_enter Try.func34, Try.ntmps34
  go_wp2_with fail
  go_loopw [1, 5] (fun c i wx => ∃ (j : Nat) (x : Int), j ≤ n ∧ c = .int .i64 x ∧ i = .int .i64 j ∧ x = k + ((j + fsum A j : Nat) : Int) ∧ Mk lo hi w wx) (fun _ i _ => n - (intOf i).toNat)
  case atStart => exact ⟨0, k, Nat.zero_le _, rfl, rfl, by show k = k + ((0 + 0 : Nat) : Int); omega, Mk.refl _ _ _⟩
  case round =>
    obtain ⟨X, rfl⟩ : ∃ X, X = wr := ⟨_, rfl⟩
    obtain ⟨j, x, hj, rfl, rfl, hx, hk⟩ := hrel
    have HK := hide hk
    have HX := hide hx
    clear hk hx
    by_cases hlt : j < n
    · rcases H.out.mk HK.out with h0 | ⟨g, o, rfl, hg, hc⟩
      · omega
      obtain ⟨⟨⟨z, cz⟩, fz⟩, cs, sd⟩ := hc j hlt
      have jI : (j : Int) < n := by omega
      have m1 := MO.out (j + 1) (by omega)
      have e1 : fsum A (j + 1) = fsum A j + (A j).r := rfl
      have hx := HX.out
      have x0 : 0 ≤ x := by omega
      have x1 : x + 1 + (A j).r ≤ 1099511627776 := by omega
      have wx1 : IntKind.i64.wrap (x + 1) = x + 1 := by rw [IntKind.wrap_i64]; omega
      have MS := hide (Mk.setI cz hg x)
      obtain ⟨X1, hX1⟩ : ∃ X1, X.setCell ⟨g, o + j * 2, none⟩ (.int .i64 x) = X1 := ⟨_, rfl⟩
      rw [hX1] at MS
      have cs1 := MS.out.slice _ _ _ _ cs
      have CM := hide (mkInts lo hi (A j).a (A j).r (A j).cap (x + 1) X1 (sd.mk MS.out) (by omega) x1)
      have NX := hide (show x + 1 + (A j).r = k + ((j + 1 + fsum A (j + 1) : Nat) : Int) by omega)
      clear hc sd hx m1 e1
      go_wp2_with fail
      refine CM.out.mono ?_
      rintro e X2 ⟨rfl, m2⟩
      have M2 := hide ((HK.out.trans MS.out).trans m2)
      clear m2 CM hX1 cs cz cs1
      go_wp2_with fail
      go_roundw
      all_goals first
        | (simp only [intOf]; omega)
        | (simp [intOf]; omega)
        | exact ⟨j + 1, _, by omega, rfl, by go_num, NX.out, M2.out⟩
    · obtain rfl : j = n := by omega
      go_wp2_with fail
      go_ret
      exact ⟨by rw [← HX.out]; rfl, HK.out⟩
set_option maxHeartbeats 2000000 in
theorem mkAccS (lo hi : Nat) (a : Option Addr) (n cap : Nat) (A : Nat → AV) (k : Int) (w : World) (h : ShA lo hi w a n A) (k0 : 0 ≤ k) (k1 : k + ((2 * n + asum A n : Nat) : Int) ≤ 1099511627776) :
    Calls Try.prog 66 #[.slice a n cap, .int .i64 k] w fun e w' => e = .returned (.int .i64 (k + ((2 * n + asum A n : Nat) : Int))) ∧ Mk lo hi w w' := by
  have H := hide h
  have MO := hide (fun (i : Nat) (hi : i ≤ n) => asum_mono (A := A) hi)
  clear h
  go_enter Try.func66, Try.ntmps66
  go_wp2_with fail
  go_loopw [1, 5] (fun c i wx => ∃ (j : Nat) (x : Int), j ≤ n ∧ c = .int .i64 x ∧ i = .int .i64 j ∧ x = k + ((2 * j + asum A j : Nat) : Int) ∧ Mk lo hi w wx) (fun _ i _ => n - (intOf i).toNat)
  case atStart => exact ⟨0, k, Nat.zero_le _, rfl, rfl, by show k = k + ((2 * 0 + 0 : Nat) : Int); omega, Mk.refl _ _ _⟩
  case round =>
    obtain ⟨X, rfl⟩ : ∃ X, X = wr := ⟨_, rfl⟩
    obtain ⟨j, x, hj, rfl, rfl, hx, hk⟩ := hrel
    have HK := hide hk
    have HX := hide hx
    clear hk hx
    by_cases hlt : j < n
    · rcases H.out.mk HK.out with h0 | ⟨g, o, rfl, hg, hc⟩
      · omega
      obtain ⟨⟨⟨z, cz⟩, fz⟩, n2, cs, sd⟩ := hc j hlt
      have jI : (j : Int) < n := by omega
      have m1 := MO.out (j + 1) (by omega)
      have e1 : asum A (j + 1) = asum A j + (A j).r := rfl
      have hx := HX.out
      have x0 : 0 ≤ x := by omega
      have x1 : x + 2 + (A j).r ≤ 1099511627776 := by omega
      have wx1 : IntKind.i64.wrap (x + 1) = x + 1 := by rw [IntKind.wrap_i64]; omega
      have wx2 : IntKind.i64.wrap (x + 1 + 1) = x + 1 + 1 := by rw [IntKind.wrap_i64]; omega
      have MS := hide (Mk.setI cz hg x)
      obtain ⟨X1, hX1⟩ : ∃ X1, X.setCell ⟨g, o + j * 3, none⟩ (.int .i64 x) = X1 := ⟨_, rfl⟩
      rw [hX1] at MS
      obtain ⟨⟨z2, cz2⟩, fz2⟩ := n2.mk MS.out
      have MS2 := hide (Mk.setI cz2 hg (x + 1))
      obtain ⟨X2, hX2⟩ : ∃ X2, X1.setCell ⟨g, o + j * 3 + 1, none⟩ (.int .i64 (x + 1)) = X2 := ⟨_, rfl⟩
      rw [hX2] at MS2
      have cs2 := MS2.out.slice _ _ _ _ (MS.out.slice _ _ _ _ cs)
      have CM := hide (mkInts lo hi (A j).a (A j).r (A j).cap (x + 1 + 1) X2 ((sd.mk MS.out).mk MS2.out) (by omega) (by omega))
      have NX := hide (show x + 1 + 1 + (A j).r = k + ((2 * (j + 1) + asum A (j + 1) : Nat) : Int) by omega)
      clear hc sd hx m1 e1
      go_wp2_with fail
      refine CM.out.mono ?_
      rintro e X3 ⟨rfl, m2⟩
      have M2 := hide (((HK.out.trans MS.out).trans MS2.out).trans m2)
      clear m2 CM hX1 hX2 cs cz cz2 cs2 n2
      go_wp2_with fail
      go_roundw
      all_goals first
        | (simp only [intOf]; omega)
        | (simp [intOf]; omega)
        | exact ⟨j + 1, _, by omega, rfl, by go_num, NX.out, M2.out⟩
    · obtain rfl : j = n := by omega
      go_wp2_with fail
      go_ret
      exact ⟨by rw [← HX.out]; rfl, HK.out⟩
set_option maxHeartbeats 2000000 in
theorem mkCalcS (lo hi : Nat) (a : Option Addr) (n cap : Nat) (k : Int) (w : World) (h : ShC lo hi w a n) (k0 : 0 ≤ k) (k1 : k + ((3 * n : Nat) : Int) ≤ 1099511627776) :
    Calls Try.prog 67 #[.slice a n cap, .int .i64 k] w fun e w' => e = .returned (.int .i64 (k + ((3 * n : Nat) : Int))) ∧ Mk lo hi w w' := by
  have H := hide h
  clear h
  go_enter Try.func67, Try.ntmps67
  go_wp2_with fail
  go_loopw [1, 5] (fun c i wx => ∃ (j : Nat) (x : Int), j ≤ n ∧ c = .int .i64 x ∧ i = .int .i64 j ∧ x = k + ((3 * j : Nat) : Int) ∧ Mk lo hi w wx) (fun _ i _ => n - (intOf i).toNat)
  case atStart => exact ⟨0, k, Nat.zero_le _, rfl, rfl, by omega, Mk.refl _ _ _⟩
  case round =>
    obtain ⟨X, rfl⟩ : ∃ X, X = wr := ⟨_, rfl⟩
    obtain ⟨j, x, hj, rfl, rfl, hx, hk⟩ := hrel
    have HK := hide hk
    have HX := hide hx
    clear hk
    by_cases hlt : j < n
    · rcases H.out.mk HK.out with h0 | ⟨g, o, rfl, hg, hc⟩
      · omega
      obtain ⟨⟨⟨z, cz⟩, fz⟩, n2, n3⟩ := hc j hlt
      have jI : (j : Int) < n := by omega
      have x0 : 0 ≤ x := by omega
      have x1 : x + 3 ≤ 1099511627776 := by omega
      have wx1 : IntKind.i64.wrap (x + 1) = x + 1 := by rw [IntKind.wrap_i64]; omega
      have wx2 : IntKind.i64.wrap (x + 1 + 1) = x + 1 + 1 := by rw [IntKind.wrap_i64]; omega
      have wx3 : IntKind.i64.wrap (x + 1 + 1 + 1) = x + 1 + 1 + 1 := by rw [IntKind.wrap_i64]; omega
      have MS := hide (Mk.setI cz hg x)
      obtain ⟨X1, hX1⟩ : ∃ X1, X.setCell ⟨g, o + j * 3, none⟩ (.int .i64 x) = X1 := ⟨_, rfl⟩
      rw [hX1] at MS
      obtain ⟨⟨z2, cz2⟩, fz2⟩ := n2.mk MS.out
      have MS2 := hide (Mk.setI cz2 hg (x + 1))
      obtain ⟨X2, hX2⟩ : ∃ X2, X1.setCell ⟨g, o + j * 3 + 1, none⟩ (.int .i64 (x + 1)) = X2 := ⟨_, rfl⟩
      rw [hX2] at MS2
      obtain ⟨⟨z3, cz3⟩, fz3⟩ := (n3.mk MS.out).mk MS2.out
      have MS3 := hide (Mk.setI cz3 hg (x + 1 + 1))
      obtain ⟨X3, hX3⟩ : ∃ X3, X2.setCell ⟨g, o + j * 3 + 2, none⟩ (.int .i64 (x + 1 + 1)) = X3 := ⟨_, rfl⟩
      rw [hX3] at MS3
      have NX := hide (show x + 1 + 1 + 1 = k + ((3 * (j + 1) : Nat) : Int) by omega)
      have M2 := hide (((HK.out.trans MS.out).trans MS2.out).trans MS3.out)
      clear hc hx n2 n3
      go_wp2_with fail
      go_roundw
      all_goals first
        | (simp only [intOf]; omega)
        | (simp [intOf]; omega)
        | exact ⟨j + 1, _, by omega, rfl, by go_num, NX.out, M2.out⟩
    · obtain rfl : j = n := by omega
      clear hx
      go_wp2_with fail
      go_ret
      exact ⟨by rw [← HX.out]; rfl, HK.out⟩
end Vo
end Go.Proofs.Ytgmjijjckedmcaa
