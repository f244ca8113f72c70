/- What a law on bytes draws: a scale with a real, reals. -/
import Derived.Test.YtabjpemneimljaaOg
import Derived.BigQuiet
namespace Go.Proofs.Ytabjpemneimljaa
namespace Vo
open Go.ChangeShapes Go.WideShapes Go.ChangeAt Go.RowKit Go.Joins Go.Sort
open Vl
set_option linter.unusedVariables false
set_option linter.unusedSimpArgs false
/-- a scale and a real were drawn -/
def DQE (w : World) (e : Ending) (w' : World) : Prop :=
  ∃ x0 x1 t : Int, e = .returned (.tuple #[.agg #[.int .i64 x0, .int .i64 x1], .int .i64 t]) ∧ (bd x0 ∧ bd x1) ∧ (-1099511627777 ≤ t ∧ t ≤ 1099511627777) ∧ Below w.heap.size w w'
set_option maxHeartbeats 2000000 in
theorem drawQuantise (a : Option Addr) (len cap : Nat) (w : World) (hc : Base.Code w.heap.size w a len) (hlen : len ≤ 1048576) :
    Calls Try.prog 9 #[.slice a len cap] w (DQE w) := by
  obtain ⟨W0, hW0⟩ : ∃ W0, w.alloc (.cells #[.int .i64 0, .int .i64 0] 25) = W0 := ⟨_, rfl⟩
  have B0 := Base.hide (show Below w.heap.size w W0 from hW0 ▸ (Below.refl _ _).alloc (Nat.le_refl _) _)
  have R0 := Base.hide (show (∀ i, i < 2 → W0.cell? ⟨w.heap.size, i, none⟩ = some (.int .i64 0)) ∧ (∀ i, W0.frozen? ⟨w.heap.size, i, none⟩ = false) from hW0 ▸ ⟨fun i hi => by rcases (by omega : i = 0 ∨ i = 1) with rfl | rfl <;> simp [go_sem], fun i => by simp [go_sem]⟩)
  have Z0 := Base.hide (show W0.heap.size = w.heap.size + 1 by rw [← hW0]; simp)
  have HC := Base.hide ((hc.below B0.out).mono B0.out.size)
  clear hc
  go_enter Try.func9, Try.ntmps9
  go_wp2_with fail
  refine (Base.l1New a len cap _ HC.out hlen).mono ?_; rintro e w1 ⟨rfl, d1, n1⟩
  have BR := Base.hide n1
  have D1 := Base.hide d1
  have S1 := Base.hide d1.lt
  clear d1 n1 hW0
  go_wp2_with fail
  refine (drawScale W0.heap.size W0.heap.size a len cap _ D1.out (Nat.le_of_lt S1.out)).mono ?_; rintro e w2 ⟨x0, x1, rfl, b0, b1, d2, g2⟩
  have BD := Base.hide (And.intro b0 b1)
  replace BR := Base.hide (BR.out.trans (D1.out.below g2))
  have s2 := d2.lt
  have D2 := Base.hide d2
  clear d2 g2 D1 S1 b0 b1
  obtain ⟨W3, hW3⟩ : ∃ W3, w2.alloc (.cells #[.int .i64 x0, .int .i64 x1] 25) = W3 := ⟨_, rfl⟩
  have KV := Base.hide (show W3.cell? ⟨w2.heap.size, 0, none⟩ = some (.int .i64 x0) ∧ W3.cell? ⟨w2.heap.size, 1, none⟩ = some (.int .i64 x1) from hW3 ▸ ⟨by simp [go_sem], by simp [go_sem]⟩)
  have VX := Base.hide (show w2.heap.size < W3.heap.size by rw [← hW3]; simp)
  have PV := Base.hide s2
  have DC := Base.hide (hW3 ▸ D2.out.alloc _ : Base.Cur W0.heap.size W3 W0.heap.size a len cap)
  replace BR := Base.hide (BR.out.trans (show Below W0.heap.size w2 W3 from hW3 ▸ (Below.refl _ _).alloc (Nat.le_of_lt s2) _))
  clear s2 D2
  go_wp2_with fail
  obtain ⟨V, hV⟩ : ∃ V, w2.heap.size = V := ⟨_, rfl⟩
  rw [hV] at KV VX PV ⊢
  clear hV hW3
  have DR := Base.hide (show Base.Cur W0.heap.size W3.drew W0.heap.size a len cap ∧ W3.grownBy W3.drew (some W0.heap.size) from ⟨⟨DC.out.hp, DC.out.code.below (Below.refl _ _).drew, DC.out.c0, DC.out.st, DC.out.f1, DC.out.f2⟩, Base.grown_drew W3 1 W0.heap.size⟩)
  have FX := Base.hide (fun (W : World) (g : W3.grownBy W (some W0.heap.size)) => show (W.cell? ⟨V, 0, none⟩ = some (.int .i64 x0) ∧ W.cell? ⟨V, 1, none⟩ = some (.int .i64 x1)) ∧ (∀ i, i < 2 → W.cell? ⟨w.heap.size, i, none⟩ = some (.int .i64 0)) ∧ (∀ i, W.frozen? ⟨w.heap.size, i, none⟩ = false) ∧ Below W0.heap.size W0 W from by
    have := PV.out
    have q := BR.out.trans (DC.out.below g)
    exact ⟨⟨(grown_still g VX.out (by omega)).1.trans KV.out.1, (grown_still g VX.out (by omega)).1.trans KV.out.2⟩, fun i hi => (q.cell (p := ⟨w.heap.size, i, none⟩) (by have := Z0.out; show w.heap.size < _; omega)).trans (R0.out.1 i hi), fun i => (q.frozen (p := ⟨w.heap.size, i, none⟩) (by have := Z0.out; show w.heap.size < _; omega)).trans (R0.out.2 i), q⟩)
  have WV : w.heap.size ≠ V := by have := PV.out; have := Z0.out; omega
  have SE := Base.hide (show ∀ (W : World) (i j : Nat) (u : Value), (W.setCell ⟨w.heap.size, i, none⟩ u).cell? ⟨V, j, none⟩ = W.cell? ⟨V, j, none⟩ from fun W i j u => World.cell?_setCell_other _ _ _ _ (by intro e; injection e with e; exact WV e))
  obtain ⟨o0, o1⟩ := KV.out
  clear WV
  go_region_held3 (fun w' => w'.cell? ⟨V, 0, none⟩ = some (.int .i64 x0) ∧ w'.cell? ⟨V, 1, none⟩ = some (.int .i64 x1))
    ((try dsimp only) <;> (first | exact ⟨by assumption, by assumption⟩ | (refine ⟨?_, ?_⟩ <;> (repeat rw [SE.out]) <;> assumption)))
    (first
    | (go_at_call 28
       refine (drawReal W0.heap.size W0.heap.size a len cap _ DR.out.1 (Nat.le_of_lt (Nat.lt_of_lt_of_le PV.out (Nat.le_of_lt VX.out)))).mono ?_
       rintro e w6 ⟨t, t0, t1, rfl, d6, g6⟩
       obtain ⟨⟨k2, k3⟩, zr, fr, br⟩ := FX.out w6 (DR.out.2.trans g6)
       have eY0 := zr 0 (by omega)
       have eY1 := zr 1 (by omega)))
  have TB := Base.hide (And.intro t0 t1)
  have BB := Base.hide (show Below w.heap.size w w6 from B0.out.trans (br.mono B0.out.size))
  obtain ⟨Y0, hY0⟩ : ∃ Y0, w6.setCell ⟨w.heap.size, 0, none⟩ (.int .i64 x0) = Y0 := ⟨_, rfl⟩
  have BY0 := Base.hide (show Below w.heap.size w Y0 from hY0 ▸ BB.out.setCell (Nat.le_refl _) _)
  obtain ⟨Y1, hY1⟩ : ∃ Y1, Y0.setCell ⟨w.heap.size, 1, none⟩ (.int .i64 x1) = Y1 := ⟨_, rfl⟩
  have BY1 := Base.hide (show Below w.heap.size w Y1 from hY1 ▸ BY0.out.setCell (Nat.le_refl _) _)
  have r0 : Y1.cell? ⟨w.heap.size, 0, none⟩ = some (.int .i64 x0) := by rw [← hY1, World.cell?_setCell_other _ _ _ _ (by intro e; injection e with _ e; omega), ← hY0]; exact World.cell?_setCell_same _ _ _ eY0
  have r1 : Y1.cell? ⟨w.heap.size, 1, none⟩ = some (.int .i64 x1) := by rw [← hY1]; exact World.cell?_setCell_same _ _ _ (by rw [← hY0, World.cell?_setCell_other _ _ _ _ (by intro e; injection e with _ e; omega)]; exact eY1)
  (try rw [hY0]); (try rw [hY1])
  clear DR FX SE
  go_wp2_with fail
  exact bodyPost_ret (v := .tuple #[.agg #[.int .i64 x0, .int .i64 x1], .int .i64 t]) (by simp [results, Try.results9, go_sem, r0, r1]) rfl ⟨_, _, _, rfl, BD.out, TB.out, BY1.out⟩
/-- reals were drawn -/
def DCE (w : World) (e : Ending) (w' : World) : Prop :=
  ∃ (b : Option Addr) (k c : Nat) (D : Nat → Int), e = .returned (.slice b k c) ∧ k ≤ 11 ∧ OwnL w.heap.size w' b k D ∧ Below w.heap.size w w'
set_option maxHeartbeats 2000000 in
theorem drawCalibrate (a : Option Addr) (len cap : Nat) (w : World) (hc : Base.Code w.heap.size w a len) (hlen : len ≤ 1048576) :
    Calls Try.prog 14 #[.slice a len cap] w (DCE w) := by
  have HC := Base.hide hc
  clear hc
  go_enter Try.func14, Try.ntmps14
  go_wp2_with fail
  refine (Base.l1New a len cap _ HC.out hlen).mono ?_; rintro e w1 ⟨rfl, d1, n1⟩
  have D1 := Base.hide d1
  have BR := Base.hide n1
  clear d1 n1
  go_wp2_with fail
  refine (Base.l1Below _ _ a len cap 12 _ D1.out (by decide) (by decide)).mono ?_; rintro e w2 ⟨x, x0, x1, rfl, d2, g2⟩
  replace BR := Base.hide (BR.out.trans (D1.out.below g2))
  have D2 := Base.hide d2
  clear d2 g2 D1
  obtain ⟨M, rfl⟩ : ∃ M : Nat, x = (M : Int) := ⟨x.toNat, by omega⟩
  have M8 := Base.hide (show M ≤ 11 by omega)
  clear x0 x1
  go_wp2_with fail
  refine (drawReals w.heap.size w.heap.size a len cap M _ D2.out BR.out.size (by have := M8.out; omega)).mono ?_; rintro e w3 ⟨b, k, c, D, rfl, kN, hO, d3, g3⟩
  have lt2 := D2.out.lt
  replace BR := Base.hide (BR.out.trans (D2.out.below g3))
  have HO := Base.hide (hO.mono (Nat.le_of_lt lt2))
  have KN := Base.hide (show k ≤ 11 by have := M8.out; omega)
  clear d3 g3 D2 hO kN lt2 M8
  go_wp2_with fail
  go_ret
  exact ⟨b, k, c, D, rfl, KN.out, HO.out, BR.out⟩
def ab1 (x : Int) : Int := if x < 0 then -x else x
theorem absB (x : Int) (w : World) (x0 : -9223372036854775807 ≤ x) (x1 : x ≤ 9223372036854775807) :
    Calls Try.prog 13 #[.int .i64 x] w fun e w' => e = .returned (.int .i64 (ab1 x)) ∧ Below w.heap.size w w' := by
  refine (Nef.absF x w x0 x1).mono ?_
  rintro e w' ⟨y, ⟨h1, h2⟩, rfl, rfl⟩
  exact ⟨by rw [show y = ab1 x by unfold ab1; split <;> omega], Below.refl _ _⟩
/-- a byte that was not brought into bounds is off by at most half a step -/
theorem half_off {s z x q : Int} (s0 : 1 ≤ s) (hq : q = cl 0 255 (z + nr x s)) (q0 : 0 < q) (q1 : q < 255) : 2 * ab1 (x - s * (q - z)) ≤ s := by
  obtain ⟨h0, h1⟩ := nr_half (n := x) s0
  have e : q = z + nr x s := by
    unfold cl at hq
    split at hq
    · omega
    · split at hq
      · omega
      · exact hq
  rw [show q - z = nr x s by omega]
  generalize s * nr x s = M at *
  unfold ab1
  split <;> omega
end Vo
end Go.Proofs.Ytabjpemneimljaa
