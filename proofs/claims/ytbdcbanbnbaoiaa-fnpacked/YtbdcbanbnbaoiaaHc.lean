/- Rooms: without smaller ones; what is left when one is taken. -/
import Derived.Test.YtbdcbanbnbaoiaaHb
import Derived.Test.YtbdcbanbnbaoiaaVn
import Derived.Deep.DeepAppendRoom
namespace Go.Proofs.Ytbdcbanbnbaoiaa
namespace Vo
open Go.ChangeShapes Go.WideShapes Go.ChangeAt Go.RowKit Go.Joins Go.Sort
open Vl Vp
set_option linter.unusedVariables false
set_option linter.unusedSimpArgs false
def lfR (z : Int) (D : Nat → RV) (n : Nat) : Nat → RV := fun q => D ((kr z D n).getD q 0)
set_option maxHeartbeats 1000000 in
theorem withoutF (B g n cap : Nat) (z : Int) (D : Nat → RV) (w : World) (h : OR B w g n D) (hn : (n : Int) ≤ 4194304) (hcap : n ≤ cap) (hb : ∀ i, i < n → rb (D i)) :
    Calls Try.prog 18 #[.slice (some ⟨g, 0, none⟩) n cap, .int .i64 z] w fun e w' => e = .returned (.slice (some ⟨g, 0, none⟩) (kr z D n).length cap) ∧ OR B w' g (kr z D n).length (lfR z D n) ∧ Kept (· = g) w w' := by
  obtain ⟨Z, hZ⟩ : ∃ Z, w.alloc (.cells #[.int .i64 z] 3) = Z := ⟨_, rfl⟩
  have bl : Below w.heap.size w Z := by rw [← hZ]; exact (Below.refl _ _).alloc (Nat.le_refl _) _
  have m0 : Z.cell? ⟨w.heap.size, 0, none⟩ = some (.int .i64 z) := by rw [← hZ]; simp [go_sem]
  have CD := hide (deleteR B g n cap w.heap.size z D Z (h.below bl) hn hcap m0 (by have := h.lt; omega) hb)
  have BL := hide bl
  clear h hb bl
  go_enter Try.func18, Try.ntmps18
  go_wp2_with fail
  clear hZ
  refine CD.out.mono ?_
  rintro e W1 ⟨rfl, o1, k1⟩
  have O1 := hide o1
  have K1 := hide ((show Kept (· = g) w Z from Kept.of_below BL.out).trans k1)
  clear o1 k1 CD m0
  go_wp2_with fail
  go_ret
  exact ⟨rfl, O1.out, K1.out⟩
/-- what is left of a room when [a, b) is taken: two rooms, maybe empty ones -/
def cutA (a : Int) (x : RV) : RV := ⟨x.f, if a < x.e then a else x.e⟩
def cutB (b : Int) (x : RV) : RV := ⟨if x.f < b then b else x.f, x.e⟩
def cutR (a b : Int) (D : Nat → RV) : Nat → RV := fun q => if q % 2 = 0 then cutA a (D (q / 2)) else cutB b (D (q / 2))
def rvl (x : RV) : List Value := [.int .i64 x.f, .int .i64 x.e]
def rvs (C : Nat → RV) : Nat → List Value | 0 => [] | n + 1 => rvs C n ++ rvl (C n)
theorem rvs_len (C : Nat → RV) : ∀ n, (rvs C n).length = n * 2
  | 0 => rfl
  | n + 1 => by unfold rvs; rw [List.length_append, rvs_len C n]; simp [rvl]; omega
theorem rvs_get (C : Nat → RV) {d : Nat} (hd : d < 2) : ∀ (n i : Nat), i < n → (rvs C n)[i * 2 + d]? = (rvl (C i))[d]?
  | 0, i, h => by omega
  | n + 1, i, h => by
    unfold rvs
    by_cases c : i = n
    · subst c
      rw [List.getElem?_append_right (by rw [rvs_len]; omega), rvs_len]
      congr 1
      omega
    · rw [List.getElem?_append_left (by rw [rvs_len]; omega)]
      exact rvs_get C hd n i (by omega)
theorem or_of_row {B g n cap : Nat} {w : World} {C : Nat → RV} (h : w.ownsRow B 40 2 (.slice (some ⟨g, 0, none⟩) n cap) n (rvs C n)) : OR B w g n C := by
  have h0 := h
  obtain ⟨_, ⟨e, _⟩ | ⟨g', cap', cur, e, hg, hh, rest⟩⟩ := h
  · cases e
  · injection e with e1 e2 e3
    injection e1 with e1
    injection e1 with e1
    subst e1
    refine ⟨hg, (h0.lt g rfl).2, fun i hi => ?_, fun i => by simp [World.frozen?, hh]⟩
    have q0 := h0.cells (g := g) rfl (i * 2 + 0) (.int .i64 (C i).f) (by rw [rvs_get C (by omega) n i hi]; rfl)
    have q1 := h0.cells (g := g) rfl (i * 2 + 1) (.int .i64 (C i).e) (by rw [rvs_get C (by omega) n i hi]; rfl)
    rw [Go.WideShapes.add_plain] at q0 q1
    rw [Nat.zero_add] at q0 q1
    exact ⟨q0, q1⟩
end Vo
end Go.Proofs.Ytbdcbanbnbaoiaa
