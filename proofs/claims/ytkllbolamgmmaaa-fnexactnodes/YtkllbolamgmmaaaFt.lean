/- Tree of the program; both are one. -/
import Derived.Test.YtkllbolamgmmaaaFs
import Derived.Test.YtkllbolamgmmaaaFn
namespace Go.Proofs.Ytkllbolamgmmaaa
namespace Vo
open Go.ChangeShapes Go.WideShapes Go.ChangeAt Go.RowKit Go.Joins Go.Sort
open Vl
set_option linter.unusedVariables false
set_option linter.unusedSimpArgs false
theorem rev_range {α : Type} (f : Nat → α) (s : Nat) : ((List.range s).map f).reverse = (List.range s).map fun j => f (s - 1 - j) := by
  apply List.ext_getElem?
  intro t
  by_cases h : t < s
  · rw [List.getElem?_reverse (by simpa using h), List.length_map, List.length_range, List.getElem?_map, List.getElem?_map, List.getElem?_range (by omega), List.getElem?_range h]
    rfl
  · rw [List.getElem?_eq_none (by simp; omega), List.getElem?_eq_none (by simp; omega)]
theorem moa_single (f s c d : Nat) (add : Bool) : moa [⟨f, s, c⟩] d add = pairsL d c f s add := by
  unfold moa
  simp [rkMoves]
theorem tree_is (m apart : Nat) : tabL [⟨0, apart, m⟩] (scn m) [] = treeL m apart := by
  unfold tabL treeL tabUp tabDn treeUp treeDn
  rw [rev_range]
  simp only [moa_single, List.append_nil]
set_option maxHeartbeats 1000000 in
theorem treeOfF (f s c : Nat) (w : World) (f64 : f ≤ 64) (s64 : s ≤ 64) (c64 : c ≤ 64) :
    Calls Try.prog 27 #[.agg #[.int .i64 f, .int .i64 s, .int .i64 c]] w (RowsB (tabL [⟨f, s, c⟩] (scn c) []) w) := by
  obtain ⟨W1, hW1⟩ : ∃ W1, w.alloc (.cells #[.int .i64 f, .int .i64 s, .int .i64 c] 43) = W1 := ⟨_, rfl⟩
  have b1 : Below w.heap.size w W1 := by rw [← hW1]; exact (Below.refl _ _).alloc (Nat.le_refl _) _
  have z1 : W1.heap.size = w.heap.size + 1 := by rw [← hW1]; simp
  have c0 : W1.cell? ⟨w.heap.size, 0, none⟩ = some (.int .i64 f) := by rw [← hW1]; simp [go_sem]
  have c1 : W1.cell? ⟨w.heap.size, 1, none⟩ = some (.int .i64 s) := by rw [← hW1]; simp [go_sem]
  have c2 : W1.cell? ⟨w.heap.size, 2, none⟩ = some (.int .i64 c) := by rw [← hW1]; simp [go_sem]
  obtain ⟨W2, hW2⟩ : ∃ W2, W1.alloc (.cells #[.int .i64 f, .int .i64 s, .int .i64 c] 43) = W2 := ⟨_, rfl⟩
  have b2 : Below W1.heap.size W1 W2 := by rw [← hW2]; exact (Below.refl _ _).alloc (Nat.le_refl _) _
  have z2 : W1.heap.size < W2.heap.size := by rw [← hW2]; simp
  obtain ⟨W3, hW3⟩ : ∃ W3, W2.alloc (.cells #[] 30) = W3 := ⟨_, rfl⟩
  have b3 : Below W2.heap.size W2 W3 := by rw [← hW3]; exact (Below.refl _ _).alloc (Nat.le_refl _) _
  have RK : RkL W3 W1.heap.size [⟨f, s, c⟩] := by
    refine RkL.below ⟨z2, fun i hi => ?_⟩ b3
    obtain rfl : i = 0 := by simpa using hi
    rw [← hW2]
    exact ⟨by simp [go_sem], by simp [go_sem], by simp [go_sem]⟩
  have R0 : RowsM W2.heap.size W3 (.slice (some ⟨W2.heap.size, 0, none⟩) 0 0) [] := by rw [← hW3]; exact rowsM_new W2
  have ok : RkOk [⟨f, s, c⟩] := fun x hx => by
    obtain rfl := List.mem_singleton.1 hx
    exact ⟨f64, s64, c64⟩
  have CT := hide (tabF W2.heap.size W1.heap.size 1 1 0 0 c [⟨f, s, c⟩] (some ⟨W2.heap.size, 0, none⟩) [] W3 rfl (by omega) (by omega) RK ok rfl R0 b3.size rfl (by simp) (by omega))
  have B3 := hide (b1.trans ((b2.trans (b3.mono b2.size)).mono b1.size))
  have Z2 := hide (Nat.le_trans b1.size b2.size)
  rw [show cnt ([] : List VM) = [] from rfl] at CT
  clear b1 b2 b3 z2 RK R0 ok z1
  go_enter Try.func27, Try.ntmps27
  go_wp2_with fail
  refine CT.out.mono ?_
  rintro e w5 ⟨a, k, L, rfl, r, cn, an, q⟩
  have RR := hide (r.mono (E' := w.heap.size) Z2.out)
  have CN := hide cn
  have AN := hide an
  have BF := hide (B3.out.trans (q.mono B3.out.size))
  clear r cn an q CT
  go_wp2_with fail
  go_ret
  exact ⟨a, k, L, rfl, RR.out, CN.out, AN.out, BF.out⟩
set_option maxHeartbeats 1000000 in
theorem implTree (z : Int) (w : World) (hz : bd z) : Calls Try.prog 12 #[.int .i64 z] w (RowsB (if 1 ≤ z ∧ z ≤ 64 then treeL z.toNat 1 else []) w) := by
  obtain ⟨W1, hW1⟩ : ∃ W1, w.alloc (.cells #[.int .i64 z] 3) = W1 := ⟨_, rfl⟩
  have b1 := hide (show Below w.heap.size w W1 by rw [← hW1]; exact (Below.refl _ _).alloc (Nat.le_refl _) _)
  have CI := hide (inBoundsF W1.heap.size (some ⟨w.heap.size, 0, none⟩) 1 1 (fun _ => z) 1 64 W1 (by decide) (Nat.le_refl _) (by rw [← hW1]; exact ints_lit1 z hz w) (by decide))
  rw [ib64] at CI
  go_enter Try.func12, Try.ntmps12
  by_cases hb : 1 ≤ z ∧ z ≤ 64
  case neg =>
    rw [decide_eq_false hb] at CI
    rw [if_neg hb]
    clear hb hz
    go_wp2_with fail
    refine CI.out.mono ?_
    rintro e w1 ⟨rfl, q1⟩
    have B1 := hide (b1.out.trans (q1.mono b1.out.size))
    clear CI q1
    go_wp2_with fail
    go_ret
    exact ⟨_, 0, [], rfl, (rowsM_new w1).mono B1.out.size, rfl, by simp, B1.out.trans ((show Below w1.heap.size w1 (w1.alloc (.cells #[] 30)) from (Below.refl _ _).alloc (Nat.le_refl _) _).mono B1.out.size)⟩
  rw [decide_eq_true hb] at CI
  rw [if_pos hb]
  obtain ⟨n, rfl⟩ : ∃ n : Nat, z = n := ⟨z.toNat, by omega⟩
  rw [Int.toNat_natCast]
  have n64 : n ≤ 64 := by omega
  clear hb hz
  go_wp2_with fail
  refine CI.out.mono ?_
  rintro e w1 ⟨rfl, q1⟩
  have B1 := hide (b1.out.trans (q1.mono b1.out.size))
  have CT := hide (treeOfF 0 1 n w1 (by omega) (by omega) n64)
  rw [tree_is] at CT
  rw [show ((0 : Nat) : Int) = 0 from rfl, show ((1 : Nat) : Int) = 1 from rfl] at CT
  clear CI q1
  go_wp2_with fail
  refine CT.out.mono ?_
  rintro e w5 ⟨a, k, L, rfl, r, cn, an, q⟩
  have RR := hide (r.mono (E' := w.heap.size) B1.out.size)
  have CN := hide cn
  have AN := hide an
  have BF := hide (B1.out.trans (q.mono B1.out.size))
  clear r cn an q CT
  go_wp2_with fail
  go_ret
  exact ⟨a, k, L, rfl, RR.out, CN.out, AN.out, BF.out⟩
theorem tree_small (z : Int) : (if 1 ≤ z ∧ z ≤ 64 then treeL z.toNat 1 else []).length ≤ 200 ∧ totC (if 1 ≤ z ∧ z ≤ 64 then treeL z.toNat 1 else []) ≤ 12800 := by
  by_cases hb : 1 ≤ z ∧ z ≤ 64
  · rw [if_pos hb]
    obtain ⟨n, hn⟩ : ∃ n, z.toNat = n := ⟨_, rfl⟩
    rw [hn]
    have n64 : n ≤ 64 := by omega
    have s6 := scn_le n64
    have hl : (treeL n 1).length ≤ 12 := by unfold treeL treeUp treeDn; simp; omega
    have h : ∀ r ∈ treeL n 1, r.length ≤ 64 := by
      intro r hr
      unfold treeL treeUp treeDn at hr
      rcases List.mem_append.1 hr with m | m
      · obtain ⟨j, _, rfl⟩ := List.mem_map.1 m
        rw [pairsL_len]; exact Nat.le_trans (pc_le Nat.one_le_two_pow) n64
      · obtain ⟨j, _, rfl⟩ := List.mem_map.1 m
        rw [pairsL_len]; exact Nat.le_trans (pc_le Nat.one_le_two_pow) n64
    have := totC_le h
    exact ⟨by omega, by have := Nat.mul_le_mul_right 64 hl; omega⟩
  · rw [if_neg hb]
    exact ⟨by simp, by simp [totC]⟩
end Vo
end Go.Proofs.Ytkllbolamgmmaaa
