/- Rounded numbers, the program's side: the parts of a half. -/
import Derived.Test.YteoogkcjcfnniaaDoorFlP
import Derived.WalkKit
import Derived.ProofKit
import Derived.Deep.RegionHeld3
namespace Go.Proofs.YteoogkcjcfnniaaDoor
namespace FlP
open Go.ChangeShapes Go.WideShapes Go.ChangeAt Go.RowKit Go.Joins
open Flo (hide ret_int ret_bool)
set_option linter.unusedVariables false

theorem lowestXH (w : World) : Calls Tryd.prog 41 #[.agg #[.int .u8 5, .int .u8 10]] w fun e w' => e = .returned (.int .i64 (-24)) ∧ w' = w.alloc (.cells #[.int .u8 5, .int .u8 10] 30) := by
  go_enter Tryd.func41, Tryd.ntmps41
  go_wp2_with fail
  go_ret
  exact ⟨rfl, rfl⟩
theorem splitBigH (a : Int) (w : World) (h : a < 0 ∨ 65536 ≤ a) :
    Calls Tryd.prog 26 #[.agg #[.int .u8 5, .int .u8 10], .int .i64 a] w fun e w' => e = .returned (.agg #[.int .u8 3, .int .u8 0, .int .i16 0, .int .u32 0]) ∧ Below w.heap.size w w' := by
  have c : (a / 65536 != 0) = true := by rw [bne_iff_ne]; omega
  clear h
  go_enter Tryd.func26, Tryd.ntmps26
  go_wp2_with fail
  exact bodyPost_ret (v := .agg #[.int .u8 3, .int .u8 0, .int .i16 0, .int .u32 0]) (by simp [results, Tryd.results26, go_sem]) rfl ⟨rfl, below_alloc2 _ _ _⟩
set_option maxHeartbeats 2000000 in
theorem splitNanH (a s f E : Int) (w : World) (d1 : a / 32768 = s) (d2 : a % 1024 = f) (d3 : a / 1024 % 32 = E) (s0 : 0 ≤ s) (s1 : s ≤ 1) (hE : E = 31) (hf : f ≠ 0) :
    Calls Tryd.prog 26 #[.agg #[.int .u8 5, .int .u8 10], .int .i64 a] w fun e w' => e = .returned (.agg #[.int .u8 3, .int .u8 s, .int .i16 (-24), .int .u32 f]) ∧ Below w.heap.size w w' := by
  have m8 := Flo.mask5
  have m23 := Flo.mask10
  have d0 : a / 65536 = 0 := by omega
  have f0 : 0 ≤ f := by omega
  have f1 : f < 1024 := by omega
  have fm : f % 4294967296 = f := by omega
  have sm : s % 256 = s := by omega
  subst hE
  have c3 : (f != 0) = true := by rw [bne_iff_ne]; exact hf
  have c4 : (f == 0) = false := by rw [beq_eq_false_iff_ne]; exact hf
  clear hf
  go_enter Tryd.func26, Tryd.ntmps26
  go_wp2_with fail
  go_region_held3 (fun w' => w'.cell? ⟨w.heap.size, 0, none⟩ = some (.int .u8 5) ∧ w'.cell? ⟨w.heap.size, 1, none⟩ = some (.int .u8 10)) (simp [go_sem, World.cell?_alloc_past])
    (first | (go_at_call 41; refine (lowestXH _).mono ?_; rintro e w1 ⟨rfl, rfl⟩))
  all_goals go_wp2_with fail
  all_goals exact bodyPost_ret (v := .agg #[.int .u8 3, .int .u8 s, .int .i16 (-24), .int .u32 f]) (by simp [results, Tryd.results26, go_sem, *]) rfl ⟨rfl, below4 _ _ _ _ _⟩
set_option maxHeartbeats 2000000 in
theorem splitInfH (a s f E : Int) (w : World) (d1 : a / 32768 = s) (d2 : a % 1024 = f) (d3 : a / 1024 % 32 = E) (s0 : 0 ≤ s) (s1 : s ≤ 1) (hE : E = 31) (hf : f = 0) :
    Calls Tryd.prog 26 #[.agg #[.int .u8 5, .int .u8 10], .int .i64 a] w fun e w' => e = .returned (.agg #[.int .u8 2, .int .u8 s, .int .i16 (-24), .int .u32 0]) ∧ Below w.heap.size w w' := by
  have m8 := Flo.mask5
  have m23 := Flo.mask10
  have d0 : a / 65536 = 0 := by omega
  have f0 : 0 ≤ f := by omega
  have f1 : f < 1024 := by omega
  have fm : f % 4294967296 = f := by omega
  have sm : s % 256 = s := by omega
  subst hE
  subst hf
  go_enter Tryd.func26, Tryd.ntmps26
  go_wp2_with fail
  go_region_held3 (fun w' => w'.cell? ⟨w.heap.size, 0, none⟩ = some (.int .u8 5) ∧ w'.cell? ⟨w.heap.size, 1, none⟩ = some (.int .u8 10)) (simp [go_sem, World.cell?_alloc_past])
    (first | (go_at_call 41; refine (lowestXH _).mono ?_; rintro e w1 ⟨rfl, rfl⟩))
  all_goals go_wp2_with fail
  all_goals exact bodyPost_ret (v := .agg #[.int .u8 2, .int .u8 s, .int .i16 (-24), .int .u32 0]) (by simp [results, Tryd.results26, go_sem, *]) rfl ⟨rfl, below4 _ _ _ _ _⟩
set_option maxHeartbeats 2000000 in
theorem splitNormH (a s f E : Int) (w : World) (d1 : a / 32768 = s) (d2 : a % 1024 = f) (d3 : a / 1024 % 32 = E) (s0 : 0 ≤ s) (s1 : s ≤ 1) (E0 : 1 ≤ E) (E1 : E < 31)  :
    Calls Tryd.prog 26 #[.agg #[.int .u8 5, .int .u8 10], .int .i64 a] w fun e w' => e = .returned (.agg #[.int .u8 1, .int .u8 s, .int .i16 (-24 + (E - 1)), .int .u32 (f + 1024)]) ∧ Below w.heap.size w w' := by
  have m8 := Flo.mask5
  have m23 := Flo.mask10
  have d0 : a / 65536 = 0 := by omega
  have f0 : 0 ≤ f := by omega
  have f1 : f < 1024 := by omega
  have fm : f % 4294967296 = f := by omega
  have sm : s % 256 = s := by omega
  have o := or10 f f0 f1
  have c1 : (E == 31) = false := by rw [beq_eq_false_iff_ne]; omega
  have c2 : (E != 0) = true := by rw [bne_iff_ne]; omega
  go_enter Tryd.func26, Tryd.ntmps26
  go_wp2_with fail
  go_region_held3 (fun w' => w'.cell? ⟨w.heap.size, 0, none⟩ = some (.int .u8 5) ∧ w'.cell? ⟨w.heap.size, 1, none⟩ = some (.int .u8 10)) (simp [go_sem, World.cell?_alloc_past])
    (first | (go_at_call 41; refine (lowestXH _).mono ?_; rintro e w1 ⟨rfl, rfl⟩))
  all_goals go_wp2_with fail
  all_goals exact bodyPost_ret (v := .agg #[.int .u8 1, .int .u8 s, .int .i16 (-24 + (E - 1)), .int .u32 (f + 1024)]) (by simp [results, Tryd.results26, go_sem, *]) rfl ⟨rfl, below4 _ _ _ _ _⟩
set_option maxHeartbeats 2000000 in
theorem splitZeroH (a s f E : Int) (w : World) (d1 : a / 32768 = s) (d2 : a % 1024 = f) (d3 : a / 1024 % 32 = E) (s0 : 0 ≤ s) (s1 : s ≤ 1) (hE : E = 0) (hf : f = 0) :
    Calls Tryd.prog 26 #[.agg #[.int .u8 5, .int .u8 10], .int .i64 a] w fun e w' => e = .returned (.agg #[.int .u8 0, .int .u8 s, .int .i16 (-24), .int .u32 0]) ∧ Below w.heap.size w w' := by
  have m8 := Flo.mask5
  have m23 := Flo.mask10
  have d0 : a / 65536 = 0 := by omega
  have f0 : 0 ≤ f := by omega
  have f1 : f < 1024 := by omega
  have fm : f % 4294967296 = f := by omega
  have sm : s % 256 = s := by omega
  subst hE
  subst hf
  go_enter Tryd.func26, Tryd.ntmps26
  go_wp2_with fail
  go_region_held3 (fun w' => w'.cell? ⟨w.heap.size, 0, none⟩ = some (.int .u8 5) ∧ w'.cell? ⟨w.heap.size, 1, none⟩ = some (.int .u8 10)) (simp [go_sem, World.cell?_alloc_past])
    (first | (go_at_call 41; refine (lowestXH _).mono ?_; rintro e w1 ⟨rfl, rfl⟩))
  all_goals go_wp2_with fail
  all_goals exact bodyPost_ret (v := .agg #[.int .u8 0, .int .u8 s, .int .i16 (-24), .int .u32 0]) (by simp [results, Tryd.results26, go_sem, *]) rfl ⟨rfl, below4 _ _ _ _ _⟩
set_option maxHeartbeats 2000000 in
theorem splitSubH (a s f E : Int) (w : World) (d1 : a / 32768 = s) (d2 : a % 1024 = f) (d3 : a / 1024 % 32 = E) (s0 : 0 ≤ s) (s1 : s ≤ 1) (hE : E = 0) (hf : f ≠ 0) :
    Calls Tryd.prog 26 #[.agg #[.int .u8 5, .int .u8 10], .int .i64 a] w fun e w' => e = .returned (.agg #[.int .u8 1, .int .u8 s, .int .i16 (-24), .int .u32 f]) ∧ Below w.heap.size w w' := by
  have m8 := Flo.mask5
  have m23 := Flo.mask10
  have d0 : a / 65536 = 0 := by omega
  have f0 : 0 ≤ f := by omega
  have f1 : f < 1024 := by omega
  have fm : f % 4294967296 = f := by omega
  have sm : s % 256 = s := by omega
  subst hE
  have c3 : (f != 0) = true := by rw [bne_iff_ne]; exact hf
  have c4 : (f == 0) = false := by rw [beq_eq_false_iff_ne]; exact hf
  clear hf
  go_enter Tryd.func26, Tryd.ntmps26
  go_wp2_with fail
  go_region_held3 (fun w' => w'.cell? ⟨w.heap.size, 0, none⟩ = some (.int .u8 5) ∧ w'.cell? ⟨w.heap.size, 1, none⟩ = some (.int .u8 10)) (simp [go_sem, World.cell?_alloc_past])
    (first | (go_at_call 41; refine (lowestXH _).mono ?_; rintro e w1 ⟨rfl, rfl⟩))
  all_goals go_wp2_with fail
  all_goals exact bodyPost_ret (v := .agg #[.int .u8 1, .int .u8 s, .int .i16 (-24), .int .u32 f]) (by simp [results, Tryd.results26, go_sem, *]) rfl ⟨rfl, below4 _ _ _ _ _⟩

end FlP
end Go.Proofs.YteoogkcjcfnniaaDoor
