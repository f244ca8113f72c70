/- Rounded numbers, the program's side: the parts of a float. -/
import Derived.Test.YtmghmcnihiepiaaDoorRows
import Derived.Test.YtmghmcnihiepiaaDoorFlo
import Derived.WalkKit
import Derived.ProofKit
import Derived.OpenShut
import Derived.Below
import Derived.Lib.SmallJoins
import Derived.Deep.QuietTactic
import Derived.Deep.RegionHeld3
import Derived.BigQuiet
import Derived.WalkSmall
import Derived.WalkSpells
import Derived.Laws.BitsLemmas
namespace Go.Proofs.YtmghmcnihiepiaaDoor
namespace FlP
open Go.ChangeShapes Go.WideShapes Go.ChangeAt Go.RowKit Go.Joins
open Flo (hide ret_int ret_bool)
set_option linter.unusedVariables false

/-- an int that is no float, or not a number -/
def Bad (a : Int) : Prop := a < 0 ∨ 4294967295 < a ∨ (0 ≤ a ∧ a ≤ 4294967295 ∧ a / 8388608 % 256 = 255 ∧ a % 8388608 ≠ 0)
/-- an infinity with the sign s -/
def Inf (a s : Int) : Prop := 0 ≤ s ∧ s ≤ 1 ∧ a = 2139095040 + s * 2147483648
/-- a finite float with the sign s, worth m * 2^e -/
def Fin (a s m e : Int) : Prop := 0 ≤ s ∧ s ≤ 1 ∧ a = s * 2147483648 + (e + 149) * 8388608 + m ∧ 0 ≤ m ∧ m < 16777216 ∧ -149 ≤ e ∧ e ≤ 104 ∧ (e = -149 ∨ 8388608 ≤ m)
theorem kinds (a : Int) : Bad a ∨ (∃ s, Inf a s) ∨ ∃ s m e, Fin a s m e := by
  by_cases h : a < 0 ∨ 4294967295 < a
  · exact .inl (by unfold Bad; omega)
  · by_cases he : a / 8388608 % 256 = 255
    · by_cases hf : a % 8388608 = 0
      · exact .inr (.inl ⟨a / 2147483648, by unfold Inf; omega⟩)
      · exact .inl (by unfold Bad; omega)
    · by_cases h0 : a / 8388608 % 256 = 0
      · exact .inr (.inr ⟨a / 2147483648, a % 8388608, -149, by unfold Fin; omega⟩)
      · exact .inr (.inr ⟨a / 2147483648, a % 8388608 + 8388608, a / 8388608 % 256 - 150, by unfold Fin; omega⟩)

/-- the same of a half -/
def BadH (a : Int) : Prop := a < 0 ∨ 65535 < a ∨ (0 ≤ a ∧ a ≤ 65535 ∧ a / 1024 % 32 = 31 ∧ a % 1024 ≠ 0)
def InfH (a s : Int) : Prop := 0 ≤ s ∧ s ≤ 1 ∧ a = 31744 + s * 32768
def FinH (a s m e : Int) : Prop := 0 ≤ s ∧ s ≤ 1 ∧ a = s * 32768 + (e + 24) * 1024 + m ∧ 0 ≤ m ∧ m < 2048 ∧ -24 ≤ e ∧ e ≤ 5 ∧ (e = -24 ∨ 1024 ≤ m)
theorem kindsH (a : Int) : BadH a ∨ (∃ s, InfH a s) ∨ ∃ s m e, FinH a s m e := by
  by_cases h : a < 0 ∨ 65535 < a
  · exact .inl (by unfold BadH; omega)
  · by_cases he : a / 1024 % 32 = 31
    · by_cases hf : a % 1024 = 0
      · exact .inr (.inl ⟨a / 32768, by unfold InfH; omega⟩)
      · exact .inl (by unfold BadH; omega)
    · by_cases h0 : a / 1024 % 32 = 0
      · exact .inr (.inr ⟨a / 32768, a % 1024, -24, by unfold FinH; omega⟩)
      · exact .inr (.inr ⟨a / 32768, a % 1024 + 1024, a / 1024 % 32 - 25, by unfold FinH; omega⟩)

theorem wraps_u32 (n : Int) (h₀ : 0 ≤ n) (h₁ : n < 2 ^ 32) : IntKind.u32.wrap n = n := by rw [IntKind.wrap_u32]; omega
theorem or23 (f : Int) (h0 : 0 ≤ f) (h1 : f < 8388608) : bits .or .u32 f 8388608 = f + 8388608 := by
  have c : bits .or .u32 f 8388608 = bits .or .u32 8388608 f := by unfold bits; simp only [BitVec.or_comm]
  rw [c, bits_join .u32 32 (by decide) wraps_u32 23 8388608 f (by omega) (by omega) (by omega) h0 (by omega) (by omega)]; omega

theorem or10 (f : Int) (h0 : 0 ≤ f) (h1 : f < 1024) : bits .or .u32 f 1024 = f + 1024 := by
  have c : bits .or .u32 f 1024 = bits .or .u32 1024 f := by unfold bits; simp only [BitVec.or_comm]
  rw [c, bits_join .u32 32 (by decide) wraps_u32 10 1024 f (by omega) (by omega) (by omega) h0 (by omega) (by omega)]; omega
theorem below4 (w : World) (a b c d : Obj) : Below w.heap.size w ((((w.alloc a).alloc b).alloc c).alloc d).drew :=
  ((((Below.refl _ _).alloc (Nat.le_refl _) a).alloc (by simp) b).alloc (by simp; omega) c).alloc (by simp; omega) d |>.drew

theorem lowestS (w : World) : Calls Tryd.prog 43 #[.agg #[.int .u8 8, .int .u8 23]] w fun e w' => e = .returned (.int .i64 (-149)) ∧ Below w.heap.size w w' := by
  go_enter Tryd.func43, Tryd.ntmps43
  go_wp2_with fail
  go_ret
  exact ⟨rfl, below_alloc1 _ _⟩
theorem lowestH (w : World) : Calls Tryd.prog 43 #[.agg #[.int .u8 5, .int .u8 10]] w fun e w' => e = .returned (.int .i64 (-24)) ∧ Below w.heap.size w w' := by
  go_enter Tryd.func43, Tryd.ntmps43
  go_wp2_with fail
  go_ret
  exact ⟨rfl, below_alloc1 _ _⟩
theorem zeroS (m : Int) (w : World) (h0 : 0 ≤ m) (h1 : m ≤ 1) : Calls Tryd.prog 25 #[.agg #[.int .u8 8, .int .u8 23], .int .u8 m] w fun e w' => e = .returned (.int .i64 (m * 2147483648)) ∧ Below w.heap.size w w' := by
  go_enter Tryd.func25, Tryd.ntmps25
  go_wp2_with fail
  go_ret
  exact ⟨rfl, below_alloc1 _ _⟩
theorem zeroH (m : Int) (w : World) (h0 : 0 ≤ m) (h1 : m ≤ 1) : Calls Tryd.prog 25 #[.agg #[.int .u8 5, .int .u8 10], .int .u8 m] w fun e w' => e = .returned (.int .i64 (m * 32768)) ∧ Below w.heap.size w w' := by
  go_enter Tryd.func25, Tryd.ntmps25
  go_wp2_with fail
  go_ret
  exact ⟨rfl, below_alloc1 _ _⟩

theorem lowestXS (w : World) : Calls Tryd.prog 43 #[.agg #[.int .u8 8, .int .u8 23]] w fun e w' => e = .returned (.int .i64 (-149)) ∧ w' = w.alloc (.cells #[.int .u8 8, .int .u8 23] 36) := by
  go_enter Tryd.func43, Tryd.ntmps43
  go_wp2_with fail
  go_ret
  exact ⟨rfl, rfl⟩
theorem splitBigS (a : Int) (w : World) (h : a < 0 ∨ 4294967296 ≤ a) :
    Calls Tryd.prog 24 #[.agg #[.int .u8 8, .int .u8 23], .int .i64 a] w fun e w' => e = .returned (.agg #[.int .u8 3, .int .u8 0, .int .i16 0, .int .u32 0]) ∧ Below w.heap.size w w' := by
  have c : (a / 4294967296 != 0) = true := by rw [bne_iff_ne]; omega
  clear h
  go_enter Tryd.func24, Tryd.ntmps24
  go_wp2_with fail
  exact bodyPost_ret (v := .agg #[.int .u8 3, .int .u8 0, .int .i16 0, .int .u32 0]) (by simp [results, Tryd.results24, go_sem]) rfl ⟨rfl, below_alloc2 _ _ _⟩
set_option maxHeartbeats 2000000 in
theorem splitNanS (a s f E : Int) (w : World) (d1 : a / 2147483648 = s) (d2 : a % 8388608 = f) (d3 : a / 8388608 % 256 = E) (s0 : 0 ≤ s) (s1 : s ≤ 1) (hE : E = 255) (hf : f ≠ 0) :
    Calls Tryd.prog 24 #[.agg #[.int .u8 8, .int .u8 23], .int .i64 a] w fun e w' => e = .returned (.agg #[.int .u8 3, .int .u8 s, .int .i16 (-149), .int .u32 f]) ∧ Below w.heap.size w w' := by
  have m8 := Flo.mask8
  have m23 := Flo.mask23
  have d0 : a / 4294967296 = 0 := by omega
  have f0 : 0 ≤ f := by omega
  have f1 : f < 8388608 := by omega
  have fm : f % 4294967296 = f := by omega
  have sm : s % 256 = s := by omega
  subst hE
  have c3 : (f != 0) = true := by rw [bne_iff_ne]; exact hf
  have c4 : (f == 0) = false := by rw [beq_eq_false_iff_ne]; exact hf
  clear hf
  go_enter Tryd.func24, Tryd.ntmps24
  go_wp2_with fail
  go_region_held3 (fun w' => w'.cell? ⟨w.heap.size, 0, none⟩ = some (.int .u8 8) ∧ w'.cell? ⟨w.heap.size, 1, none⟩ = some (.int .u8 23)) (simp [go_sem, World.cell?_alloc_past])
    (first | (go_at_call 43; refine (lowestXS _).mono ?_; rintro e w1 ⟨rfl, rfl⟩))
  all_goals go_wp2_with fail
  all_goals exact bodyPost_ret (v := .agg #[.int .u8 3, .int .u8 s, .int .i16 (-149), .int .u32 f]) (by simp [results, Tryd.results24, go_sem, *]) rfl ⟨rfl, below4 _ _ _ _ _⟩
set_option maxHeartbeats 2000000 in
theorem splitInfS (a s f E : Int) (w : World) (d1 : a / 2147483648 = s) (d2 : a % 8388608 = f) (d3 : a / 8388608 % 256 = E) (s0 : 0 ≤ s) (s1 : s ≤ 1) (hE : E = 255) (hf : f = 0) :
    Calls Tryd.prog 24 #[.agg #[.int .u8 8, .int .u8 23], .int .i64 a] w fun e w' => e = .returned (.agg #[.int .u8 2, .int .u8 s, .int .i16 (-149), .int .u32 0]) ∧ Below w.heap.size w w' := by
  have m8 := Flo.mask8
  have m23 := Flo.mask23
  have d0 : a / 4294967296 = 0 := by omega
  have f0 : 0 ≤ f := by omega
  have f1 : f < 8388608 := by omega
  have fm : f % 4294967296 = f := by omega
  have sm : s % 256 = s := by omega
  subst hE
  subst hf
  go_enter Tryd.func24, Tryd.ntmps24
  go_wp2_with fail
  go_region_held3 (fun w' => w'.cell? ⟨w.heap.size, 0, none⟩ = some (.int .u8 8) ∧ w'.cell? ⟨w.heap.size, 1, none⟩ = some (.int .u8 23)) (simp [go_sem, World.cell?_alloc_past])
    (first | (go_at_call 43; refine (lowestXS _).mono ?_; rintro e w1 ⟨rfl, rfl⟩))
  all_goals go_wp2_with fail
  all_goals exact bodyPost_ret (v := .agg #[.int .u8 2, .int .u8 s, .int .i16 (-149), .int .u32 0]) (by simp [results, Tryd.results24, go_sem, *]) rfl ⟨rfl, below4 _ _ _ _ _⟩
set_option maxHeartbeats 2000000 in
theorem splitNormS (a s f E : Int) (w : World) (d1 : a / 2147483648 = s) (d2 : a % 8388608 = f) (d3 : a / 8388608 % 256 = E) (s0 : 0 ≤ s) (s1 : s ≤ 1) (E0 : 1 ≤ E) (E1 : E < 255)  :
    Calls Tryd.prog 24 #[.agg #[.int .u8 8, .int .u8 23], .int .i64 a] w fun e w' => e = .returned (.agg #[.int .u8 1, .int .u8 s, .int .i16 (-149 + (E - 1)), .int .u32 (f + 8388608)]) ∧ Below w.heap.size w w' := by
  have m8 := Flo.mask8
  have m23 := Flo.mask23
  have d0 : a / 4294967296 = 0 := by omega
  have f0 : 0 ≤ f := by omega
  have f1 : f < 8388608 := by omega
  have fm : f % 4294967296 = f := by omega
  have sm : s % 256 = s := by omega
  have o := or23 f f0 f1
  have c1 : (E == 255) = false := by rw [beq_eq_false_iff_ne]; omega
  have c2 : (E != 0) = true := by rw [bne_iff_ne]; omega
  go_enter Tryd.func24, Tryd.ntmps24
  go_wp2_with fail
  go_region_held3 (fun w' => w'.cell? ⟨w.heap.size, 0, none⟩ = some (.int .u8 8) ∧ w'.cell? ⟨w.heap.size, 1, none⟩ = some (.int .u8 23)) (simp [go_sem, World.cell?_alloc_past])
    (first | (go_at_call 43; refine (lowestXS _).mono ?_; rintro e w1 ⟨rfl, rfl⟩))
  all_goals go_wp2_with fail
  all_goals exact bodyPost_ret (v := .agg #[.int .u8 1, .int .u8 s, .int .i16 (-149 + (E - 1)), .int .u32 (f + 8388608)]) (by simp [results, Tryd.results24, go_sem, *]) rfl ⟨rfl, below4 _ _ _ _ _⟩
set_option maxHeartbeats 2000000 in
theorem splitZeroS (a s f E : Int) (w : World) (d1 : a / 2147483648 = s) (d2 : a % 8388608 = f) (d3 : a / 8388608 % 256 = E) (s0 : 0 ≤ s) (s1 : s ≤ 1) (hE : E = 0) (hf : f = 0) :
    Calls Tryd.prog 24 #[.agg #[.int .u8 8, .int .u8 23], .int .i64 a] w fun e w' => e = .returned (.agg #[.int .u8 0, .int .u8 s, .int .i16 (-149), .int .u32 0]) ∧ Below w.heap.size w w' := by
  have m8 := Flo.mask8
  have m23 := Flo.mask23
  have d0 : a / 4294967296 = 0 := by omega
  have f0 : 0 ≤ f := by omega
  have f1 : f < 8388608 := by omega
  have fm : f % 4294967296 = f := by omega
  have sm : s % 256 = s := by omega
  subst hE
  subst hf
  go_enter Tryd.func24, Tryd.ntmps24
  go_wp2_with fail
  go_region_held3 (fun w' => w'.cell? ⟨w.heap.size, 0, none⟩ = some (.int .u8 8) ∧ w'.cell? ⟨w.heap.size, 1, none⟩ = some (.int .u8 23)) (simp [go_sem, World.cell?_alloc_past])
    (first | (go_at_call 43; refine (lowestXS _).mono ?_; rintro e w1 ⟨rfl, rfl⟩))
  all_goals go_wp2_with fail
  all_goals exact bodyPost_ret (v := .agg #[.int .u8 0, .int .u8 s, .int .i16 (-149), .int .u32 0]) (by simp [results, Tryd.results24, go_sem, *]) rfl ⟨rfl, below4 _ _ _ _ _⟩
set_option maxHeartbeats 2000000 in
theorem splitSubS (a s f E : Int) (w : World) (d1 : a / 2147483648 = s) (d2 : a % 8388608 = f) (d3 : a / 8388608 % 256 = E) (s0 : 0 ≤ s) (s1 : s ≤ 1) (hE : E = 0) (hf : f ≠ 0) :
    Calls Tryd.prog 24 #[.agg #[.int .u8 8, .int .u8 23], .int .i64 a] w fun e w' => e = .returned (.agg #[.int .u8 1, .int .u8 s, .int .i16 (-149), .int .u32 f]) ∧ Below w.heap.size w w' := by
  have m8 := Flo.mask8
  have m23 := Flo.mask23
  have d0 : a / 4294967296 = 0 := by omega
  have f0 : 0 ≤ f := by omega
  have f1 : f < 8388608 := by omega
  have fm : f % 4294967296 = f := by omega
  have sm : s % 256 = s := by omega
  subst hE
  have c3 : (f != 0) = true := by rw [bne_iff_ne]; exact hf
  have c4 : (f == 0) = false := by rw [beq_eq_false_iff_ne]; exact hf
  clear hf
  go_enter Tryd.func24, Tryd.ntmps24
  go_wp2_with fail
  go_region_held3 (fun w' => w'.cell? ⟨w.heap.size, 0, none⟩ = some (.int .u8 8) ∧ w'.cell? ⟨w.heap.size, 1, none⟩ = some (.int .u8 23)) (simp [go_sem, World.cell?_alloc_past])
    (first | (go_at_call 43; refine (lowestXS _).mono ?_; rintro e w1 ⟨rfl, rfl⟩))
  all_goals go_wp2_with fail
  all_goals exact bodyPost_ret (v := .agg #[.int .u8 1, .int .u8 s, .int .i16 (-149), .int .u32 f]) (by simp [results, Tryd.results24, go_sem, *]) rfl ⟨rfl, below4 _ _ _ _ _⟩

end FlP
end Go.Proofs.YtmghmcnihiepiaaDoor
