/- Rounded numbers: floats made halves and back. -/
import Derived.Test.YteoogkcjcfnniaaDoorFlV
import Derived.Test.YteoogkcjcfnniaaDoorFmH
import Derived.Test.YteoogkcjcfnniaaDoorFqH
namespace Go.Proofs.YteoogkcjcfnniaaDoor
namespace FlV
open Go.ChangeShapes Go.WideShapes Go.ChangeAt Go.RowKit Go.Joins
open Flo (hide ret_int ret_bool)
set_option linter.unusedVariables false

theorem half_g : Tryd.prog.globalNamed "loop.example/g00033/impl.halfFloat" = some 1 := by kernel_rfl
def HV (w : World) : Prop := Two w "loop.example/g00033/impl.halfFloat" 5 10
theorem HV.below {W W' : World} (h : HV W) (hb : Below W.heap.size W W') : HV W' := two_below half_g h hb
theorem HV.cells {W : World} (h : HV W) : W.cell? ⟨1, 0, none⟩ = some (.int .u8 5) ∧ W.cell? ⟨1, 1, none⟩ = some (.int .u8 10) := two_cells half_g h
theorem hv_at {r : List (String × DataW Unit)} {W : World} (h : laidMet Tryd.prog (("loop.example/g00033/impl.halfFloat", .agg [.lit (.int .u8 5), .lit (.int .u8 10)]) :: r) W) : HV W := two_head half_g (by kernel_rfl) h

theorem alloc_old {w : World} {o : Obj} {a : Addr} {v : Value} (h : w.cell? a = some v) : (w.alloc o).cell? a = some v := by
  rw [World.cell?_of_block (w := w) (Below.heap_alloc w o a.block (block_lt_of_cell h))]; exact h
/-- a value at its bits: what both sides round -/
theorem exact_rep (low : Int) (M : Nat) (e : Int) : ∃ a b j1 j2 : Nat, 0 < b ∧ e = low + (j2 : Int) - j1 ∧ M = a * 2 ^ j1 / (b * 2 ^ j2) ∧ a * 2 ^ j1 % (b * 2 ^ j2) = 0 := by
  refine ⟨M * 2 ^ (e - low).toNat, 2 ^ (low - e).toNat, (low - e).toNat, (e - low).toNat, Nat.two_pow_pos _, by omega, ?_, ?_⟩
  · rw [Nat.mul_assoc, Nat.mul_comm (2 ^ (low - e).toNat) (2 ^ (e - low).toNat), Nat.mul_div_cancel _ (Nat.mul_pos (Nat.two_pow_pos _) (Nat.two_pow_pos _))]
  · rw [Nat.mul_assoc, Nat.mul_comm (2 ^ (low - e).toNat) (2 ^ (e - low).toNat), Nat.mul_mod_left]

theorem splitBadH (a : Int) (w : World) (h : FlP.BadH a) :
    Calls Tryd.prog 26 #[.agg #[.int .u8 5, .int .u8 10], .int .i64 a] w fun e w' => ∃ x y z, e = .returned (.agg #[.int .u8 3, .int .u8 x, .int .i16 y, .int .u32 z]) ∧ Below w.heap.size w w' := by
  unfold FlP.BadH at h
  by_cases c : a < 0 ∨ 65536 ≤ a
  · exact (FlP.splitBigH a w c).mono fun e w' ⟨h1, h2⟩ => ⟨_, _, _, h1, h2⟩
  · exact (FlP.splitNanH a (a / 32768) (a % 1024) 31 w rfl rfl (by omega) (by omega) (by omega) rfl (by omega)).mono fun e w' ⟨h1, h2⟩ => ⟨_, _, _, h1, h2⟩
theorem splitInfH (a s : Int) (w : World) (h : FlP.InfH a s) :
    Calls Tryd.prog 26 #[.agg #[.int .u8 5, .int .u8 10], .int .i64 a] w fun e w' => e = .returned (.agg #[.int .u8 2, .int .u8 s, .int .i16 (-24), .int .u32 0]) ∧ Below w.heap.size w w' := by
  unfold FlP.InfH at h
  exact FlP.splitInfH a s 0 31 w (by omega) (by omega) (by omega) (by omega) (by omega) rfl rfl
theorem splitFinH (a s m e : Int) (w : World) (h : FlP.FinH a s m e) :
    Calls Tryd.prog 26 #[.agg #[.int .u8 5, .int .u8 10], .int .i64 a] w fun e' w' => ∃ k, (k == 3) = false ∧ (k == 2) = false ∧ e' = .returned (.agg #[.int .u8 k, .int .u8 s, .int .i16 e, .int .u32 m]) ∧ Below w.heap.size w w' := by
  unfold FlP.FinH at h
  by_cases c : m < 1024
  · obtain rfl : e = -24 := by omega
    by_cases m0 : m = 0
    · subst m0
      exact (FlP.splitZeroH a s 0 0 w (by omega) (by omega) (by omega) (by omega) (by omega) rfl rfl).mono fun e w' ⟨h1, h2⟩ => ⟨0, by decide, by decide, h1, h2⟩
    · exact (FlP.splitSubH a s m 0 w (by omega) (by omega) (by omega) (by omega) (by omega) rfl m0).mono fun e w' ⟨h1, h2⟩ => ⟨1, by decide, by decide, h1, h2⟩
  · have := FlP.splitNormH a s (m - 1024) (e + 25) w (by omega) (by omega) (by omega) (by omega) (by omega) (by omega) (by omega)
    rw [show m - 1024 + 1024 = m by omega, show -24 + (e + 25 - 1) = e by omega] at this
    exact this.mono fun e w' ⟨h1, h2⟩ => ⟨1, by decide, by decide, h1, h2⟩
theorem splitFinS (a s m e : Int) (w : World) (h : FlP.Fin a s m e) :
    Calls Tryd.prog 26 #[.agg #[.int .u8 8, .int .u8 23], .int .i64 a] w fun e' w' => ∃ k, (k == 3) = false ∧ (k == 2) = false ∧ e' = .returned (.agg #[.int .u8 k, .int .u8 s, .int .i16 e, .int .u32 m]) ∧ Below w.heap.size w w' := by
  by_cases m0 : m = 0
  · subst m0
    have e1 : e = -149 := by unfold FlP.Fin at h; omega
    subst e1
    exact (splitZero a s (-149) w h).mono fun e w' ⟨h1, h2⟩ => ⟨0, by decide, by decide, h1, h2⟩
  · exact (splitFin a s m e w h m0).mono fun e w' ⟨h1, h2⟩ => ⟨1, by decide, by decide, h1, h2⟩


theorem turnBadSH (a : Int) (w : World) (h : FlP.Bad a) : Calls Tryd.prog 24 #[.agg #[.int .u8 8, .int .u8 23], .int .i64 a, .agg #[.int .u8 5, .int .u8 10]] w fun e w' => e = .returned (.int .i64 32256) ∧ Below w.heap.size w w' := by
  have c0 : ((w.alloc (.cells #[.int .u8 8, .int .u8 23] 30)).alloc (.cells #[.int .u8 5, .int .u8 10] 30)).cell? ⟨w.heap.size + 1, 0, none⟩ = some (.int .u8 5) := by simp [go_sem]
  have c1 : ((w.alloc (.cells #[.int .u8 8, .int .u8 23] 30)).alloc (.cells #[.int .u8 5, .int .u8 10] 30)).cell? ⟨w.heap.size + 1, 1, none⟩ = some (.int .u8 10) := by simp [go_sem]
  have bW := below_alloc2 w (.cells #[.int .u8 8, .int .u8 23] 30) (.cells #[.int .u8 5, .int .u8 10] 30)
  have sW : w.heap.size + 1 < ((w.alloc (.cells #[.int .u8 8, .int .u8 23] 30)).alloc (.cells #[.int .u8 5, .int .u8 10] 30)).heap.size := by simp
  go_enter Tryd.func24, Tryd.ntmps24
  go_wp2_with fail
  generalize (w.alloc (.cells #[.int .u8 8, .int .u8 23] 30)).alloc (.cells #[.int .u8 5, .int .u8 10] 30) = W at *
  refine (splitBad a _ h).mono ?_; rintro e w1 ⟨x, y, z, rfl, b1⟩
  have k0 : ∀ o, (w1.alloc o).cell? ⟨w.heap.size + 1, 0, none⟩ = some (.int .u8 5) := fun o => alloc_old ((b1.cell (by exact sW)).trans c0)
  have k1 : ∀ o, (w1.alloc o).cell? ⟨w.heap.size + 1, 1, none⟩ = some (.int .u8 10) := fun o => alloc_old ((b1.cell (by exact sW)).trans c1)
  have bW1 : Below w.heap.size w w1 := bW.trans (b1.mono bW.size)
  clear c0 c1 sW bW b1
  go_wp2_with fail
  refine (FlR.nanH _).mono ?_; rintro e w2 ⟨rfl, b2⟩
  go_wp2_with fail
  go_ret
  exact ⟨rfl, (bW1.alloc bW1.size _).trans (b2.mono (bW1.alloc bW1.size _).size)⟩
theorem turnInfSH (a s : Int) (w : World) (h : FlP.Inf a s) : Calls Tryd.prog 24 #[.agg #[.int .u8 8, .int .u8 23], .int .i64 a, .agg #[.int .u8 5, .int .u8 10]] w fun e w' => e = .returned (.int .i64 (s * 32768 + 31744)) ∧ Below w.heap.size w w' := by
  have s0 : 0 ≤ s := h.1
  have s1 : s ≤ 1 := h.2.1
  have c0 : ((w.alloc (.cells #[.int .u8 8, .int .u8 23] 30)).alloc (.cells #[.int .u8 5, .int .u8 10] 30)).cell? ⟨w.heap.size + 1, 0, none⟩ = some (.int .u8 5) := by simp [go_sem]
  have c1 : ((w.alloc (.cells #[.int .u8 8, .int .u8 23] 30)).alloc (.cells #[.int .u8 5, .int .u8 10] 30)).cell? ⟨w.heap.size + 1, 1, none⟩ = some (.int .u8 10) := by simp [go_sem]
  have bW := below_alloc2 w (.cells #[.int .u8 8, .int .u8 23] 30) (.cells #[.int .u8 5, .int .u8 10] 30)
  have sW : w.heap.size + 1 < ((w.alloc (.cells #[.int .u8 8, .int .u8 23] 30)).alloc (.cells #[.int .u8 5, .int .u8 10] 30)).heap.size := by simp
  go_enter Tryd.func24, Tryd.ntmps24
  go_wp2_with fail
  generalize (w.alloc (.cells #[.int .u8 8, .int .u8 23] 30)).alloc (.cells #[.int .u8 5, .int .u8 10] 30) = W at *
  refine (splitInf a s _ h).mono ?_; rintro e w1 ⟨rfl, b1⟩
  have k0 : ∀ o, (w1.alloc o).cell? ⟨w.heap.size + 1, 0, none⟩ = some (.int .u8 5) := fun o => alloc_old ((b1.cell (by exact sW)).trans c0)
  have k1 : ∀ o, (w1.alloc o).cell? ⟨w.heap.size + 1, 1, none⟩ = some (.int .u8 10) := fun o => alloc_old ((b1.cell (by exact sW)).trans c1)
  have bW1 : Below w.heap.size w w1 := bW.trans (b1.mono bW.size)
  clear c0 c1 sW bW b1
  go_wp2_with fail
  refine (FlR.infH s _ s0 s1).mono ?_; rintro e w2 ⟨rfl, b2⟩
  go_wp2_with fail
  go_ret
  exact ⟨rfl, (bW1.alloc bW1.size _).trans (b2.mono (bW1.alloc bW1.size _).size)⟩
theorem turnFinSH (a s m e f : Int) (w : World) (h : FlP.Fin a s m e) (m1 : m < 16777216) (hR : ∀ w : World, Calls Tryd.prog 25 #[.agg #[.int .u8 5, .int .u8 10], .int .u8 s, .int .u64 m, .int .i64 e] w fun e w' => e = .returned (.int .i64 f) ∧ Below w.heap.size w w') :
    Calls Tryd.prog 24 #[.agg #[.int .u8 8, .int .u8 23], .int .i64 a, .agg #[.int .u8 5, .int .u8 10]] w fun e w' => e = .returned (.int .i64 f) ∧ Below w.heap.size w w' := by
  have m0 : 0 ≤ m := h.2.2.2.1
  have e0 := h.2.2.2.2.2.1
  have e1 := h.2.2.2.2.2.2.1
  have HR := hide hR
  have HH := hide h
  clear hR h
  have c0 : ((w.alloc (.cells #[.int .u8 8, .int .u8 23] 30)).alloc (.cells #[.int .u8 5, .int .u8 10] 30)).cell? ⟨w.heap.size + 1, 0, none⟩ = some (.int .u8 5) := by simp [go_sem]
  have c1 : ((w.alloc (.cells #[.int .u8 8, .int .u8 23] 30)).alloc (.cells #[.int .u8 5, .int .u8 10] 30)).cell? ⟨w.heap.size + 1, 1, none⟩ = some (.int .u8 10) := by simp [go_sem]
  have bW := below_alloc2 w (.cells #[.int .u8 8, .int .u8 23] 30) (.cells #[.int .u8 5, .int .u8 10] 30)
  have sW : w.heap.size + 1 < ((w.alloc (.cells #[.int .u8 8, .int .u8 23] 30)).alloc (.cells #[.int .u8 5, .int .u8 10] 30)).heap.size := by simp
  go_enter Tryd.func24, Tryd.ntmps24
  go_wp2_with fail
  generalize (w.alloc (.cells #[.int .u8 8, .int .u8 23] 30)).alloc (.cells #[.int .u8 5, .int .u8 10] 30) = W at *
  refine (splitFinS a s m e _ HH.out).mono ?_; rintro e' w1 ⟨k, hk3, hk2, rfl, b1⟩
  have k0 : ∀ o, (w1.alloc o).cell? ⟨w.heap.size + 1, 0, none⟩ = some (.int .u8 5) := fun o => alloc_old ((b1.cell (by exact sW)).trans c0)
  have k1 : ∀ o, (w1.alloc o).cell? ⟨w.heap.size + 1, 1, none⟩ = some (.int .u8 10) := fun o => alloc_old ((b1.cell (by exact sW)).trans c1)
  have bW1 : Below w.heap.size w w1 := bW.trans (b1.mono bW.size)
  clear c0 c1 sW bW b1
  go_wp2_with fail
  refine (HR.out _).mono ?_; rintro e' w2 ⟨rfl, b2⟩
  go_wp2_with fail
  go_ret
  exact ⟨rfl, (bW1.alloc bW1.size _).trans (b2.mono (bW1.alloc bW1.size _).size)⟩
theorem turnBadHS (a : Int) (w : World) (h : FlP.BadH a) : Calls Tryd.prog 24 #[.agg #[.int .u8 5, .int .u8 10], .int .i64 a, .agg #[.int .u8 8, .int .u8 23]] w fun e w' => e = .returned (.int .i64 2143289344) ∧ Below w.heap.size w w' := by
  have c0 : ((w.alloc (.cells #[.int .u8 5, .int .u8 10] 30)).alloc (.cells #[.int .u8 8, .int .u8 23] 30)).cell? ⟨w.heap.size + 1, 0, none⟩ = some (.int .u8 8) := by simp [go_sem]
  have c1 : ((w.alloc (.cells #[.int .u8 5, .int .u8 10] 30)).alloc (.cells #[.int .u8 8, .int .u8 23] 30)).cell? ⟨w.heap.size + 1, 1, none⟩ = some (.int .u8 23) := by simp [go_sem]
  have bW := below_alloc2 w (.cells #[.int .u8 5, .int .u8 10] 30) (.cells #[.int .u8 8, .int .u8 23] 30)
  have sW : w.heap.size + 1 < ((w.alloc (.cells #[.int .u8 5, .int .u8 10] 30)).alloc (.cells #[.int .u8 8, .int .u8 23] 30)).heap.size := by simp
  go_enter Tryd.func24, Tryd.ntmps24
  go_wp2_with fail
  generalize (w.alloc (.cells #[.int .u8 5, .int .u8 10] 30)).alloc (.cells #[.int .u8 8, .int .u8 23] 30) = W at *
  refine (splitBadH a _ h).mono ?_; rintro e w1 ⟨x, y, z, rfl, b1⟩
  have k0 : ∀ o, (w1.alloc o).cell? ⟨w.heap.size + 1, 0, none⟩ = some (.int .u8 8) := fun o => alloc_old ((b1.cell (by exact sW)).trans c0)
  have k1 : ∀ o, (w1.alloc o).cell? ⟨w.heap.size + 1, 1, none⟩ = some (.int .u8 23) := fun o => alloc_old ((b1.cell (by exact sW)).trans c1)
  have bW1 : Below w.heap.size w w1 := bW.trans (b1.mono bW.size)
  clear c0 c1 sW bW b1
  go_wp2_with fail
  refine (FlR.nanS _).mono ?_; rintro e w2 ⟨rfl, b2⟩
  go_wp2_with fail
  go_ret
  exact ⟨rfl, (bW1.alloc bW1.size _).trans (b2.mono (bW1.alloc bW1.size _).size)⟩
theorem turnInfHS (a s : Int) (w : World) (h : FlP.InfH a s) : Calls Tryd.prog 24 #[.agg #[.int .u8 5, .int .u8 10], .int .i64 a, .agg #[.int .u8 8, .int .u8 23]] w fun e w' => e = .returned (.int .i64 (s * 2147483648 + 2139095040)) ∧ Below w.heap.size w w' := by
  have s0 : 0 ≤ s := h.1
  have s1 : s ≤ 1 := h.2.1
  have c0 : ((w.alloc (.cells #[.int .u8 5, .int .u8 10] 30)).alloc (.cells #[.int .u8 8, .int .u8 23] 30)).cell? ⟨w.heap.size + 1, 0, none⟩ = some (.int .u8 8) := by simp [go_sem]
  have c1 : ((w.alloc (.cells #[.int .u8 5, .int .u8 10] 30)).alloc (.cells #[.int .u8 8, .int .u8 23] 30)).cell? ⟨w.heap.size + 1, 1, none⟩ = some (.int .u8 23) := by simp [go_sem]
  have bW := below_alloc2 w (.cells #[.int .u8 5, .int .u8 10] 30) (.cells #[.int .u8 8, .int .u8 23] 30)
  have sW : w.heap.size + 1 < ((w.alloc (.cells #[.int .u8 5, .int .u8 10] 30)).alloc (.cells #[.int .u8 8, .int .u8 23] 30)).heap.size := by simp
  go_enter Tryd.func24, Tryd.ntmps24
  go_wp2_with fail
  generalize (w.alloc (.cells #[.int .u8 5, .int .u8 10] 30)).alloc (.cells #[.int .u8 8, .int .u8 23] 30) = W at *
  refine (splitInfH a s _ h).mono ?_; rintro e w1 ⟨rfl, b1⟩
  have k0 : ∀ o, (w1.alloc o).cell? ⟨w.heap.size + 1, 0, none⟩ = some (.int .u8 8) := fun o => alloc_old ((b1.cell (by exact sW)).trans c0)
  have k1 : ∀ o, (w1.alloc o).cell? ⟨w.heap.size + 1, 1, none⟩ = some (.int .u8 23) := fun o => alloc_old ((b1.cell (by exact sW)).trans c1)
  have bW1 : Below w.heap.size w w1 := bW.trans (b1.mono bW.size)
  clear c0 c1 sW bW b1
  go_wp2_with fail
  refine (FlR.infS s _ s0 s1).mono ?_; rintro e w2 ⟨rfl, b2⟩
  go_wp2_with fail
  go_ret
  exact ⟨rfl, (bW1.alloc bW1.size _).trans (b2.mono (bW1.alloc bW1.size _).size)⟩
theorem turnFinHS (a s m e f : Int) (w : World) (h : FlP.FinH a s m e) (m1 : m < 16777216) (hR : ∀ w : World, Calls Tryd.prog 25 #[.agg #[.int .u8 8, .int .u8 23], .int .u8 s, .int .u64 m, .int .i64 e] w fun e w' => e = .returned (.int .i64 f) ∧ Below w.heap.size w w') :
    Calls Tryd.prog 24 #[.agg #[.int .u8 5, .int .u8 10], .int .i64 a, .agg #[.int .u8 8, .int .u8 23]] w fun e w' => e = .returned (.int .i64 f) ∧ Below w.heap.size w w' := by
  have m0 : 0 ≤ m := h.2.2.2.1
  have e0 := h.2.2.2.2.2.1
  have e1 := h.2.2.2.2.2.2.1
  have HR := hide hR
  have HH := hide h
  clear hR h
  have c0 : ((w.alloc (.cells #[.int .u8 5, .int .u8 10] 30)).alloc (.cells #[.int .u8 8, .int .u8 23] 30)).cell? ⟨w.heap.size + 1, 0, none⟩ = some (.int .u8 8) := by simp [go_sem]
  have c1 : ((w.alloc (.cells #[.int .u8 5, .int .u8 10] 30)).alloc (.cells #[.int .u8 8, .int .u8 23] 30)).cell? ⟨w.heap.size + 1, 1, none⟩ = some (.int .u8 23) := by simp [go_sem]
  have bW := below_alloc2 w (.cells #[.int .u8 5, .int .u8 10] 30) (.cells #[.int .u8 8, .int .u8 23] 30)
  have sW : w.heap.size + 1 < ((w.alloc (.cells #[.int .u8 5, .int .u8 10] 30)).alloc (.cells #[.int .u8 8, .int .u8 23] 30)).heap.size := by simp
  go_enter Tryd.func24, Tryd.ntmps24
  go_wp2_with fail
  generalize (w.alloc (.cells #[.int .u8 5, .int .u8 10] 30)).alloc (.cells #[.int .u8 8, .int .u8 23] 30) = W at *
  refine (splitFinH a s m e _ HH.out).mono ?_; rintro e' w1 ⟨k, hk3, hk2, rfl, b1⟩
  have k0 : ∀ o, (w1.alloc o).cell? ⟨w.heap.size + 1, 0, none⟩ = some (.int .u8 8) := fun o => alloc_old ((b1.cell (by exact sW)).trans c0)
  have k1 : ∀ o, (w1.alloc o).cell? ⟨w.heap.size + 1, 1, none⟩ = some (.int .u8 23) := fun o => alloc_old ((b1.cell (by exact sW)).trans c1)
  have bW1 : Below w.heap.size w w1 := bW.trans (b1.mono bW.size)
  clear c0 c1 sW bW b1
  go_wp2_with fail
  refine (HR.out _).mono ?_; rintro e' w2 ⟨rfl, b2⟩
  go_wp2_with fail
  go_ret
  exact ⟨rfl, (bW1.alloc bW1.size _).trans (b2.mono (bW1.alloc bW1.size _).size)⟩

end FlV
end Go.Proofs.YteoogkcjcfnniaaDoor
