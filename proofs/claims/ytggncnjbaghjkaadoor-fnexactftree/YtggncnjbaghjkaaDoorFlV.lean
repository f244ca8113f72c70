/- What the rows list: the two formats, as package variables; a float's parts and signs on the program's side; opposites and which is less. -/
import Derived.Test.YtggncnjbaghjkaaDoorFlM
import Derived.Test.YtggncnjbaghjkaaDoorFlQ
import Derived.Stop.LaidErr
import Derived.Stop.Joined
import Derived.LaidByTextLater
import Derived.Lib.SmallJoins
namespace Go.Proofs.YtggncnjbaghjkaaDoor
namespace FlV
open Go.ChangeShapes Go.WideShapes Go.ChangeAt Go.RowKit Go.Joins
open Flo (hide ret_int ret_bool)
set_option linter.unusedVariables false

/-- a variable of two small numbers -/
def Two (w : World) (n : String) (x y : Int) : Prop := w.var? Tryd.prog n = some #[.int .u8 x, .int .u8 y]
theorem two_head {n : String} {g : Nat} {x y : Int} {r : List (String × DataW Unit)} {W : World} (hg : Tryd.prog.globalNamed n = some g) (ht : (Tryd.prog.globals[g]?).map (·.type) = some 41)
    (h : laidMet Tryd.prog ((n, .agg [.lit (.int .u8 x), .lit (.int .u8 y)]) :: r) W) : Two W n x y := by
  obtain ⟨ps, ⟨g', t', cs, fuel, p, q, hg', ht', hvar, hd, _, _⟩, _⟩ := h
  obtain rfl := Option.some.inj (hg.symm.trans hg')
  obtain rfl := Option.some.inj (ht.symm.trans ht')
  unfold Two
  rw [hvar]
  obtain ⟨y0, y1, n, hx, hl, h0, h1⟩ := trod_struct2 Tryd.underlying41 hd
  obtain ⟨n0, e0, x0, _⟩ := DataW.trod_int Tryd.underlying5 h0
  obtain ⟨n1, e1, x1, _⟩ := DataW.trod_int Tryd.underlying5 h1
  have hC : Tryd.prog.cellsOf 41 = 2 := by kernel_rfl
  have hc : Tryd.prog.cellsOf 5 = 1 := by kernel_rfl
  subst x0 x1
  simp only [Prod.mk.injEq, DataW.agg.injEq, List.cons.injEq, DataW.lit.injEq, Lit.int.injEq, true_and, and_true] at hx
  obtain ⟨⟨rfl, rfl⟩, _⟩ := hx
  rw [hC] at hl
  obtain ⟨l⟩ := cs
  match l, hl with
  | [v0, v1], _ => simp_all
theorem two_below {W W' : World} {n : String} {g : Nat} {x y : Int} (hg : Tryd.prog.globalNamed n = some g) (h : Two W n x y) (hb : Below W.heap.size W W') : Two W' n x y := var_stays hg h hb (Nat.le_refl _)
theorem two_cells {W : World} {n : String} {g : Nat} {x y : Int} (hg : Tryd.prog.globalNamed n = some g) (h : Two W n x y) : W.cell? ⟨g, 0, none⟩ = some (.int .u8 x) ∧ W.cell? ⟨g, 1, none⟩ = some (.int .u8 y) :=
  ⟨by simpa using World.var?_cell hg h 0, by simpa using World.var?_cell hg h 1⟩
theorem single_g : Tryd.prog.globalNamed "loop.example/g00033/impl.singleFloat" = some 0 := by kernel_rfl
def SV (w : World) : Prop := Two w "loop.example/g00033/impl.singleFloat" 8 23
theorem SV.below {W W' : World} (h : SV W) (hb : Below W.heap.size W W') : SV W' := two_below single_g h hb
theorem SV.cells {W : World} (h : SV W) : W.cell? ⟨0, 0, none⟩ = some (.int .u8 8) ∧ W.cell? ⟨0, 1, none⟩ = some (.int .u8 23) := two_cells single_g h
theorem sv_at {r : List (String × DataW Unit)} {W : World} (h : laidMet Tryd.prog (("loop.example/g00033/impl.singleFloat", .agg [.lit (.int .u8 8), .lit (.int .u8 23)]) :: r) W) : SV W := two_head single_g (by kernel_rfl) h

theorem splitBad (a : Int) (w : World) (h : FlP.Bad a) :
    Calls Tryd.prog 17 #[.agg #[.int .u8 8, .int .u8 23], .int .i64 a] w fun e w' => ∃ x y z, e = .returned (.agg #[.int .u8 3, .int .u8 x, .int .i16 y, .int .u32 z]) ∧ Below w.heap.size w w' := by
  unfold FlP.Bad at h
  by_cases c : a < 0 ∨ 4294967296 ≤ a
  · exact (FlP.splitBigS a w c).mono fun e w' ⟨h1, h2⟩ => ⟨_, _, _, h1, h2⟩
  · exact (FlP.splitNanS a (a / 2147483648) (a % 8388608) 255 w rfl rfl (by omega) (by omega) (by omega) rfl (by omega)).mono fun e w' ⟨h1, h2⟩ => ⟨_, _, _, h1, h2⟩
theorem splitInf (a s : Int) (w : World) (h : FlP.Inf a s) :
    Calls Tryd.prog 17 #[.agg #[.int .u8 8, .int .u8 23], .int .i64 a] w fun e w' => e = .returned (.agg #[.int .u8 2, .int .u8 s, .int .i16 (-149), .int .u32 0]) ∧ Below w.heap.size w w' := by
  unfold FlP.Inf at h
  exact FlP.splitInfS a s 0 255 w (by omega) (by omega) (by omega) (by omega) (by omega) rfl rfl
theorem splitZero (a s e : Int) (w : World) (h : FlP.Fin a s 0 e) :
    Calls Tryd.prog 17 #[.agg #[.int .u8 8, .int .u8 23], .int .i64 a] w fun e w' => e = .returned (.agg #[.int .u8 0, .int .u8 s, .int .i16 (-149), .int .u32 0]) ∧ Below w.heap.size w w' := by
  unfold FlP.Fin at h
  exact FlP.splitZeroS a s 0 0 w (by omega) (by omega) (by omega) (by omega) (by omega) rfl rfl
theorem splitFin (a s m e : Int) (w : World) (h : FlP.Fin a s m e) (m0 : m ≠ 0) :
    Calls Tryd.prog 17 #[.agg #[.int .u8 8, .int .u8 23], .int .i64 a] w fun e' w' => e' = .returned (.agg #[.int .u8 1, .int .u8 s, .int .i16 e, .int .u32 m]) ∧ Below w.heap.size w w' := by
  unfold FlP.Fin at h
  by_cases c : m < 8388608
  · obtain rfl : e = -149 := by omega
    exact FlP.splitSubS a s m 0 w (by omega) (by omega) (by omega) (by omega) (by omega) rfl (by omega)
  · have := FlP.splitNormS a s (m - 8388608) (e + 150) w (by omega) (by omega) (by omega) (by omega) (by omega) (by omega) (by omega)
    rw [show m - 8388608 + 8388608 = m by omega, show -149 + (e + 150 - 1) = e by omega] at this
    exact this
/-- a number: neither bad nor told apart further -/
def Num (a s : Int) : Prop := FlP.Inf a s ∨ ∃ m e, FlP.Fin a s m e
theorem num_or (a : Int) : FlP.Bad a ∨ ∃ s, Num a s := by
  rcases FlP.kinds a with h | ⟨s, h⟩ | ⟨s, m, e, h⟩
  · exact .inl h
  · exact .inr ⟨s, .inl h⟩
  · exact .inr ⟨s, .inr ⟨m, e, h⟩⟩
theorem Num.bd {a s : Int} (h : Num a s) : 0 ≤ s ∧ s ≤ 1 ∧ 0 ≤ a ∧ a ≤ 4294967295 ∧ a / 2147483648 = s := by
  rcases h with h | ⟨m, e, h⟩
  · unfold FlP.Inf at h; omega
  · unfold FlP.Fin at h; omega
theorem splitNum (a s : Int) (w : World) (h : Num a s) :
    Calls Tryd.prog 17 #[.agg #[.int .u8 8, .int .u8 23], .int .i64 a] w fun e w' => ∃ k y z, (k == 3) = false ∧ e = .returned (.agg #[.int .u8 k, .int .u8 s, .int .i16 y, .int .u32 z]) ∧ Below w.heap.size w w' := by
  rcases h with h | ⟨m, e, h⟩
  · exact (splitInf a s w h).mono fun e w' ⟨h1, h2⟩ => ⟨_, _, _, by decide, h1, h2⟩
  · by_cases m0 : m = 0
    · subst m0
      exact (splitZero a s e w h).mono fun e w' ⟨h1, h2⟩ => ⟨_, _, _, by decide, h1, h2⟩
    · exact (splitFin a s m e w h m0).mono fun e w' ⟨h1, h2⟩ => ⟨_, _, _, by decide, h1, h2⟩
theorem openNum (a s : Int) (w : World) (h : Num a s) :
    Calls Tryd.prog 14 #[.int .i64 a] w fun e w' => ∃ k y z, (k == 2) = false ∧ e = .returned (.agg #[.int .i64 k, .bool (s == 1), .int .i64 y, .int .i64 z]) ∧ Below w.heap.size w w' := by
  rcases h with h | ⟨m, e, h⟩
  · exact (FlM.openInfC a s w h).mono fun e w' ⟨h1, h2⟩ => ⟨_, _, _, by decide, h1, h2⟩
  · exact (FlM.openFin a s m e w h).mono fun e w' ⟨h1, h2⟩ => ⟨_, _, _, by decide, h1, h2⟩
theorem zero1 (w : World) : Calls Tryd.prog 18 #[.agg #[.int .u8 8, .int .u8 23], .int .u8 1] w fun e w' => e = .returned (.int .i64 2147483648) ∧ Below w.heap.size w w' :=
  (FlP.zeroS 1 w (by decide) (by decide)).mono fun e w' ⟨h1, h2⟩ => ⟨h1.trans (ret_int (by decide)), h2⟩

theorem field0 (a b c d : Value) (w : World) : (Instr.field 39 (.agg #[a, b, c, d]) 0).run Tryd.prog w = .ok a w := by
  simp [Instr.field, go_sem]
  rfl


end FlV
end Go.Proofs.YtggncnjbaghjkaaDoor
