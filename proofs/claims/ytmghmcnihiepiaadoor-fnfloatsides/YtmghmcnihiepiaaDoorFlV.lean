/- What the rows list: the two formats, as package variables; a float's parts and signs on the program's side; opposites and which is less. -/
import Derived.Test.YtmghmcnihiepiaaDoorFlM
import Derived.Test.YtmghmcnihiepiaaDoorFlQ
import Derived.Stop.LaidErr
import Derived.Stop.Joined
import Derived.LaidByTextLater
import Derived.Lib.SmallJoins
namespace Go.Proofs.YtmghmcnihiepiaaDoor
namespace FlV
open Go.ChangeShapes Go.WideShapes Go.ChangeAt Go.RowKit Go.Joins
open Flo (hide ret_int ret_bool)
set_option linter.unusedVariables false

/-- a variable of two small numbers -/
def Two (w : World) (n : String) (x y : Int) : Prop := w.var? Tryd.prog n = some #[.int .u8 x, .int .u8 y]
theorem two_head {n : String} {g : Nat} {x y : Int} {r : List (String × DataW Unit)} {W : World} (hg : Tryd.prog.globalNamed n = some g) (ht : (Tryd.prog.globals[g]?).map (·.type) = some 36)
    (h : laidMet Tryd.prog ((n, .agg [.lit (.int .u8 x), .lit (.int .u8 y)]) :: r) W) : Two W n x y := by
  obtain ⟨ps, ⟨g', t', cs, fuel, p, q, hg', ht', hvar, hd, _, _⟩, _⟩ := h
  obtain rfl := Option.some.inj (hg.symm.trans hg')
  obtain rfl := Option.some.inj (ht.symm.trans ht')
  unfold Two
  rw [hvar]
  obtain ⟨y0, y1, n, hx, hl, h0, h1⟩ := trod_struct2 Tryd.underlying36 hd
  obtain ⟨n0, e0, x0, _⟩ := DataW.trod_int Tryd.underlying5 h0
  obtain ⟨n1, e1, x1, _⟩ := DataW.trod_int Tryd.underlying5 h1
  have hC : Tryd.prog.cellsOf 36 = 2 := by kernel_rfl
  have hc : Tryd.prog.cellsOf 5 = 1 := by kernel_rfl
  subst x0 x1
  simp only [Prod.mk.injEq, DataW.agg.injEq, List.cons.injEq, DataW.lit.injEq, Lit.int.injEq, true_and, and_true] at hx
  obtain ⟨⟨rfl, rfl⟩, _⟩ := hx
  rw [hC] at hl
  obtain ⟨l⟩ := cs
  match l, hl with
  | [v0, v1], _ => simp_all
theorem two_below {W W' : World} {n : String} {g : Nat} {x y : Int} (hg : Tryd.prog.globalNamed n = some g) (h : Two W n x y) (hb : Below W.heap.size W W') : Two W' n x y := var_stays hg h hb (Nat.le_refl _)
theorem two_cells {W : World} {n : String} {g : Nat} {x y : Int} (hg : Tryd.prog.globalNamed n = some g) (h : Two W n x y) : W.cell? ⟨g, 0, none⟩ = some (.int .u8 x) ∧ W.cell? ⟨g, 1, none⟩ = some (.int .u8 y) :=
  ⟨by simpa using World.var?_cell hg h 0, by simpa using World.var?_cell hg h 1⟩
theorem single_g : Tryd.prog.globalNamed "loop.example/g00033/impl.singleFloat" = some 0 := by kernel_rfl
def SV (w : World) : Prop := Two w "loop.example/g00033/impl.singleFloat" 8 23
theorem SV.below {W W' : World} (h : SV W) (hb : Below W.heap.size W W') : SV W' := two_below single_g h hb
theorem SV.cells {W : World} (h : SV W) : W.cell? ⟨0, 0, none⟩ = some (.int .u8 8) ∧ W.cell? ⟨0, 1, none⟩ = some (.int .u8 23) := two_cells single_g h
theorem sv_at {r : List (String × DataW Unit)} {W : World} (h : laidMet Tryd.prog (("loop.example/g00033/impl.singleFloat", .agg [.lit (.int .u8 8), .lit (.int .u8 23)]) :: r) W) : SV W := two_head single_g (by kernel_rfl) h

theorem splitBad (a : Int) (w : World) (h : FlP.Bad a) :
    Calls Tryd.prog 24 #[.agg #[.int .u8 8, .int .u8 23], .int .i64 a] w fun e w' => ∃ x y z, e = .returned (.agg #[.int .u8 3, .int .u8 x, .int .i16 y, .int .u32 z]) ∧ Below w.heap.size w w' := by
  unfold FlP.Bad at h
  by_cases c : a < 0 ∨ 4294967296 ≤ a
  · exact (FlP.splitBigS a w c).mono fun e w' ⟨h1, h2⟩ => ⟨_, _, _, h1, h2⟩
  · exact (FlP.splitNanS a (a / 2147483648) (a % 8388608) 255 w rfl rfl (by omega) (by omega) (by omega) rfl (by omega)).mono fun e w' ⟨h1, h2⟩ => ⟨_, _, _, h1, h2⟩
theorem splitInf (a s : Int) (w : World) (h : FlP.Inf a s) :
    Calls Tryd.prog 24 #[.agg #[.int .u8 8, .int .u8 23], .int .i64 a] w fun e w' => e = .returned (.agg #[.int .u8 2, .int .u8 s, .int .i16 (-149), .int .u32 0]) ∧ Below w.heap.size w w' := by
  unfold FlP.Inf at h
  exact FlP.splitInfS a s 0 255 w (by omega) (by omega) (by omega) (by omega) (by omega) rfl rfl
theorem splitZero (a s e : Int) (w : World) (h : FlP.Fin a s 0 e) :
    Calls Tryd.prog 24 #[.agg #[.int .u8 8, .int .u8 23], .int .i64 a] w fun e w' => e = .returned (.agg #[.int .u8 0, .int .u8 s, .int .i16 (-149), .int .u32 0]) ∧ Below w.heap.size w w' := by
  unfold FlP.Fin at h
  exact FlP.splitZeroS a s 0 0 w (by omega) (by omega) (by omega) (by omega) (by omega) rfl rfl
theorem splitFin (a s m e : Int) (w : World) (h : FlP.Fin a s m e) (m0 : m ≠ 0) :
    Calls Tryd.prog 24 #[.agg #[.int .u8 8, .int .u8 23], .int .i64 a] w fun e' w' => e' = .returned (.agg #[.int .u8 1, .int .u8 s, .int .i16 e, .int .u32 m]) ∧ Below w.heap.size w w' := by
  unfold FlP.Fin at h
  by_cases c : m < 8388608
  · obtain rfl : e = -149 := by omega
    exact FlP.splitSubS a s m 0 w (by omega) (by omega) (by omega) (by omega) (by omega) rfl (by omega)
  · have := FlP.splitNormS a s (m - 8388608) (e + 150) w (by omega) (by omega) (by omega) (by omega) (by omega) (by omega) (by omega)
    rw [show m - 8388608 + 8388608 = m by omega, show -149 + (e + 150 - 1) = e by omega] at this
    exact this
/-- a number: neither bad nor told apart further -/
def Num (a s : Int) : Prop := FlP.Inf a s ∨ ∃ m e, FlP.Fin a s m e
theorem num_or (a : Int) : FlP.Bad a ∨ ∃ s, Num a s := by
  rcases FlP.kinds a with h | ⟨s, h⟩ | ⟨s, m, e, h⟩
  · exact .inl h
  · exact .inr ⟨s, .inl h⟩
  · exact .inr ⟨s, .inr ⟨m, e, h⟩⟩
theorem Num.bd {a s : Int} (h : Num a s) : 0 ≤ s ∧ s ≤ 1 ∧ 0 ≤ a ∧ a ≤ 4294967295 ∧ a / 2147483648 = s := by
  rcases h with h | ⟨m, e, h⟩
  · unfold FlP.Inf at h; omega
  · unfold FlP.Fin at h; omega
theorem splitNum (a s : Int) (w : World) (h : Num a s) :
    Calls Tryd.prog 24 #[.agg #[.int .u8 8, .int .u8 23], .int .i64 a] w fun e w' => ∃ k y z, (k == 3) = false ∧ e = .returned (.agg #[.int .u8 k, .int .u8 s, .int .i16 y, .int .u32 z]) ∧ Below w.heap.size w w' := by
  rcases h with h | ⟨m, e, h⟩
  · exact (splitInf a s w h).mono fun e w' ⟨h1, h2⟩ => ⟨_, _, _, by decide, h1, h2⟩
  · by_cases m0 : m = 0
    · subst m0
      exact (splitZero a s e w h).mono fun e w' ⟨h1, h2⟩ => ⟨_, _, _, by decide, h1, h2⟩
    · exact (splitFin a s m e w h m0).mono fun e w' ⟨h1, h2⟩ => ⟨_, _, _, by decide, h1, h2⟩
theorem openNum (a s : Int) (w : World) (h : Num a s) :
    Calls Tryd.prog 34 #[.int .i64 a] w fun e w' => ∃ k y z, (k == 2) = false ∧ e = .returned (.agg #[.int .i64 k, .bool (s == 1), .int .i64 y, .int .i64 z]) ∧ Below w.heap.size w w' := by
  rcases h with h | ⟨m, e, h⟩
  · exact (FlM.openInfC a s w h).mono fun e w' ⟨h1, h2⟩ => ⟨_, _, _, by decide, h1, h2⟩
  · exact (FlM.openFin a s m e w h).mono fun e w' ⟨h1, h2⟩ => ⟨_, _, _, by decide, h1, h2⟩
theorem zero1 (w : World) : Calls Tryd.prog 25 #[.agg #[.int .u8 8, .int .u8 23], .int .u8 1] w fun e w' => e = .returned (.int .i64 2147483648) ∧ Below w.heap.size w w' :=
  (FlP.zeroS 1 w (by decide) (by decide)).mono fun e w' ⟨h1, h2⟩ => ⟨h1.trans (ret_int (by decide)), h2⟩

theorem field0 (a b c d : Value) (w : World) : (Instr.field 34 (.agg #[a, b, c, d]) 0).run Tryd.prog w = .ok a w := by
  simp [Instr.field, go_sem]
  rfl
theorem negBoth (a : Int) : ∃ r, (∀ w, Calls Tryd.prog 42 #[.int .i64 a] w fun e w' => e = .returned (.int .i64 r) ∧ Below w.heap.size w w') ∧
    (∀ w, SV w → Calls Tryd.prog 15 #[.int .i64 a] w fun e w' => e = .returned (.int .i64 r) ∧ Below w.heap.size w w') := by
  rcases num_or a with h | ⟨s, h⟩
  · refine ⟨2143289344, fun w => ?_, fun w hv => ?_⟩
    · go_enter Tryd.func42, Tryd.ntmps42
      go_wp2_with fail
      refine (FlM.openBad a _ h).mono ?_; rintro e w1 ⟨b, x, y, rfl, b1⟩
      go_wp2_with fail
      go_ret
      exact ⟨rfl, b1.alloc b1.size _⟩
    · obtain ⟨v0, v1⟩ := hv.cells
      have ff := field0
      go_enter Tryd.func15, Tryd.ntmps15
      go_wp2_with fail
      refine (splitBad a _ h).mono ?_; rintro e w1 ⟨x, y, z, rfl, b1⟩
      go_wp2_with fail
      go_ret
      first | exact ⟨rfl, b1⟩ | exact ⟨rfl, b1.alloc b1.size _⟩
  · refine ⟨bits .xor .i64 a 2147483648, fun w => ?_, fun w hv => ?_⟩
    · go_enter Tryd.func42, Tryd.ntmps42
      go_wp2_with fail
      refine (openNum a s _ h).mono ?_; rintro e w1 ⟨k, y, z, hk, rfl, b1⟩
      go_wp2_with fail
      go_ret
      exact ⟨rfl, b1.alloc b1.size _⟩
    · obtain ⟨v0, v1⟩ := hv.cells
      have ff := field0
      go_enter Tryd.func15, Tryd.ntmps15
      go_wp2_with fail
      refine (splitNum a s _ h).mono ?_; rintro e w1 ⟨k, y, z, hk, rfl, b1⟩
      obtain ⟨v2, v3⟩ := (hv.below b1).cells
      go_wp2_with fail
      refine (zero1 _).mono ?_; rintro e w2 ⟨rfl, b2⟩
      go_wp2_with fail
      go_ret
      exact ⟨rfl, b1.trans (b2.mono b1.size)⟩

def rank (a s : Int) : Int := if s = 1 then 2147483648 - a else a
theorem mask31 (n : Int) : bits .and .i64 n 2147483647 = n % 2147483648 := Flo.maskN 31 (by omega) 2147483647 (by decide) n
theorem specRank (a s : Int) (w : World) (h : Num a s) : Calls Tryd.prog 38 #[.int .i64 a] w fun e w' => e = .returned (.int .i64 (rank a s)) ∧ w' = w := by
  obtain ⟨s0, s1, a0, a1, hs⟩ := h.bd
  clear h
  have mk := mask31
  by_cases c : s = 1
  · have e := hide (show rank a s = 2147483648 - a by unfold rank; rw [if_pos c])
    have c1 : (a / 2147483648 == 1) = true := by rw [beq_iff_eq]; omega
    have c2 : a % 2147483648 = a - 2147483648 := by omega
    clear hs
    go_enter Tryd.func38, Tryd.ntmps38
    go_wp2_with fail
    go_ret
    exact ⟨ret_int (by rw [e.out]; omega), rfl⟩
  · have e := hide (show rank a s = a by unfold rank; rw [if_neg c])
    have c1 : (a / 2147483648 == 1) = false := by rw [beq_eq_false_iff_ne]; omega
    clear hs
    go_enter Tryd.func38, Tryd.ntmps38
    go_wp2_with fail
    go_ret
    exact ⟨ret_int e.out.symm, rfl⟩
theorem implRank (a s : Int) (w : World) (h : Num a s) (hv : SV w) : Calls Tryd.prog 31 #[.int .i64 a, .int .u8 s] w fun e w' => e = .returned (.int .i64 (rank a s)) ∧ Below w.heap.size w w' := by
  obtain ⟨s0, s1, a0, a1, hs⟩ := h.bd
  obtain ⟨v0, v1⟩ := hv.cells
  clear h hs
  by_cases c : s = 1
  · have e := hide (show rank a s = 2147483648 - a by unfold rank; rw [if_pos c])
    subst c
    go_enter Tryd.func31, Tryd.ntmps31
    go_wp2_with fail
    refine (zero1 _).mono ?_; rintro e' w2 ⟨rfl, b2⟩
    go_wp2_with fail
    go_ret
    exact ⟨ret_int e.out.symm, b2⟩
  · have e := hide (show rank a s = a by unfold rank; rw [if_neg c])
    have c1 : (s == 1) = false := by rw [beq_eq_false_iff_ne]; exact c
    clear c
    go_enter Tryd.func31, Tryd.ntmps31
    go_wp2_with fail
    go_ret
    exact ⟨ret_int e.out.symm, Below.refl _ _⟩

end FlV
end Go.Proofs.YtmghmcnihiepiaaDoor
