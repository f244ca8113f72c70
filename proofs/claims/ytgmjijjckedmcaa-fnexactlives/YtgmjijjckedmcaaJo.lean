/- What a nest must be: what is given, in the program. -/
import Derived.Test.YtgmjijjckedmcaaJn
namespace Go.Proofs.Ytgmjijjckedmcaa
namespace Vo
open Go.ChangeShapes Go.WideShapes Go.ChangeAt Go.RowKit Go.Joins Go.Sort
open Vl Vp
set_option linter.unusedVariables false
set_option linter.unusedSimpArgs false
set_option maxHeartbeats 2000000 in
theorem isEndF (B : Nat) (v : NV) (a : Option Addr) (r cap : Nat) (D : Nat → Int) (w : World) (hB : B ≤ w.heap.size) (h : Ints B w a r D) (hr : (r : Int) ≤ 1048576) :
    Calls Try.prog 55 #[v.val, .slice a r cap] w fun e w' => e = .returned (.bool (decide (r ≤ 40 ∧ WI r D v.sn))) ∧ Below w.heap.size w w' := by
  obtain ⟨sa, sn, scap, SD, ia, i, icap, ID, fa, fn, fcap, FF, ka, kn, kcap, KK, oa, on, ocap, OD⟩ := v
  unfold NV.val
  dsimp only
  have BL := hide (show Below w.heap.size w (w.alloc (.cells #[.slice sa sn scap, .slice ia i icap, .slice fa fn fcap, .slice ka kn kcap, .slice oa on ocap] 33)) from (Below.refl _ _).alloc (Nat.le_refl _) _)
  have CW := hide (within B a r cap D sn _ (Nat.le_trans hB BL.out.size) (h.below (BL.out.mono hB)) hr)
  clear h
  go_enter Try.func55, Try.ntmps55
  by_cases c : (r : Int) ≤ 40
  · have e := hide (show wi r D sn = decide (r ≤ 40 ∧ WI r D sn) from decide_eq_decide.2 ⟨fun q => ⟨by omega, q⟩, fun q => q.2⟩)
    have c'' : decide (r ≤ 40) = true := decide_eq_true (by omega)
    go_wp2_with fail
    refine CW.out.mono ?_
    rintro e1 w1 ⟨rfl, b1⟩
    have B1 := hide (BL.out.trans (b1.mono BL.out.size))
    go_wp2_with fail
    go_ret
    exact ⟨by rw [← e.out]; rfl, B1.out⟩
  · have e := hide (decide_eq_false (show ¬ (r ≤ 40 ∧ WI r D sn) from fun q => by have := q.1; omega))
    have c' : decide ((r : Int) ≤ 40) = false := by rw [decide_eq_false_iff_not]; exact c
    have c'' : decide (r ≤ 40) = false := by rw [decide_eq_false_iff_not]; omega
    clear c
    go_wp2_with fail
    go_ret
    exact ⟨by rw [e.out]; rfl, BL.out⟩
/-- a row of bools of one's own -/
def Bw (w : World) (g n : Nat) (F : Nat → Bool) : Prop := g < w.heap.size ∧ ∀ q, q < n → w.cell? ⟨g, q, none⟩ = some (.bool (F q)) ∧ w.frozen? ⟨g, q, none⟩ = false
theorem Bw.below {w w' : World} {g n : Nat} {F : Nat → Bool} (h : Bw w g n F) (hb : Below w.heap.size w w') : Bw w' g n F :=
  ⟨Nat.lt_of_lt_of_le h.1 hb.size, fun q hq => ⟨(hb.cell (p := ⟨g, q, none⟩) h.1).trans (h.2 q hq).1, (hb.frozen (p := ⟨g, q, none⟩) h.1).trans (h.2 q hq).2⟩⟩
theorem Bw.set {w : World} {g n m : Nat} {F F' : Nat → Bool} (h : Bw w g n F) (hF : ∀ q, q < n → F' q = if q = m then true else F q) : Bw (w.setCell ⟨g, m, none⟩ (.bool true)) g n F' := by
  refine ⟨by simpa [World.setCell] using h.1, fun q hq => ⟨?_, by rw [World.frozen?_setCell]; exact (h.2 q hq).2⟩⟩
  rw [hF q hq]
  by_cases c : q = m
  · subst c
    rw [if_pos rfl]
    exact World.cell?_setCell_same _ _ _ (h.2 q hq).1
  · rw [if_neg c, World.cell?_setCell_other _ _ _ _ (by intro e; injection e with _ e _; omega)]
    exact (h.2 q hq).1
theorem hasB_succ (m : Nat) (G : Nat → Int) (q : Nat) {n : Nat} (h : G m = n) : hasB (m + 1) G q = if q = n then true else hasB m G q := by
  unfold hasB
  by_cases c : q = n
  · rw [if_pos c]
    exact decide_eq_true ⟨m, by omega, by rw [h, c]⟩
  · rw [if_neg c]
    refine decide_eq_decide.2 ⟨?_, fun ⟨t, ht, e⟩ => ⟨t, by omega, e⟩⟩
    rintro ⟨t, ht, e⟩
    by_cases ct : t = m
    · rw [ct, h] at e; omega
    · exact ⟨t, by omega, e⟩
theorem make_bools (n : Nat) (hn : (n : Int) ≤ 1048576) (w : World) : (Instr.makeSlice 96 (.int .i64 n) (.int .i64 n)).run Try.prog w = .ok (.slice (some ⟨w.heap.size, 0, none⟩) n n) (w.alloc (.cells (madeCells #[.bool false] n) 4)) := by
  have hi : (Try.prog.info? 4).map (fun i => (i.zero, i.size, i.bytes)) = some (some (.bool false), 1, 1) := by kernel_rfl
  obtain ⟨i, h1, h2⟩ := Option.map_eq_some_iff.1 hi
  simp only [Prod.mk.injEq] at h2
  obtain ⟨hz, hs, hb⟩ := h2
  have := run_make (P := Try.prog) w 96 4 i (.bool false) Try.underlying96 h1 hz .i64 .i64 n n (by omega) (Int.le_refl _) (by rw [hb]; omega) (by omega)
  rw [hs] at this
  simpa [Value.cells] using this
theorem bw_new (w : World) (n : Nat) (F : Nat → Bool) (hF : ∀ q, F q = false) : Bw (w.alloc (.cells (madeCells #[.bool false] n) 4)) w.heap.size n F := by
  refine ⟨by simp, fun q hq => ⟨?_, by simp [go_sem]⟩⟩
  rw [World.cell?_alloc_at _ _ _ _ rfl, hF q]
  simp [madeCells, hq, Nat.mod_one]
/-- what 'given' answers -/
def GivR (N : NV) (w : World) (e : Ending) (w' : World) : Prop :=
  (((∀ j, j < N.i → hasB j (gvn N) (N.ID j) = false) ∧ ∀ j, j < N.fn → FxOk N j) ∧ ∃ g, e = .returned (.tuple #[.slice (some ⟨g, 0, none⟩) N.sn N.sn, .bool true]) ∧ Bw w' g N.sn (fun q => hasB (N.i + N.fn) (gvn N) q) ∧ Below w.heap.size w w') ∨
  (¬ ((∀ j, j < N.i → hasB j (gvn N) (N.ID j) = false) ∧ ∀ j, j < N.fn → FxOk N j) ∧ e = .returned (.tuple #[.slice none 0 0, .bool false]) ∧ Below w.heap.size w w')
end Vo
end Go.Proofs.Ytgmjijjckedmcaa
