/- SavedOk on both sides; an argument that is saved (written by tools/gen17.py). -/
import Derived.Test.YtmdgkbmifaajgaaBa
import Derived.Test.YtmdgkbmifaajgaaEo
namespace Go.Proofs.Ytmdgkbmifaajgaa
namespace Vo
open Go.ChangeShapes Go.WideShapes Go.ChangeAt Go.RowKit Go.Joins Go.Sort
open Vl
set_option linter.unusedVariables false
set_option linter.unusedSimpArgs false
/-- what can be saved -/
noncomputable def svOk (t : ByteArray) (r q s : Nat) (P Q S : Nat → Int) (n f o u0 u1 u2 u3 u4 u5 : Int) : Bool := decide ((t.size : Int) ≤ 4000) && (ook r q s P Q S n f o && feOk u0 u1 u2 u3 u4 u5)
set_option maxHeartbeats 2000000 in
theorem specSaved (t : ByteArray) (a b c : Option Addr) (r q s cap dap eap : Nat) (P Q S : Nat → Int) (n f o u0 u1 u2 u3 u4 u5 : Int) (w : World) (hP : Ints w.heap.size w a r P) (hQ : Ints w.heap.size w b q Q) (hS : Ints w.heap.size w c s S) (hr : (r : Int) ≤ 1048576) (hn : bd n) (hf : bd f) (ho : bd o) (hq : (q : Int) ≤ 1048576) (hs : (s : Int) ≤ 1048576) (d0 : bd u0) (d1 : bd u1) (d2 : bd u2) (d3 : bd u3) (d4 : bd u4) (d5 : bd u5) :
    Calls Try.prog 5 #[.agg #[.string t, .slice a r cap, .slice b q dap, .slice c s eap, .int .i64 n, .int .i64 f, .int .i64 o, .int .i64 u0, .int .i64 u1, .int .i64 u2, .int .i64 u3, .int .i64 u4, .int .i64 u5]] w fun e w' => e = .returned (.bool (svOk t r q s P Q S n f o u0 u1 u2 u3 u4 u5)) ∧ Below w.heap.size w w' := by
  obtain ⟨W1, hW1⟩ : ∃ W1, w.alloc (.cells #[.string t, .slice a r cap, .slice b q dap, .slice c s eap, .int .i64 n, .int .i64 f, .int .i64 o, .int .i64 u0, .int .i64 u1, .int .i64 u2, .int .i64 u3, .int .i64 u4, .int .i64 u5] 34) = W1 := ⟨_, rfl⟩
  have m1 : Below w.heap.size w W1 := hW1 ▸ (Below.refl _ _).alloc (Nat.le_refl _) _
  have K := hide (show BoxL W1 w.heap.size [.string t, .slice a r cap, .slice b q dap, .slice c s eap, .int .i64 n, .int .i64 f, .int .i64 o, .int .i64 u0, .int .i64 u1, .int .i64 u2, .int .i64 u3, .int .i64 u4, .int .i64 u5] from hW1 ▸ boxL_new w #[.string t, .slice a r cap, .slice b q dap, .slice c s eap, .int .i64 n, .int .i64 f, .int .i64 o, .int .i64 u0, .int .i64 u1, .int .i64 u2, .int .i64 u3, .int .i64 u4, .int .i64 u5] _)
  have BL := hide m1
  have CO := hide (fun (X : World) (bX : Below w.heap.size w X) => specOpt a b c r q s cap dap eap P Q S n f o X ((hP.below bX).mono bX.size) ((hQ.below bX).mono bX.size) ((hS.below bX).mono bX.size) hr hn hf ho hq hs)
  have CF := hide (fun (X : World) => specFeed u0 u1 u2 u3 u4 u5 X d0 d1 d2 d3 d4 d5)
  clear m1 hP hQ hS hr hn hf ho hq hs d0 d1 d2 d3 d4 d5
  obtain ⟨x, hx⟩ : ∃ x, ook r q s P Q S n f o = x := ⟨_, rfl⟩
  obtain ⟨y, hy⟩ : ∃ y, feOk u0 u1 u2 u3 u4 u5 = y := ⟨_, rfl⟩
  unfold svOk
  rw [hx, hy]
  rw [hx] at CO
  rw [hy] at CF
  clear hx hy
  have cA0 : W1.cell? ⟨w.heap.size, 0, none⟩ = some (.string t) := K.out.2 0 (by show 0 < 13; omega)
  have cA1 : W1.cell? ⟨w.heap.size, 1, none⟩ = some (.slice a r cap) := K.out.2 1 (by show 1 < 13; omega)
  have cA2 : W1.cell? ⟨w.heap.size, 2, none⟩ = some (.slice b q dap) := K.out.2 2 (by show 2 < 13; omega)
  have cA3 : W1.cell? ⟨w.heap.size, 3, none⟩ = some (.slice c s eap) := K.out.2 3 (by show 3 < 13; omega)
  have cA4 : W1.cell? ⟨w.heap.size, 4, none⟩ = some (.int .i64 n) := K.out.2 4 (by show 4 < 13; omega)
  have cA5 : W1.cell? ⟨w.heap.size, 5, none⟩ = some (.int .i64 f) := K.out.2 5 (by show 5 < 13; omega)
  have cA6 : W1.cell? ⟨w.heap.size, 6, none⟩ = some (.int .i64 o) := K.out.2 6 (by show 6 < 13; omega)
  have cA7 : W1.cell? ⟨w.heap.size, 7, none⟩ = some (.int .i64 u0) := K.out.2 7 (by show 7 < 13; omega)
  have cA8 : W1.cell? ⟨w.heap.size, 8, none⟩ = some (.int .i64 u1) := K.out.2 8 (by show 8 < 13; omega)
  have cA9 : W1.cell? ⟨w.heap.size, 9, none⟩ = some (.int .i64 u2) := K.out.2 9 (by show 9 < 13; omega)
  have cA10 : W1.cell? ⟨w.heap.size, 10, none⟩ = some (.int .i64 u3) := K.out.2 10 (by show 10 < 13; omega)
  have cA11 : W1.cell? ⟨w.heap.size, 11, none⟩ = some (.int .i64 u4) := K.out.2 11 (by show 11 < 13; omega)
  have cA12 : W1.cell? ⟨w.heap.size, 12, none⟩ = some (.int .i64 u5) := K.out.2 12 (by show 12 < 13; omega)
  by_cases l : (t.size : Int) ≤ 4000
  case neg =>
    have l' : decide ((t.size : Int) ≤ 4000) = false := decide_eq_false l
    go_enter Try.func5, Try.ntmps5
    go_wp2_with fail
    go_ret
    exact ⟨by simp [l'], BL.out⟩
  have l' : decide ((t.size : Int) ≤ 4000) = true := decide_eq_true l
  clear l
  go_enter Try.func5, Try.ntmps5
  go_wp2_with fail
  refine (CO.out _ BL.out).mono ?_
  rintro e W2 ⟨rfl, bb⟩
  replace K := hide (K.out.below bb)
  replace BL := hide (BL.out.trans (bb.mono BL.out.size))
  clear bb CO hW1
  clear cA0 cA1 cA2 cA3 cA4 cA5 cA6 cA7 cA8 cA9 cA10 cA11 cA12
  have cA0 : W2.cell? ⟨w.heap.size, 0, none⟩ = some (.string t) := K.out.2 0 (by show 0 < 13; omega)
  have cA1 : W2.cell? ⟨w.heap.size, 1, none⟩ = some (.slice a r cap) := K.out.2 1 (by show 1 < 13; omega)
  have cA2 : W2.cell? ⟨w.heap.size, 2, none⟩ = some (.slice b q dap) := K.out.2 2 (by show 2 < 13; omega)
  have cA3 : W2.cell? ⟨w.heap.size, 3, none⟩ = some (.slice c s eap) := K.out.2 3 (by show 3 < 13; omega)
  have cA4 : W2.cell? ⟨w.heap.size, 4, none⟩ = some (.int .i64 n) := K.out.2 4 (by show 4 < 13; omega)
  have cA5 : W2.cell? ⟨w.heap.size, 5, none⟩ = some (.int .i64 f) := K.out.2 5 (by show 5 < 13; omega)
  have cA6 : W2.cell? ⟨w.heap.size, 6, none⟩ = some (.int .i64 o) := K.out.2 6 (by show 6 < 13; omega)
  have cA7 : W2.cell? ⟨w.heap.size, 7, none⟩ = some (.int .i64 u0) := K.out.2 7 (by show 7 < 13; omega)
  have cA8 : W2.cell? ⟨w.heap.size, 8, none⟩ = some (.int .i64 u1) := K.out.2 8 (by show 8 < 13; omega)
  have cA9 : W2.cell? ⟨w.heap.size, 9, none⟩ = some (.int .i64 u2) := K.out.2 9 (by show 9 < 13; omega)
  have cA10 : W2.cell? ⟨w.heap.size, 10, none⟩ = some (.int .i64 u3) := K.out.2 10 (by show 10 < 13; omega)
  have cA11 : W2.cell? ⟨w.heap.size, 11, none⟩ = some (.int .i64 u4) := K.out.2 11 (by show 11 < 13; omega)
  have cA12 : W2.cell? ⟨w.heap.size, 12, none⟩ = some (.int .i64 u5) := K.out.2 12 (by show 12 < 13; omega)
  cases x
  · go_wp2_with fail
    go_ret
    exact ⟨by simp, BL.out⟩
  go_wp2_with fail
  refine (CF.out _).mono ?_
  rintro e W3 ⟨rfl, bb⟩
  replace BL := hide (BL.out.trans (bb.mono BL.out.size))
  clear bb CF
  clear cA0 cA1 cA2 cA3 cA4 cA5 cA6 cA7 cA8 cA9 cA10 cA11 cA12
  go_wp2_with fail
  go_ret
  exact ⟨by simp [l'], BL.out⟩
set_option maxHeartbeats 2000000 in
theorem implSaved (t : ByteArray) (a b c : Option Addr) (r q s cap dap eap : Nat) (P Q S : Nat → Int) (n f o u0 u1 u2 u3 u4 u5 : Int) (w : World) (hP : Ints w.heap.size w a r P) (hQ : Ints w.heap.size w b q Q) (hS : Ints w.heap.size w c s S) (hr : (r : Int) ≤ 1048576) (hn : bd n) (hf : bd f) (ho : bd o) (hq : (q : Int) ≤ 1048576) (hs : (s : Int) ≤ 1048576) (d0 : bd u0) (d1 : bd u1) (d2 : bd u2) (d3 : bd u3) (d4 : bd u4) (d5 : bd u5) :
    Calls Try.prog 7 #[.agg #[.string t, .slice a r cap, .slice b q dap, .slice c s eap, .int .i64 n, .int .i64 f, .int .i64 o, .int .i64 u0, .int .i64 u1, .int .i64 u2, .int .i64 u3, .int .i64 u4, .int .i64 u5]] w fun e w' => e = .returned (.bool (svOk t r q s P Q S n f o u0 u1 u2 u3 u4 u5)) ∧ Below w.heap.size w w' := by
  obtain ⟨W1, hW1⟩ : ∃ W1, w.alloc (.cells #[.string t, .slice a r cap, .slice b q dap, .slice c s eap, .int .i64 n, .int .i64 f, .int .i64 o, .int .i64 u0, .int .i64 u1, .int .i64 u2, .int .i64 u3, .int .i64 u4, .int .i64 u5] 34) = W1 := ⟨_, rfl⟩
  have m1 : Below w.heap.size w W1 := hW1 ▸ (Below.refl _ _).alloc (Nat.le_refl _) _
  have K := hide (show BoxL W1 w.heap.size [.string t, .slice a r cap, .slice b q dap, .slice c s eap, .int .i64 n, .int .i64 f, .int .i64 o, .int .i64 u0, .int .i64 u1, .int .i64 u2, .int .i64 u3, .int .i64 u4, .int .i64 u5] from hW1 ▸ boxL_new w #[.string t, .slice a r cap, .slice b q dap, .slice c s eap, .int .i64 n, .int .i64 f, .int .i64 o, .int .i64 u0, .int .i64 u1, .int .i64 u2, .int .i64 u3, .int .i64 u4, .int .i64 u5] _)
  have BL := hide m1
  have CO := hide (fun (X : World) (bX : Below w.heap.size w X) => implOpt a b c r q s cap dap eap P Q S n f o X ((hP.below bX).mono bX.size) ((hQ.below bX).mono bX.size) ((hS.below bX).mono bX.size) hr hn hf ho hq hs)
  have CF := hide (fun (X : World) => implFeed u0 u1 u2 u3 u4 u5 X d0 d1 d2 d3 d4 d5)
  clear m1 hP hQ hS hr hn hf ho hq hs d0 d1 d2 d3 d4 d5
  obtain ⟨x, hx⟩ : ∃ x, ook r q s P Q S n f o = x := ⟨_, rfl⟩
  obtain ⟨y, hy⟩ : ∃ y, feOk u0 u1 u2 u3 u4 u5 = y := ⟨_, rfl⟩
  unfold svOk
  rw [hx, hy]
  rw [hx] at CO
  rw [hy] at CF
  clear hx hy
  have cA0 : W1.cell? ⟨w.heap.size, 0, none⟩ = some (.string t) := K.out.2 0 (by show 0 < 13; omega)
  have cA1 : W1.cell? ⟨w.heap.size, 1, none⟩ = some (.slice a r cap) := K.out.2 1 (by show 1 < 13; omega)
  have cA2 : W1.cell? ⟨w.heap.size, 2, none⟩ = some (.slice b q dap) := K.out.2 2 (by show 2 < 13; omega)
  have cA3 : W1.cell? ⟨w.heap.size, 3, none⟩ = some (.slice c s eap) := K.out.2 3 (by show 3 < 13; omega)
  have cA4 : W1.cell? ⟨w.heap.size, 4, none⟩ = some (.int .i64 n) := K.out.2 4 (by show 4 < 13; omega)
  have cA5 : W1.cell? ⟨w.heap.size, 5, none⟩ = some (.int .i64 f) := K.out.2 5 (by show 5 < 13; omega)
  have cA6 : W1.cell? ⟨w.heap.size, 6, none⟩ = some (.int .i64 o) := K.out.2 6 (by show 6 < 13; omega)
  have cA7 : W1.cell? ⟨w.heap.size, 7, none⟩ = some (.int .i64 u0) := K.out.2 7 (by show 7 < 13; omega)
  have cA8 : W1.cell? ⟨w.heap.size, 8, none⟩ = some (.int .i64 u1) := K.out.2 8 (by show 8 < 13; omega)
  have cA9 : W1.cell? ⟨w.heap.size, 9, none⟩ = some (.int .i64 u2) := K.out.2 9 (by show 9 < 13; omega)
  have cA10 : W1.cell? ⟨w.heap.size, 10, none⟩ = some (.int .i64 u3) := K.out.2 10 (by show 10 < 13; omega)
  have cA11 : W1.cell? ⟨w.heap.size, 11, none⟩ = some (.int .i64 u4) := K.out.2 11 (by show 11 < 13; omega)
  have cA12 : W1.cell? ⟨w.heap.size, 12, none⟩ = some (.int .i64 u5) := K.out.2 12 (by show 12 < 13; omega)
  by_cases l : (t.size : Int) ≤ 4000
  case neg =>
    have l' : decide ((t.size : Int) ≤ 4000) = false := decide_eq_false l
    go_enter Try.func7, Try.ntmps7
    go_wp2_with fail
    go_ret
    exact ⟨by simp [l'], BL.out⟩
  have l' : decide ((t.size : Int) ≤ 4000) = true := decide_eq_true l
  clear l
  go_enter Try.func7, Try.ntmps7
  go_wp2_with fail
  refine (CO.out _ BL.out).mono ?_
  rintro e W2 ⟨rfl, bb⟩
  replace K := hide (K.out.below bb)
  replace BL := hide (BL.out.trans (bb.mono BL.out.size))
  clear bb CO hW1
  clear cA0 cA1 cA2 cA3 cA4 cA5 cA6 cA7 cA8 cA9 cA10 cA11 cA12
  have cA0 : W2.cell? ⟨w.heap.size, 0, none⟩ = some (.string t) := K.out.2 0 (by show 0 < 13; omega)
  have cA1 : W2.cell? ⟨w.heap.size, 1, none⟩ = some (.slice a r cap) := K.out.2 1 (by show 1 < 13; omega)
  have cA2 : W2.cell? ⟨w.heap.size, 2, none⟩ = some (.slice b q dap) := K.out.2 2 (by show 2 < 13; omega)
  have cA3 : W2.cell? ⟨w.heap.size, 3, none⟩ = some (.slice c s eap) := K.out.2 3 (by show 3 < 13; omega)
  have cA4 : W2.cell? ⟨w.heap.size, 4, none⟩ = some (.int .i64 n) := K.out.2 4 (by show 4 < 13; omega)
  have cA5 : W2.cell? ⟨w.heap.size, 5, none⟩ = some (.int .i64 f) := K.out.2 5 (by show 5 < 13; omega)
  have cA6 : W2.cell? ⟨w.heap.size, 6, none⟩ = some (.int .i64 o) := K.out.2 6 (by show 6 < 13; omega)
  have cA7 : W2.cell? ⟨w.heap.size, 7, none⟩ = some (.int .i64 u0) := K.out.2 7 (by show 7 < 13; omega)
  have cA8 : W2.cell? ⟨w.heap.size, 8, none⟩ = some (.int .i64 u1) := K.out.2 8 (by show 8 < 13; omega)
  have cA9 : W2.cell? ⟨w.heap.size, 9, none⟩ = some (.int .i64 u2) := K.out.2 9 (by show 9 < 13; omega)
  have cA10 : W2.cell? ⟨w.heap.size, 10, none⟩ = some (.int .i64 u3) := K.out.2 10 (by show 10 < 13; omega)
  have cA11 : W2.cell? ⟨w.heap.size, 11, none⟩ = some (.int .i64 u4) := K.out.2 11 (by show 11 < 13; omega)
  have cA12 : W2.cell? ⟨w.heap.size, 12, none⟩ = some (.int .i64 u5) := K.out.2 12 (by show 12 < 13; omega)
  cases x
  · go_wp2_with fail
    go_ret
    exact ⟨by simp, BL.out⟩
  go_wp2_with fail
  refine (CF.out _).mono ?_
  rintro e W3 ⟨rfl, bb⟩
  replace BL := hide (BL.out.trans (bb.mono BL.out.size))
  clear bb CF
  clear cA0 cA1 cA2 cA3 cA4 cA5 cA6 cA7 cA8 cA9 cA10 cA11 cA12
  go_wp2_with fail
  go_ret
  exact ⟨by simp [l'], BL.out⟩
theorem text_of {H : Type} {enc : TypeId × Value → H} {w : World} {base : Nat} {spare : Nat → Bool} {held : Bool} {fuel : Nat} {c : Value} {x : DataW H × List MemPlace} (h : DataW.trod enc Try.prog w base spare held fuel 9 [c] = some x) : ∃ s : ByteArray, c = .string s ∧ s.size ≤ maxLen := by
  obtain ⟨s, e, _, hs⟩ := DataW.trod_string Try.underlying9 h
  simp at e
  exact ⟨s, e, hs⟩
theorem saved_at {H : Type} {enc : TypeId × Value → H} {w : World} {base : Nat} {spare : Nat → Bool} {held : Bool} {b0 : Nat} {v : Value} {d : DataW H} {p : List MemPlace} (hv : Value.okWide Try.prog w .any b0 28 v) (h : DataW.Trod enc Try.prog w base spare held 28 v d p) :
    ∃ (t : ByteArray) (a b c : Option Addr) (r q s cap dap eap : Nat) (n f o u0 u1 u2 u3 u4 u5 : Int), v = .agg #[.string t, .slice a r cap, .slice b q dap, .slice c s eap, .int .i64 n, .int .i64 f, .int .i64 o, .int .i64 u0, .int .i64 u1, .int .i64 u2, .int .i64 u3, .int .i64 u4, .int .i64 u5] ∧ t.size ≤ maxLen ∧ Arg w a r ∧ Arg w b q ∧ Arg w c s ∧ bd n ∧ bd f ∧ bd o ∧ bd u0 ∧ bd u1 ∧ bd u2 ∧ bd u3 ∧ bd u4 ∧ bd u5 := by
  obtain ⟨cs, rfl, hsz⟩ := okWide_struct Try.underlying28 hv
  have hC : Try.prog.cellsOf 28 = 13 := by kernel_rfl
  obtain ⟨l⟩ := cs
  match l, hsz.trans hC with
  | [c0, c1, c2, c3, c4, c5, c6, c7, c8, c9, c10, c11, c12], _ =>
    obtain ⟨fuel, hT⟩ := h
    have hT : DataW.trod enc Try.prog w base spare held fuel 28 [c0, c1, c2, c3, c4, c5, c6, c7, c8, c9, c10, c11, c12] = some (d, p) := by simpa [Value.cells] using hT
    obtain ⟨y0, n0, q0⟩ := field_of Try.underlying28 hT 0 _ rfl 1 (by kernel_rfl)
    obtain ⟨y1, n1, q1⟩ := field_of Try.underlying28 hT 1 _ rfl 6 (by kernel_rfl)
    obtain ⟨y2, n2, q2⟩ := field_of Try.underlying28 hT 2 _ rfl 6 (by kernel_rfl)
    have q0 : DataW.trod enc Try.prog w base spare held n0 9 [c0] = some y0 := q0
    have q1 : DataW.trod enc Try.prog w base spare held n1 24 [c1, c2, c3, c4, c5, c6] = some y1 := q1
    have q2 : DataW.trod enc Try.prog w base spare held n2 26 [c7, c8, c9, c10, c11, c12] = some y2 := q2
    obtain ⟨t, rfl, ht⟩ := text_of q0
    obtain ⟨a, b, c, r, q, s, cap, dap, eap, n, f, o, ⟨rfl, rfl, rfl, rfl, rfl, rfl⟩, ha, hb, hc, hn, hf, ho⟩ := opt_of q1
    obtain ⟨u0, u1, u2, u3, u4, u5, ⟨rfl, rfl, rfl, rfl, rfl, rfl⟩, d0, d1, d2, d3, d4, d5⟩ := feed_of q2
    exact ⟨t, a, b, c, r, q, s, cap, dap, eap, n, f, o, u0, u1, u2, u3, u4, u5, rfl, ht, ha, hb, hc, hn, hf, ho, d0, d1, d2, d3, d4, d5⟩
end Vo
end Go.Proofs.Ytmdgkbmifaajgaa
