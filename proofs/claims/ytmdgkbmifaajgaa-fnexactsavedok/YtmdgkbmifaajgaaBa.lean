/- What is saved, in memory: measured, copied, compared (written by tools/gen17.py). -/
import Derived.Test.YtmdgkbmifaajgaaEn
import Derived.Test.YtmdgkbmifaajgaaEj
import Derived.Test.YtmdgkbmifaajgaaWh
namespace Go.Proofs.Ytmdgkbmifaajgaa
namespace Vo
open Go.ChangeShapes Go.WideShapes Go.ChangeAt Go.RowKit Go.Joins Go.Sort
open Vl
set_option linter.unusedVariables false
set_option linter.unusedSimpArgs false
/-- cells in a variable -/
def BoxL (w : World) (p : Nat) (V : List Value) : Prop := p < w.heap.size ∧ ∀ i, i < V.length → w.cell? ⟨p, i, none⟩ = V[i]?
theorem boxL_new (w : World) (V : Array Value) (ty : TypeId) : BoxL (w.alloc (.cells V ty)) w.heap.size V.toList := by
  refine ⟨by simp, fun i hi => ?_⟩
  rw [World.cell?_alloc_at _ _ _ _ rfl]
  simp
theorem BoxL.below {w w' : World} {p : Nat} {V : List Value} (h : BoxL w p V) (b : Below w.heap.size w w') : BoxL w' p V := ⟨Nat.lt_of_lt_of_le h.1 b.size, fun i hi => by rw [b.cell (p := ⟨p, i, none⟩) h.1]; exact h.2 i hi⟩
theorem szOptL (a b c : Option Addr) (r q s cap dap eap : Nat) (n f o L : Int) (w : World) (l0 : 0 ≤ L) (l1 : L ≤ 1048576) (hr : (r : Int) ≤ 9223372036854775807) (hq : (q : Int) ≤ 9223372036854775807) (hs : (s : Int) ≤ 9223372036854775807) :
    Calls Try.prog 9 #[OVal a b c r q s cap dap eap n f o, .int .i64 L] w fun e w' => ∃ x : Int, e = .returned (.int .i64 x) ∧ (0 ≤ x → x ≤ 1048576 ∧ (r : Int) ≤ 1048576 ∧ (q : Int) ≤ 1048576 ∧ (s : Int) ≤ 1048576) ∧ Below w.heap.size w w' := by
  unfold OVal
  have bl := hide (show Below w.heap.size w (w.alloc (.cells #[.slice a r cap, .slice b q dap, .slice c s eap, .int .i64 n, .int .i64 f, .int .i64 o] 24)) from (Below.refl _ _).alloc (Nat.le_refl _) _)
  go_enter Try.func9, Try.ntmps9
  go_wp2_with fail
  refine (szIntS a r cap L _ l0 l1 hr).mono ?_; rintro e w1 ⟨x, rfl, hx, rfl⟩
  have HX := hide hx
  clear hx
  by_cases hx0 : x < 0
  · go_wp2_with fail
    go_ret
    exact ⟨_, rfl, fun h => by omega, bl.out⟩
  · have hx0' : decide (x < 0) = false := by rw [decide_eq_false_iff_not]; exact hx0
    have hxl : x ≤ 1048576 := by have := HX.out; unfold Sz at this; omega
    have hx1 : 0 ≤ x := by omega
    clear hx0
    go_wp2_with fail
    refine (szIntS b q dap x _ hx1 hxl hq).mono ?_; rintro e w1 ⟨y, rfl, hy, rfl⟩
    have HY := hide hy
    clear hy
    by_cases hy0 : y < 0
    · go_wp2_with fail
      go_ret
      exact ⟨_, rfl, fun h => by omega, bl.out⟩
    · have hy0' : decide (y < 0) = false := by rw [decide_eq_false_iff_not]; exact hy0
      have hyl : y ≤ 1048576 := by have := HX.out; have := HY.out; unfold Sz at *; omega
      have hy1 : 0 ≤ y := by omega
      clear hy0
      go_wp2_with fail
      refine (szIntS c s eap y _ hy1 hyl hs).mono ?_; rintro e w1 ⟨z, rfl, hz, rfl⟩
      have HZ := hide hz
      clear hz
      by_cases hz0 : z < 0
      · go_wp2_with fail
        go_ret
        exact ⟨_, rfl, fun h => by omega, bl.out⟩
      · have hz0' : decide (z < 0) = false := by rw [decide_eq_false_iff_not]; exact hz0
        have hf := hide (show z ≤ 1048576 ∧ (r : Int) ≤ 1048576 ∧ (q : Int) ≤ 1048576 ∧ (s : Int) ≤ 1048576 by have := HX.out; have := HY.out; have := HZ.out; unfold Sz at *; omega)
        clear hz0
        go_wp2_with fail
        go_ret
        exact ⟨_, rfl, fun _ => hf.out, bl.out⟩
set_option maxHeartbeats 2000000 in
theorem szSaved (t : ByteArray) (a b c : Option Addr) (r q s cap dap eap : Nat) (n f o u0 u1 u2 u3 u4 u5 : Int) (w : World) (ht : t.size ≤ maxLen) (hr : (r : Int) ≤ 9223372036854775807) (hq : (q : Int) ≤ 9223372036854775807) (hs : (s : Int) ≤ 9223372036854775807) :
    Calls Try.prog 4 #[.agg #[.string t, .slice a r cap, .slice b q dap, .slice c s eap, .int .i64 n, .int .i64 f, .int .i64 o, .int .i64 u0, .int .i64 u1, .int .i64 u2, .int .i64 u3, .int .i64 u4, .int .i64 u5], .int .i64 1048576] w fun e w' => ∃ x : Int, e = .returned (.int .i64 x) ∧ (0 ≤ x → x ≤ 1048576 ∧ (t.size : Int) ≤ 1048576 ∧ (r : Int) ≤ 1048576 ∧ (q : Int) ≤ 1048576 ∧ (s : Int) ≤ 1048576) ∧ Below w.heap.size w w' := by
  have bl := hide (show Below w.heap.size w (w.alloc (.cells #[.string t, .slice a r cap, .slice b q dap, .slice c s eap, .int .i64 n, .int .i64 f, .int .i64 o, .int .i64 u0, .int .i64 u1, .int .i64 u2, .int .i64 u3, .int .i64 u4, .int .i64 u5] 28)) from (Below.refl _ _).alloc (Nat.le_refl _) _)
  obtain ⟨W1, hW1⟩ : ∃ W1, w.alloc (.cells #[.string t, .slice a r cap, .slice b q dap, .slice c s eap, .int .i64 n, .int .i64 f, .int .i64 o, .int .i64 u0, .int .i64 u1, .int .i64 u2, .int .i64 u3, .int .i64 u4, .int .i64 u5] 28) = W1 := ⟨_, rfl⟩
  have K := hide (show BoxL W1 w.heap.size [.string t, .slice a r cap, .slice b q dap, .slice c s eap, .int .i64 n, .int .i64 f, .int .i64 o, .int .i64 u0, .int .i64 u1, .int .i64 u2, .int .i64 u3, .int .i64 u4, .int .i64 u5] from hW1 ▸ boxL_new w #[.string t, .slice a r cap, .slice b q dap, .slice c s eap, .int .i64 n, .int .i64 f, .int .i64 o, .int .i64 u0, .int .i64 u1, .int .i64 u2, .int .i64 u3, .int .i64 u4, .int .i64 u5] _)
  rw [hW1] at bl
  have cA0 : W1.cell? ⟨w.heap.size, 0, none⟩ = some (.string t) := K.out.2 0 (by show 0 < 13; omega)
  have cA1 : W1.cell? ⟨w.heap.size, 1, none⟩ = some (.slice a r cap) := K.out.2 1 (by show 1 < 13; omega)
  have cA2 : W1.cell? ⟨w.heap.size, 2, none⟩ = some (.slice b q dap) := K.out.2 2 (by show 2 < 13; omega)
  have cA3 : W1.cell? ⟨w.heap.size, 3, none⟩ = some (.slice c s eap) := K.out.2 3 (by show 3 < 13; omega)
  have cA4 : W1.cell? ⟨w.heap.size, 4, none⟩ = some (.int .i64 n) := K.out.2 4 (by show 4 < 13; omega)
  have cA5 : W1.cell? ⟨w.heap.size, 5, none⟩ = some (.int .i64 f) := K.out.2 5 (by show 5 < 13; omega)
  have cA6 : W1.cell? ⟨w.heap.size, 6, none⟩ = some (.int .i64 o) := K.out.2 6 (by show 6 < 13; omega)
  have cA7 : W1.cell? ⟨w.heap.size, 7, none⟩ = some (.int .i64 u0) := K.out.2 7 (by show 7 < 13; omega)
  have cA8 : W1.cell? ⟨w.heap.size, 8, none⟩ = some (.int .i64 u1) := K.out.2 8 (by show 8 < 13; omega)
  have cA9 : W1.cell? ⟨w.heap.size, 9, none⟩ = some (.int .i64 u2) := K.out.2 9 (by show 9 < 13; omega)
  have cA10 : W1.cell? ⟨w.heap.size, 10, none⟩ = some (.int .i64 u3) := K.out.2 10 (by show 10 < 13; omega)
  have cA11 : W1.cell? ⟨w.heap.size, 11, none⟩ = some (.int .i64 u4) := K.out.2 11 (by show 11 < 13; omega)
  have cA12 : W1.cell? ⟨w.heap.size, 12, none⟩ = some (.int .i64 u5) := K.out.2 12 (by show 12 < 13; omega)
  have tz : (t.size : Int) ≤ 9223372036854775807 := by unfold maxLen at ht; omega
  by_cases l0 : (1048576 : Int) < t.size
  · have l2 : 1048576 - (t.size : Int) < 0 := by omega
    go_enter Try.func4, Try.ntmps4
    go_wp2_with fail
    go_ret
    exact ⟨_, rfl, fun h => by omega, bl.out⟩
  have l2 : decide (1048576 - (t.size : Int) < 0) = false := decide_eq_false (by omega)
  have L0 := hide (show 0 ≤ 1048576 - (t.size : Int) ∧ 1048576 - (t.size : Int) ≤ 1048576 ∧ (t.size : Int) ≤ 1048576 by omega)
  clear l0
  go_enter Try.func4, Try.ntmps4
  go_wp2_with fail
  refine (szOptL a b c r q s cap dap eap n f o (1048576 - (t.size : Int)) _ L0.out.1 L0.out.2.1 hr hq hs).mono ?_
  rintro e W2 ⟨x, rfl, hx, bb⟩
  have HX := hide hx
  replace bl := hide (bl.out.trans (bb.mono bl.out.size))
  clear hx bb hW1 cA0 cA1 cA2 cA3 cA4 cA5 cA6 cA7 cA8 cA9 cA10 cA11 cA12
  by_cases x0 : x < 0
  · go_wp2_with fail
    go_ret
    exact ⟨_, rfl, fun h => by omega, bl.out⟩
  have x0' : decide (x < 0) = false := decide_eq_false x0
  have FX := hide (show x ≤ 1048576 ∧ (t.size : Int) ≤ 1048576 ∧ (r : Int) ≤ 1048576 ∧ (q : Int) ≤ 1048576 ∧ (s : Int) ≤ 1048576 from ⟨(HX.out (by omega)).1, L0.out.2.2, (HX.out (by omega)).2⟩)
  clear x0
  go_wp2_with fail
  go_ret
  exact ⟨_, rfl, fun _ => FX.out, bl.out⟩
/-- a copy under way: three variables of 13 cells, three rows of one's own -/
structure SC (p : Nat) (w0 X : World) (V O R : Nat → Value) (g1 g2 g3 r q s : Nat) (P Q S : Nat → Int) : Prop where
  h : R3 13 X p V O R
  b : Below w0.heap.size w0 X
  hp : w0.heap.size ≤ p
  z : p + 1 + 1 < g1 ∧ g1 < g2 ∧ g2 < g3 ∧ g3 < X.heap.size
  P : Rw X g1 r P
  Q : Rw X g2 q Q
  S : Rw X g3 s S
section
variable {p g1 g2 g3 r q s : Nat} {w0 X X' : World} {V O R : Nat → Value} {P Q S : Nat → Int}
theorem SC.setO (h : SC p w0 X V O R g1 g2 g3 r q s P Q S) (k : Nat) (x : Value) (hk : k < 13) : SC p w0 (X.setCell ⟨p + 1 + 1, k, none⟩ x) V (upv O k x) R g1 g2 g3 r q s P Q S := by
  have kk := Kept.setCell X ⟨p + 1 + 1, k, none⟩ x
  have z := h.z
  have hp := h.hp
  exact ⟨h.h.setO k x hk, h.b.setCell (by show w0.heap.size ≤ p + 1 + 1; omega) _, hp, by have := kk.size; omega, h.P.kept kk (by show ¬ g1 = p + 1 + 1; omega), h.Q.kept kk (by show ¬ g2 = p + 1 + 1; omega), h.S.kept kk (by show ¬ g3 = p + 1 + 1; omega)⟩
theorem SC.setR (h : SC p w0 X V O R g1 g2 g3 r q s P Q S) (k : Nat) (x : Value) (hk : k < 13) : SC p w0 (X.setCell ⟨p + 1, k, none⟩ x) V O (upv R k x) g1 g2 g3 r q s P Q S := by
  have kk := Kept.setCell X ⟨p + 1, k, none⟩ x
  have z := h.z
  have hp := h.hp
  exact ⟨h.h.setR k x hk, h.b.setCell (by show w0.heap.size ≤ p + 1; omega) _, hp, by have := kk.size; omega, h.P.kept kk (by show ¬ g1 = p + 1; omega), h.Q.kept kk (by show ¬ g2 = p + 1; omega), h.S.kept kk (by show ¬ g3 = p + 1; omega)⟩
theorem SC.below (h : SC p w0 X V O R g1 g2 g3 r q s P Q S) (b : Below X.heap.size X X') : SC p w0 X' V O R g1 g2 g3 r q s P Q S := by
  have z := h.z
  exact ⟨h.h.below b, h.b.trans (b.mono h.b.size), h.hp, by have := b.size; omega, h.P.below b (by omega), h.Q.below b (by omega), h.S.below b (by omega)⟩
end
def SVCopy (t : ByteArray) (r q s : Nat) (P Q S : Nat → Int) (n f o u0 u1 u2 u3 u4 u5 : Int) (w : World) (e : Ending) (w' : World) : Prop :=
  ∃ g1 g2 g3 : Nat, e = .returned (.agg #[.string t, .slice (some ⟨g1, 0, none⟩) r r, .slice (some ⟨g2, 0, none⟩) q q, .slice (some ⟨g3, 0, none⟩) s s, .int .i64 n, .int .i64 f, .int .i64 o, .int .i64 u0, .int .i64 u1, .int .i64 u2, .int .i64 u3, .int .i64 u4, .int .i64 u5]) ∧ (w.heap.size ≤ g1 ∧ g1 < g2 ∧ g2 < g3 ∧ g3 < w'.heap.size) ∧ Rw w' g1 r P ∧ Rw w' g2 q Q ∧ Rw w' g3 s S ∧ Below w.heap.size w w'
set_option maxHeartbeats 8000000 in
theorem toSaved (B : Nat) (t : ByteArray) (a b c : Option Addr) (r q s cap dap eap : Nat) (P Q S : Nat → Int) (n f o u0 u1 u2 u3 u4 u5 : Int) (w : World) (hB : B ≤ w.heap.size) (h1 : Ints B w a r P) (h2 : Ints B w b q Q) (h3 : Ints B w c s S) (hr : (r : Int) ≤ 1048576) (hq : (q : Int) ≤ 1048576) (hs : (s : Int) ≤ 1048576) :
    Calls Try.prog 6 #[.agg #[.string t, .slice a r cap, .slice b q dap, .slice c s eap, .int .i64 n, .int .i64 f, .int .i64 o, .int .i64 u0, .int .i64 u1, .int .i64 u2, .int .i64 u3, .int .i64 u4, .int .i64 u5]] w (SVCopy t r q s P Q S n f o u0 u1 u2 u3 u4 u5 w) := by
  have H1 := hide h1
  have H2 := hide h2
  have H3 := hide h3
  clear h1 h2 h3
  have k0 := R3.new w #[.string t, .slice a r cap, .slice b q dap, .slice c s eap, .int .i64 n, .int .i64 f, .int .i64 o, .int .i64 u0, .int .i64 u1, .int .i64 u2, .int .i64 u3, .int .i64 u4, .int .i64 u5] #[.string { data := #[] }, .slice none 0 0, .slice none 0 0, .slice none 0 0, .int .i64 0, .int .i64 0, .int .i64 0, .int .i64 0, .int .i64 0, .int .i64 0, .int .i64 0, .int .i64 0, .int .i64 0] #[.string { data := #[] }, .slice none 0 0, .slice none 0 0, .slice none 0 0, .int .i64 0, .int .i64 0, .int .i64 0, .int .i64 0, .int .i64 0, .int .i64 0, .int .i64 0, .int .i64 0, .int .i64 0] 28 34 34 13 rfl rfl rfl
  obtain ⟨W0, hW0⟩ : ∃ W0, ((w.alloc (.cells #[.string t, .slice a r cap, .slice b q dap, .slice c s eap, .int .i64 n, .int .i64 f, .int .i64 o, .int .i64 u0, .int .i64 u1, .int .i64 u2, .int .i64 u3, .int .i64 u4, .int .i64 u5] 28)).alloc (.cells #[.string { data := #[] }, .slice none 0 0, .slice none 0 0, .slice none 0 0, .int .i64 0, .int .i64 0, .int .i64 0, .int .i64 0, .int .i64 0, .int .i64 0, .int .i64 0, .int .i64 0, .int .i64 0] 34)).alloc (.cells #[.string { data := #[] }, .slice none 0 0, .slice none 0 0, .slice none 0 0, .int .i64 0, .int .i64 0, .int .i64 0, .int .i64 0, .int .i64 0, .int .i64 0, .int .i64 0, .int .i64 0, .int .i64 0] 34) = W0 := ⟨_, rfl⟩
  rw [hW0] at k0
  have K0 := hide k0
  have B0 := hide (show Below w.heap.size w W0 from hW0 ▸ (((Below.refl _ _).alloc (Nat.le_refl _) _).alloc (by simp) _).alloc (by simp; omega) _)
  clear k0
  have p0 : W0.cell? ⟨w.heap.size, 0, none⟩ = some (.string t) := K0.out.s 0 (by omega)
  obtain ⟨X0, hX0⟩ : ∃ X0, W0.setCell ⟨w.heap.size + 1 + 1, 0, none⟩ (.string t) = X0 := ⟨_, rfl⟩
  have KX := hide (show R3 13 X0 _ _ _ _ from hX0 ▸ K0.out.setO 0 (.string t) (by omega))
  obtain ⟨v0, e0⟩ : ∃ u, W0.cell? ⟨w.heap.size + 1 + 1, 0, none⟩ = some u := ⟨_, K0.out.o 0 (by omega)⟩
  have f0 : W0.frozen? ⟨w.heap.size + 1 + 1, 0, none⟩ = false := K0.out.fo 0
  have BX := hide (show Below w.heap.size w X0 from hX0 ▸ B0.out.setCell (by show w.heap.size ≤ w.heap.size + 1 + 1; omega) _)
  have p1 : X0.cell? ⟨w.heap.size, 1, none⟩ = some (.slice a r cap) := KX.out.s 1 (by omega)
  have p2 : X0.cell? ⟨w.heap.size, 2, none⟩ = some (.slice b q dap) := KX.out.s 2 (by omega)
  have p3 : X0.cell? ⟨w.heap.size, 3, none⟩ = some (.slice c s eap) := KX.out.s 3 (by omega)
  have p4 : X0.cell? ⟨w.heap.size, 4, none⟩ = some (.int .i64 n) := KX.out.s 4 (by omega)
  have p5 : X0.cell? ⟨w.heap.size, 5, none⟩ = some (.int .i64 f) := KX.out.s 5 (by omega)
  have p6 : X0.cell? ⟨w.heap.size, 6, none⟩ = some (.int .i64 o) := KX.out.s 6 (by omega)
  go_enter Try.func6, Try.ntmps6
  go_wp2_with fail
  clear hW0 hX0 e0 f0 K0 B0 p0 p1 p2 p3 p4 p5 p6
  refine (toOpt B a b c r q s cap dap eap P Q S n f o _ (Nat.le_trans hB BX.out.size) (H1.out.below (BX.out.mono hB)) (H2.out.below (BX.out.mono hB)) (H3.out.below (BX.out.mono hB)) hr hq hs).mono ?_
  rintro e Y0 ⟨g1, g2, g3, rfl, ⟨z1, z2, z3, z4⟩, t1, t2, t3, bb⟩
  have C := hide (show SC w.heap.size w Y0 _ _ _ g1 g2 g3 r q s P Q S from ⟨KX.out.below bb, BX.out.trans (bb.mono BX.out.size), Nat.le_refl _, by have := KX.out.z; omega, t1, t2, t3⟩)
  simp only [OVal]
  clear bb t1 t2 t3 z1 z2 z3 z4 KX BX
  obtain ⟨X1, hX1⟩ : ∃ X, Y0.setCell ⟨w.heap.size + 1 + 1, 1, none⟩ (.slice (some ⟨g1, 0, none⟩) r r) = X := ⟨_, rfl⟩
  obtain ⟨vX1, eX1⟩ : ∃ u, Y0.cell? ⟨w.heap.size + 1 + 1, 1, none⟩ = some u := ⟨_, C.out.h.o 1 (by omega)⟩
  have fX1 : Y0.frozen? ⟨w.heap.size + 1 + 1, 1, none⟩ = false := C.out.h.fo 1
  replace C := hide (show SC w.heap.size w X1 _ _ _ g1 g2 g3 r q s P Q S from hX1 ▸ C.out.setO 1 (.slice (some ⟨g1, 0, none⟩) r r) (by omega))
  obtain ⟨X2, hX2⟩ : ∃ X, X1.setCell ⟨w.heap.size + 1 + 1, 2, none⟩ (.slice (some ⟨g2, 0, none⟩) q q) = X := ⟨_, rfl⟩
  obtain ⟨vX2, eX2⟩ : ∃ u, X1.cell? ⟨w.heap.size + 1 + 1, 2, none⟩ = some u := ⟨_, C.out.h.o 2 (by omega)⟩
  have fX2 : X1.frozen? ⟨w.heap.size + 1 + 1, 2, none⟩ = false := C.out.h.fo 2
  replace C := hide (show SC w.heap.size w X2 _ _ _ g1 g2 g3 r q s P Q S from hX2 ▸ C.out.setO 2 (.slice (some ⟨g2, 0, none⟩) q q) (by omega))
  obtain ⟨X3, hX3⟩ : ∃ X, X2.setCell ⟨w.heap.size + 1 + 1, 3, none⟩ (.slice (some ⟨g3, 0, none⟩) s s) = X := ⟨_, rfl⟩
  obtain ⟨vX3, eX3⟩ : ∃ u, X2.cell? ⟨w.heap.size + 1 + 1, 3, none⟩ = some u := ⟨_, C.out.h.o 3 (by omega)⟩
  have fX3 : X2.frozen? ⟨w.heap.size + 1 + 1, 3, none⟩ = false := C.out.h.fo 3
  replace C := hide (show SC w.heap.size w X3 _ _ _ g1 g2 g3 r q s P Q S from hX3 ▸ C.out.setO 3 (.slice (some ⟨g3, 0, none⟩) s s) (by omega))
  obtain ⟨X4, hX4⟩ : ∃ X, X3.setCell ⟨w.heap.size + 1 + 1, 4, none⟩ (.int .i64 n) = X := ⟨_, rfl⟩
  obtain ⟨vX4, eX4⟩ : ∃ u, X3.cell? ⟨w.heap.size + 1 + 1, 4, none⟩ = some u := ⟨_, C.out.h.o 4 (by omega)⟩
  have fX4 : X3.frozen? ⟨w.heap.size + 1 + 1, 4, none⟩ = false := C.out.h.fo 4
  replace C := hide (show SC w.heap.size w X4 _ _ _ g1 g2 g3 r q s P Q S from hX4 ▸ C.out.setO 4 (.int .i64 n) (by omega))
  obtain ⟨X5, hX5⟩ : ∃ X, X4.setCell ⟨w.heap.size + 1 + 1, 5, none⟩ (.int .i64 f) = X := ⟨_, rfl⟩
  obtain ⟨vX5, eX5⟩ : ∃ u, X4.cell? ⟨w.heap.size + 1 + 1, 5, none⟩ = some u := ⟨_, C.out.h.o 5 (by omega)⟩
  have fX5 : X4.frozen? ⟨w.heap.size + 1 + 1, 5, none⟩ = false := C.out.h.fo 5
  replace C := hide (show SC w.heap.size w X5 _ _ _ g1 g2 g3 r q s P Q S from hX5 ▸ C.out.setO 5 (.int .i64 f) (by omega))
  obtain ⟨X6, hX6⟩ : ∃ X, X5.setCell ⟨w.heap.size + 1 + 1, 6, none⟩ (.int .i64 o) = X := ⟨_, rfl⟩
  obtain ⟨vX6, eX6⟩ : ∃ u, X5.cell? ⟨w.heap.size + 1 + 1, 6, none⟩ = some u := ⟨_, C.out.h.o 6 (by omega)⟩
  have fX6 : X5.frozen? ⟨w.heap.size + 1 + 1, 6, none⟩ = false := C.out.h.fo 6
  replace C := hide (show SC w.heap.size w X6 _ _ _ g1 g2 g3 r q s P Q S from hX6 ▸ C.out.setO 6 (.int .i64 o) (by omega))
  have p7 : X6.cell? ⟨w.heap.size, 7, none⟩ = some (.int .i64 u0) := C.out.h.s 7 (by omega)
  have p8 : X6.cell? ⟨w.heap.size, 8, none⟩ = some (.int .i64 u1) := C.out.h.s 8 (by omega)
  have p9 : X6.cell? ⟨w.heap.size, 9, none⟩ = some (.int .i64 u2) := C.out.h.s 9 (by omega)
  have p10 : X6.cell? ⟨w.heap.size, 10, none⟩ = some (.int .i64 u3) := C.out.h.s 10 (by omega)
  have p11 : X6.cell? ⟨w.heap.size, 11, none⟩ = some (.int .i64 u4) := C.out.h.s 11 (by omega)
  have p12 : X6.cell? ⟨w.heap.size, 12, none⟩ = some (.int .i64 u5) := C.out.h.s 12 (by omega)
  go_wp2_with fail
  clear hX1 eX1 fX1 hX2 eX2 fX2 hX3 eX3 fX3 hX4 eX4 fX4 hX5 eX5 fX5 hX6 eX6 fX6 p7 p8 p9 p10 p11 p12
  refine (toFeed u0 u1 u2 u3 u4 u5 _).mono ?_
  rintro e Y1 ⟨rfl, bb⟩
  replace C := hide (C.out.below bb)
  clear bb
  obtain ⟨X7, hX7⟩ : ∃ X, Y1.setCell ⟨w.heap.size + 1 + 1, 7, none⟩ (.int .i64 u0) = X := ⟨_, rfl⟩
  obtain ⟨vX7, eX7⟩ : ∃ u, Y1.cell? ⟨w.heap.size + 1 + 1, 7, none⟩ = some u := ⟨_, C.out.h.o 7 (by omega)⟩
  have fX7 : Y1.frozen? ⟨w.heap.size + 1 + 1, 7, none⟩ = false := C.out.h.fo 7
  replace C := hide (show SC w.heap.size w X7 _ _ _ g1 g2 g3 r q s P Q S from hX7 ▸ C.out.setO 7 (.int .i64 u0) (by omega))
  obtain ⟨X8, hX8⟩ : ∃ X, X7.setCell ⟨w.heap.size + 1 + 1, 8, none⟩ (.int .i64 u1) = X := ⟨_, rfl⟩
  obtain ⟨vX8, eX8⟩ : ∃ u, X7.cell? ⟨w.heap.size + 1 + 1, 8, none⟩ = some u := ⟨_, C.out.h.o 8 (by omega)⟩
  have fX8 : X7.frozen? ⟨w.heap.size + 1 + 1, 8, none⟩ = false := C.out.h.fo 8
  replace C := hide (show SC w.heap.size w X8 _ _ _ g1 g2 g3 r q s P Q S from hX8 ▸ C.out.setO 8 (.int .i64 u1) (by omega))
  obtain ⟨X9, hX9⟩ : ∃ X, X8.setCell ⟨w.heap.size + 1 + 1, 9, none⟩ (.int .i64 u2) = X := ⟨_, rfl⟩
  obtain ⟨vX9, eX9⟩ : ∃ u, X8.cell? ⟨w.heap.size + 1 + 1, 9, none⟩ = some u := ⟨_, C.out.h.o 9 (by omega)⟩
  have fX9 : X8.frozen? ⟨w.heap.size + 1 + 1, 9, none⟩ = false := C.out.h.fo 9
  replace C := hide (show SC w.heap.size w X9 _ _ _ g1 g2 g3 r q s P Q S from hX9 ▸ C.out.setO 9 (.int .i64 u2) (by omega))
  obtain ⟨X10, hX10⟩ : ∃ X, X9.setCell ⟨w.heap.size + 1 + 1, 10, none⟩ (.int .i64 u3) = X := ⟨_, rfl⟩
  obtain ⟨vX10, eX10⟩ : ∃ u, X9.cell? ⟨w.heap.size + 1 + 1, 10, none⟩ = some u := ⟨_, C.out.h.o 10 (by omega)⟩
  have fX10 : X9.frozen? ⟨w.heap.size + 1 + 1, 10, none⟩ = false := C.out.h.fo 10
  replace C := hide (show SC w.heap.size w X10 _ _ _ g1 g2 g3 r q s P Q S from hX10 ▸ C.out.setO 10 (.int .i64 u3) (by omega))
  obtain ⟨X11, hX11⟩ : ∃ X, X10.setCell ⟨w.heap.size + 1 + 1, 11, none⟩ (.int .i64 u4) = X := ⟨_, rfl⟩
  obtain ⟨vX11, eX11⟩ : ∃ u, X10.cell? ⟨w.heap.size + 1 + 1, 11, none⟩ = some u := ⟨_, C.out.h.o 11 (by omega)⟩
  have fX11 : X10.frozen? ⟨w.heap.size + 1 + 1, 11, none⟩ = false := C.out.h.fo 11
  replace C := hide (show SC w.heap.size w X11 _ _ _ g1 g2 g3 r q s P Q S from hX11 ▸ C.out.setO 11 (.int .i64 u4) (by omega))
  obtain ⟨X12, hX12⟩ : ∃ X, X11.setCell ⟨w.heap.size + 1 + 1, 12, none⟩ (.int .i64 u5) = X := ⟨_, rfl⟩
  obtain ⟨vX12, eX12⟩ : ∃ u, X11.cell? ⟨w.heap.size + 1 + 1, 12, none⟩ = some u := ⟨_, C.out.h.o 12 (by omega)⟩
  have fX12 : X11.frozen? ⟨w.heap.size + 1 + 1, 12, none⟩ = false := C.out.h.fo 12
  replace C := hide (show SC w.heap.size w X12 _ _ _ g1 g2 g3 r q s P Q S from hX12 ▸ C.out.setO 12 (.int .i64 u5) (by omega))
  have o0 : X12.cell? ⟨w.heap.size + 1 + 1, 0, none⟩ = some (.string t) := C.out.h.o 0 (by omega)
  have o1 : X12.cell? ⟨w.heap.size + 1 + 1, 1, none⟩ = some (.slice (some ⟨g1, 0, none⟩) r r) := C.out.h.o 1 (by omega)
  have o2 : X12.cell? ⟨w.heap.size + 1 + 1, 2, none⟩ = some (.slice (some ⟨g2, 0, none⟩) q q) := C.out.h.o 2 (by omega)
  have o3 : X12.cell? ⟨w.heap.size + 1 + 1, 3, none⟩ = some (.slice (some ⟨g3, 0, none⟩) s s) := C.out.h.o 3 (by omega)
  have o4 : X12.cell? ⟨w.heap.size + 1 + 1, 4, none⟩ = some (.int .i64 n) := C.out.h.o 4 (by omega)
  have o5 : X12.cell? ⟨w.heap.size + 1 + 1, 5, none⟩ = some (.int .i64 f) := C.out.h.o 5 (by omega)
  have o6 : X12.cell? ⟨w.heap.size + 1 + 1, 6, none⟩ = some (.int .i64 o) := C.out.h.o 6 (by omega)
  have o7 : X12.cell? ⟨w.heap.size + 1 + 1, 7, none⟩ = some (.int .i64 u0) := C.out.h.o 7 (by omega)
  have o8 : X12.cell? ⟨w.heap.size + 1 + 1, 8, none⟩ = some (.int .i64 u1) := C.out.h.o 8 (by omega)
  have o9 : X12.cell? ⟨w.heap.size + 1 + 1, 9, none⟩ = some (.int .i64 u2) := C.out.h.o 9 (by omega)
  have o10 : X12.cell? ⟨w.heap.size + 1 + 1, 10, none⟩ = some (.int .i64 u3) := C.out.h.o 10 (by omega)
  have o11 : X12.cell? ⟨w.heap.size + 1 + 1, 11, none⟩ = some (.int .i64 u4) := C.out.h.o 11 (by omega)
  have o12 : X12.cell? ⟨w.heap.size + 1 + 1, 12, none⟩ = some (.int .i64 u5) := C.out.h.o 12 (by omega)
  obtain ⟨Z0, hZ0⟩ : ∃ X, X12.setCell ⟨w.heap.size + 1, 0, none⟩ (.string t) = X := ⟨_, rfl⟩
  obtain ⟨vZ0, eZ0⟩ : ∃ u, X12.cell? ⟨w.heap.size + 1, 0, none⟩ = some u := ⟨_, C.out.h.r 0 (by omega)⟩
  have fZ0 : X12.frozen? ⟨w.heap.size + 1, 0, none⟩ = false := C.out.h.fr 0
  replace C := hide (show SC w.heap.size w Z0 _ _ _ g1 g2 g3 r q s P Q S from hZ0 ▸ C.out.setR 0 (.string t) (by omega))
  obtain ⟨Z1, hZ1⟩ : ∃ X, Z0.setCell ⟨w.heap.size + 1, 1, none⟩ (.slice (some ⟨g1, 0, none⟩) r r) = X := ⟨_, rfl⟩
  obtain ⟨vZ1, eZ1⟩ : ∃ u, Z0.cell? ⟨w.heap.size + 1, 1, none⟩ = some u := ⟨_, C.out.h.r 1 (by omega)⟩
  have fZ1 : Z0.frozen? ⟨w.heap.size + 1, 1, none⟩ = false := C.out.h.fr 1
  replace C := hide (show SC w.heap.size w Z1 _ _ _ g1 g2 g3 r q s P Q S from hZ1 ▸ C.out.setR 1 (.slice (some ⟨g1, 0, none⟩) r r) (by omega))
  obtain ⟨Z2, hZ2⟩ : ∃ X, Z1.setCell ⟨w.heap.size + 1, 2, none⟩ (.slice (some ⟨g2, 0, none⟩) q q) = X := ⟨_, rfl⟩
  obtain ⟨vZ2, eZ2⟩ : ∃ u, Z1.cell? ⟨w.heap.size + 1, 2, none⟩ = some u := ⟨_, C.out.h.r 2 (by omega)⟩
  have fZ2 : Z1.frozen? ⟨w.heap.size + 1, 2, none⟩ = false := C.out.h.fr 2
  replace C := hide (show SC w.heap.size w Z2 _ _ _ g1 g2 g3 r q s P Q S from hZ2 ▸ C.out.setR 2 (.slice (some ⟨g2, 0, none⟩) q q) (by omega))
  obtain ⟨Z3, hZ3⟩ : ∃ X, Z2.setCell ⟨w.heap.size + 1, 3, none⟩ (.slice (some ⟨g3, 0, none⟩) s s) = X := ⟨_, rfl⟩
  obtain ⟨vZ3, eZ3⟩ : ∃ u, Z2.cell? ⟨w.heap.size + 1, 3, none⟩ = some u := ⟨_, C.out.h.r 3 (by omega)⟩
  have fZ3 : Z2.frozen? ⟨w.heap.size + 1, 3, none⟩ = false := C.out.h.fr 3
  replace C := hide (show SC w.heap.size w Z3 _ _ _ g1 g2 g3 r q s P Q S from hZ3 ▸ C.out.setR 3 (.slice (some ⟨g3, 0, none⟩) s s) (by omega))
  obtain ⟨Z4, hZ4⟩ : ∃ X, Z3.setCell ⟨w.heap.size + 1, 4, none⟩ (.int .i64 n) = X := ⟨_, rfl⟩
  obtain ⟨vZ4, eZ4⟩ : ∃ u, Z3.cell? ⟨w.heap.size + 1, 4, none⟩ = some u := ⟨_, C.out.h.r 4 (by omega)⟩
  have fZ4 : Z3.frozen? ⟨w.heap.size + 1, 4, none⟩ = false := C.out.h.fr 4
  replace C := hide (show SC w.heap.size w Z4 _ _ _ g1 g2 g3 r q s P Q S from hZ4 ▸ C.out.setR 4 (.int .i64 n) (by omega))
  obtain ⟨Z5, hZ5⟩ : ∃ X, Z4.setCell ⟨w.heap.size + 1, 5, none⟩ (.int .i64 f) = X := ⟨_, rfl⟩
  obtain ⟨vZ5, eZ5⟩ : ∃ u, Z4.cell? ⟨w.heap.size + 1, 5, none⟩ = some u := ⟨_, C.out.h.r 5 (by omega)⟩
  have fZ5 : Z4.frozen? ⟨w.heap.size + 1, 5, none⟩ = false := C.out.h.fr 5
  replace C := hide (show SC w.heap.size w Z5 _ _ _ g1 g2 g3 r q s P Q S from hZ5 ▸ C.out.setR 5 (.int .i64 f) (by omega))
  obtain ⟨Z6, hZ6⟩ : ∃ X, Z5.setCell ⟨w.heap.size + 1, 6, none⟩ (.int .i64 o) = X := ⟨_, rfl⟩
  obtain ⟨vZ6, eZ6⟩ : ∃ u, Z5.cell? ⟨w.heap.size + 1, 6, none⟩ = some u := ⟨_, C.out.h.r 6 (by omega)⟩
  have fZ6 : Z5.frozen? ⟨w.heap.size + 1, 6, none⟩ = false := C.out.h.fr 6
  replace C := hide (show SC w.heap.size w Z6 _ _ _ g1 g2 g3 r q s P Q S from hZ6 ▸ C.out.setR 6 (.int .i64 o) (by omega))
  obtain ⟨Z7, hZ7⟩ : ∃ X, Z6.setCell ⟨w.heap.size + 1, 7, none⟩ (.int .i64 u0) = X := ⟨_, rfl⟩
  obtain ⟨vZ7, eZ7⟩ : ∃ u, Z6.cell? ⟨w.heap.size + 1, 7, none⟩ = some u := ⟨_, C.out.h.r 7 (by omega)⟩
  have fZ7 : Z6.frozen? ⟨w.heap.size + 1, 7, none⟩ = false := C.out.h.fr 7
  replace C := hide (show SC w.heap.size w Z7 _ _ _ g1 g2 g3 r q s P Q S from hZ7 ▸ C.out.setR 7 (.int .i64 u0) (by omega))
  obtain ⟨Z8, hZ8⟩ : ∃ X, Z7.setCell ⟨w.heap.size + 1, 8, none⟩ (.int .i64 u1) = X := ⟨_, rfl⟩
  obtain ⟨vZ8, eZ8⟩ : ∃ u, Z7.cell? ⟨w.heap.size + 1, 8, none⟩ = some u := ⟨_, C.out.h.r 8 (by omega)⟩
  have fZ8 : Z7.frozen? ⟨w.heap.size + 1, 8, none⟩ = false := C.out.h.fr 8
  replace C := hide (show SC w.heap.size w Z8 _ _ _ g1 g2 g3 r q s P Q S from hZ8 ▸ C.out.setR 8 (.int .i64 u1) (by omega))
  obtain ⟨Z9, hZ9⟩ : ∃ X, Z8.setCell ⟨w.heap.size + 1, 9, none⟩ (.int .i64 u2) = X := ⟨_, rfl⟩
  obtain ⟨vZ9, eZ9⟩ : ∃ u, Z8.cell? ⟨w.heap.size + 1, 9, none⟩ = some u := ⟨_, C.out.h.r 9 (by omega)⟩
  have fZ9 : Z8.frozen? ⟨w.heap.size + 1, 9, none⟩ = false := C.out.h.fr 9
  replace C := hide (show SC w.heap.size w Z9 _ _ _ g1 g2 g3 r q s P Q S from hZ9 ▸ C.out.setR 9 (.int .i64 u2) (by omega))
  obtain ⟨Z10, hZ10⟩ : ∃ X, Z9.setCell ⟨w.heap.size + 1, 10, none⟩ (.int .i64 u3) = X := ⟨_, rfl⟩
  obtain ⟨vZ10, eZ10⟩ : ∃ u, Z9.cell? ⟨w.heap.size + 1, 10, none⟩ = some u := ⟨_, C.out.h.r 10 (by omega)⟩
  have fZ10 : Z9.frozen? ⟨w.heap.size + 1, 10, none⟩ = false := C.out.h.fr 10
  replace C := hide (show SC w.heap.size w Z10 _ _ _ g1 g2 g3 r q s P Q S from hZ10 ▸ C.out.setR 10 (.int .i64 u3) (by omega))
  obtain ⟨Z11, hZ11⟩ : ∃ X, Z10.setCell ⟨w.heap.size + 1, 11, none⟩ (.int .i64 u4) = X := ⟨_, rfl⟩
  obtain ⟨vZ11, eZ11⟩ : ∃ u, Z10.cell? ⟨w.heap.size + 1, 11, none⟩ = some u := ⟨_, C.out.h.r 11 (by omega)⟩
  have fZ11 : Z10.frozen? ⟨w.heap.size + 1, 11, none⟩ = false := C.out.h.fr 11
  replace C := hide (show SC w.heap.size w Z11 _ _ _ g1 g2 g3 r q s P Q S from hZ11 ▸ C.out.setR 11 (.int .i64 u4) (by omega))
  obtain ⟨Z12, hZ12⟩ : ∃ X, Z11.setCell ⟨w.heap.size + 1, 12, none⟩ (.int .i64 u5) = X := ⟨_, rfl⟩
  obtain ⟨vZ12, eZ12⟩ : ∃ u, Z11.cell? ⟨w.heap.size + 1, 12, none⟩ = some u := ⟨_, C.out.h.r 12 (by omega)⟩
  have fZ12 : Z11.frozen? ⟨w.heap.size + 1, 12, none⟩ = false := C.out.h.fr 12
  replace C := hide (show SC w.heap.size w Z12 _ _ _ g1 g2 g3 r q s P Q S from hZ12 ▸ C.out.setR 12 (.int .i64 u5) (by omega))
  have r0 : Z12.cell? ⟨w.heap.size + 1, 0, none⟩ = some (.string t) := C.out.h.r 0 (by omega)
  have r1 : Z12.cell? ⟨w.heap.size + 1, 1, none⟩ = some (.slice (some ⟨g1, 0, none⟩) r r) := C.out.h.r 1 (by omega)
  have r2 : Z12.cell? ⟨w.heap.size + 1, 2, none⟩ = some (.slice (some ⟨g2, 0, none⟩) q q) := C.out.h.r 2 (by omega)
  have r3 : Z12.cell? ⟨w.heap.size + 1, 3, none⟩ = some (.slice (some ⟨g3, 0, none⟩) s s) := C.out.h.r 3 (by omega)
  have r4 : Z12.cell? ⟨w.heap.size + 1, 4, none⟩ = some (.int .i64 n) := C.out.h.r 4 (by omega)
  have r5 : Z12.cell? ⟨w.heap.size + 1, 5, none⟩ = some (.int .i64 f) := C.out.h.r 5 (by omega)
  have r6 : Z12.cell? ⟨w.heap.size + 1, 6, none⟩ = some (.int .i64 o) := C.out.h.r 6 (by omega)
  have r7 : Z12.cell? ⟨w.heap.size + 1, 7, none⟩ = some (.int .i64 u0) := C.out.h.r 7 (by omega)
  have r8 : Z12.cell? ⟨w.heap.size + 1, 8, none⟩ = some (.int .i64 u1) := C.out.h.r 8 (by omega)
  have r9 : Z12.cell? ⟨w.heap.size + 1, 9, none⟩ = some (.int .i64 u2) := C.out.h.r 9 (by omega)
  have r10 : Z12.cell? ⟨w.heap.size + 1, 10, none⟩ = some (.int .i64 u3) := C.out.h.r 10 (by omega)
  have r11 : Z12.cell? ⟨w.heap.size + 1, 11, none⟩ = some (.int .i64 u4) := C.out.h.r 11 (by omega)
  have r12 : Z12.cell? ⟨w.heap.size + 1, 12, none⟩ = some (.int .i64 u5) := C.out.h.r 12 (by omega)
  go_wp2_with fail
  exact bodyPost_ret (v := .agg #[.string t, .slice (some ⟨g1, 0, none⟩) r r, .slice (some ⟨g2, 0, none⟩) q q, .slice (some ⟨g3, 0, none⟩) s s, .int .i64 n, .int .i64 f, .int .i64 o, .int .i64 u0, .int .i64 u1, .int .i64 u2, .int .i64 u3, .int .i64 u4, .int .i64 u5]) (by simp [results, Try.results6, go_sem, r0, r1, r2, r3, r4, r5, r6, r7, r8, r9, r10, r11, r12]) rfl ⟨g1, g2, g3, rfl, by have := C.out.z; omega, C.out.P, C.out.Q, C.out.S, C.out.b⟩
set_option maxHeartbeats 2000000 in
theorem eqSaved (B : Nat) (t : ByteArray) (a b c a' b' c' : Option Addr) (r q s cap dap eap cap' dap' eap' : Nat) (P Q S P' Q' S' : Nat → Int) (n f o u0 u1 u2 u3 u4 u5 : Int) (w : World) (hB : B ≤ w.heap.size) (h1 : Ints B w a r P) (h2 : Ints B w b q Q) (h3 : Ints B w c s S) (k1 : Ints B w a' r P') (k2 : Ints B w b' q Q') (k3 : Ints B w c' s S')
    (e1 : ∀ j, j < r → P j = P' j) (e2 : ∀ j, j < q → Q j = Q' j) (e3 : ∀ j, j < s → S j = S' j) (hr : (r : Int) ≤ 1048576) (hq : (q : Int) ≤ 1048576) (hs : (s : Int) ≤ 1048576) :
    Calls Try.prog 8 #[.agg #[.string t, .slice a r cap, .slice b q dap, .slice c s eap, .int .i64 n, .int .i64 f, .int .i64 o, .int .i64 u0, .int .i64 u1, .int .i64 u2, .int .i64 u3, .int .i64 u4, .int .i64 u5], .agg #[.string t, .slice a' r cap', .slice b' q dap', .slice c' s eap', .int .i64 n, .int .i64 f, .int .i64 o, .int .i64 u0, .int .i64 u1, .int .i64 u2, .int .i64 u3, .int .i64 u4, .int .i64 u5]] w fun e w' => e = .returned (.bool true) ∧ Below w.heap.size w w' := by
  obtain ⟨W1, hW1⟩ : ∃ W1, w.alloc (.cells #[.string t, .slice a r cap, .slice b q dap, .slice c s eap, .int .i64 n, .int .i64 f, .int .i64 o, .int .i64 u0, .int .i64 u1, .int .i64 u2, .int .i64 u3, .int .i64 u4, .int .i64 u5] 34) = W1 := ⟨_, rfl⟩
  have m1 : Below w.heap.size w W1 := hW1 ▸ (Below.refl _ _).alloc (Nat.le_refl _) _
  have x1 : BoxL W1 w.heap.size [.string t, .slice a r cap, .slice b q dap, .slice c s eap, .int .i64 n, .int .i64 f, .int .i64 o, .int .i64 u0, .int .i64 u1, .int .i64 u2, .int .i64 u3, .int .i64 u4, .int .i64 u5] := hW1 ▸ boxL_new w #[.string t, .slice a r cap, .slice b q dap, .slice c s eap, .int .i64 n, .int .i64 f, .int .i64 o, .int .i64 u0, .int .i64 u1, .int .i64 u2, .int .i64 u3, .int .i64 u4, .int .i64 u5] _
  obtain ⟨W2, hW2⟩ : ∃ W2, W1.alloc (.cells #[.string t, .slice a' r cap', .slice b' q dap', .slice c' s eap', .int .i64 n, .int .i64 f, .int .i64 o, .int .i64 u0, .int .i64 u1, .int .i64 u2, .int .i64 u3, .int .i64 u4, .int .i64 u5] 34) = W2 := ⟨_, rfl⟩
  have m2 : Below W1.heap.size W1 W2 := hW2 ▸ (Below.refl _ _).alloc (Nat.le_refl _) _
  have KB := hide (show BoxL W2 W1.heap.size [.string t, .slice a' r cap', .slice b' q dap', .slice c' s eap', .int .i64 n, .int .i64 f, .int .i64 o, .int .i64 u0, .int .i64 u1, .int .i64 u2, .int .i64 u3, .int .i64 u4, .int .i64 u5] from hW2 ▸ boxL_new W1 #[.string t, .slice a' r cap', .slice b' q dap', .slice c' s eap', .int .i64 n, .int .i64 f, .int .i64 o, .int .i64 u0, .int .i64 u1, .int .i64 u2, .int .i64 u3, .int .i64 u4, .int .i64 u5] _)
  have KA := hide (x1.below m2)
  have BL := hide (m1.trans (m2.mono m1.size))
  have H1 := hide h1
  have H2 := hide h2
  have H3 := hide h3
  have G1 := hide k1
  have G2 := hide k2
  have G3 := hide k3
  have E1 := hide e1
  have E2 := hide e2
  have E3 := hide e3
  clear h1 h2 h3 k1 k2 k3 e1 e2 e3 m1 m2 x1
  have cA0 : W2.cell? ⟨w.heap.size, 0, none⟩ = some (.string t) := KA.out.2 0 (by show 0 < 13; omega)
  have cA1 : W2.cell? ⟨w.heap.size, 1, none⟩ = some (.slice a r cap) := KA.out.2 1 (by show 1 < 13; omega)
  have cA2 : W2.cell? ⟨w.heap.size, 2, none⟩ = some (.slice b q dap) := KA.out.2 2 (by show 2 < 13; omega)
  have cA3 : W2.cell? ⟨w.heap.size, 3, none⟩ = some (.slice c s eap) := KA.out.2 3 (by show 3 < 13; omega)
  have cA4 : W2.cell? ⟨w.heap.size, 4, none⟩ = some (.int .i64 n) := KA.out.2 4 (by show 4 < 13; omega)
  have cA5 : W2.cell? ⟨w.heap.size, 5, none⟩ = some (.int .i64 f) := KA.out.2 5 (by show 5 < 13; omega)
  have cA6 : W2.cell? ⟨w.heap.size, 6, none⟩ = some (.int .i64 o) := KA.out.2 6 (by show 6 < 13; omega)
  have cA7 : W2.cell? ⟨w.heap.size, 7, none⟩ = some (.int .i64 u0) := KA.out.2 7 (by show 7 < 13; omega)
  have cA8 : W2.cell? ⟨w.heap.size, 8, none⟩ = some (.int .i64 u1) := KA.out.2 8 (by show 8 < 13; omega)
  have cA9 : W2.cell? ⟨w.heap.size, 9, none⟩ = some (.int .i64 u2) := KA.out.2 9 (by show 9 < 13; omega)
  have cA10 : W2.cell? ⟨w.heap.size, 10, none⟩ = some (.int .i64 u3) := KA.out.2 10 (by show 10 < 13; omega)
  have cA11 : W2.cell? ⟨w.heap.size, 11, none⟩ = some (.int .i64 u4) := KA.out.2 11 (by show 11 < 13; omega)
  have cA12 : W2.cell? ⟨w.heap.size, 12, none⟩ = some (.int .i64 u5) := KA.out.2 12 (by show 12 < 13; omega)
  have cB0 : W2.cell? ⟨W1.heap.size, 0, none⟩ = some (.string t) := KB.out.2 0 (by show 0 < 13; omega)
  have cB1 : W2.cell? ⟨W1.heap.size, 1, none⟩ = some (.slice a' r cap') := KB.out.2 1 (by show 1 < 13; omega)
  have cB2 : W2.cell? ⟨W1.heap.size, 2, none⟩ = some (.slice b' q dap') := KB.out.2 2 (by show 2 < 13; omega)
  have cB3 : W2.cell? ⟨W1.heap.size, 3, none⟩ = some (.slice c' s eap') := KB.out.2 3 (by show 3 < 13; omega)
  have cB4 : W2.cell? ⟨W1.heap.size, 4, none⟩ = some (.int .i64 n) := KB.out.2 4 (by show 4 < 13; omega)
  have cB5 : W2.cell? ⟨W1.heap.size, 5, none⟩ = some (.int .i64 f) := KB.out.2 5 (by show 5 < 13; omega)
  have cB6 : W2.cell? ⟨W1.heap.size, 6, none⟩ = some (.int .i64 o) := KB.out.2 6 (by show 6 < 13; omega)
  have cB7 : W2.cell? ⟨W1.heap.size, 7, none⟩ = some (.int .i64 u0) := KB.out.2 7 (by show 7 < 13; omega)
  have cB8 : W2.cell? ⟨W1.heap.size, 8, none⟩ = some (.int .i64 u1) := KB.out.2 8 (by show 8 < 13; omega)
  have cB9 : W2.cell? ⟨W1.heap.size, 9, none⟩ = some (.int .i64 u2) := KB.out.2 9 (by show 9 < 13; omega)
  have cB10 : W2.cell? ⟨W1.heap.size, 10, none⟩ = some (.int .i64 u3) := KB.out.2 10 (by show 10 < 13; omega)
  have cB11 : W2.cell? ⟨W1.heap.size, 11, none⟩ = some (.int .i64 u4) := KB.out.2 11 (by show 11 < 13; omega)
  have cB12 : W2.cell? ⟨W1.heap.size, 12, none⟩ = some (.int .i64 u5) := KB.out.2 12 (by show 12 < 13; omega)
  go_enter Try.func8, Try.ntmps8
  go_wp2_with fail
  refine (eqOpt B a b c a' b' c' r q s cap dap eap cap' dap' eap' P Q S P' Q' S' n f o _ (Nat.le_trans hB BL.out.size) (H1.out.below (BL.out.mono hB)) (H2.out.below (BL.out.mono hB)) (H3.out.below (BL.out.mono hB)) (G1.out.below (BL.out.mono hB)) (G2.out.below (BL.out.mono hB)) (G3.out.below (BL.out.mono hB)) E1.out E2.out E3.out hr hq hs).mono ?_
  rintro e W3 ⟨rfl, bb⟩
  replace KA := hide (KA.out.below bb)
  replace KB := hide (KB.out.below bb)
  replace BL := hide (BL.out.trans (bb.mono BL.out.size))
  clear bb hW1 hW2
  clear cA0 cA1 cA2 cA3 cA4 cA5 cA6 cA7 cA8 cA9 cA10 cA11 cA12
  clear cB0 cB1 cB2 cB3 cB4 cB5 cB6 cB7 cB8 cB9 cB10 cB11 cB12
  have cA0 : W3.cell? ⟨w.heap.size, 0, none⟩ = some (.string t) := KA.out.2 0 (by show 0 < 13; omega)
  have cA1 : W3.cell? ⟨w.heap.size, 1, none⟩ = some (.slice a r cap) := KA.out.2 1 (by show 1 < 13; omega)
  have cA2 : W3.cell? ⟨w.heap.size, 2, none⟩ = some (.slice b q dap) := KA.out.2 2 (by show 2 < 13; omega)
  have cA3 : W3.cell? ⟨w.heap.size, 3, none⟩ = some (.slice c s eap) := KA.out.2 3 (by show 3 < 13; omega)
  have cA4 : W3.cell? ⟨w.heap.size, 4, none⟩ = some (.int .i64 n) := KA.out.2 4 (by show 4 < 13; omega)
  have cA5 : W3.cell? ⟨w.heap.size, 5, none⟩ = some (.int .i64 f) := KA.out.2 5 (by show 5 < 13; omega)
  have cA6 : W3.cell? ⟨w.heap.size, 6, none⟩ = some (.int .i64 o) := KA.out.2 6 (by show 6 < 13; omega)
  have cA7 : W3.cell? ⟨w.heap.size, 7, none⟩ = some (.int .i64 u0) := KA.out.2 7 (by show 7 < 13; omega)
  have cA8 : W3.cell? ⟨w.heap.size, 8, none⟩ = some (.int .i64 u1) := KA.out.2 8 (by show 8 < 13; omega)
  have cA9 : W3.cell? ⟨w.heap.size, 9, none⟩ = some (.int .i64 u2) := KA.out.2 9 (by show 9 < 13; omega)
  have cA10 : W3.cell? ⟨w.heap.size, 10, none⟩ = some (.int .i64 u3) := KA.out.2 10 (by show 10 < 13; omega)
  have cA11 : W3.cell? ⟨w.heap.size, 11, none⟩ = some (.int .i64 u4) := KA.out.2 11 (by show 11 < 13; omega)
  have cA12 : W3.cell? ⟨w.heap.size, 12, none⟩ = some (.int .i64 u5) := KA.out.2 12 (by show 12 < 13; omega)
  have cB0 : W3.cell? ⟨W1.heap.size, 0, none⟩ = some (.string t) := KB.out.2 0 (by show 0 < 13; omega)
  have cB1 : W3.cell? ⟨W1.heap.size, 1, none⟩ = some (.slice a' r cap') := KB.out.2 1 (by show 1 < 13; omega)
  have cB2 : W3.cell? ⟨W1.heap.size, 2, none⟩ = some (.slice b' q dap') := KB.out.2 2 (by show 2 < 13; omega)
  have cB3 : W3.cell? ⟨W1.heap.size, 3, none⟩ = some (.slice c' s eap') := KB.out.2 3 (by show 3 < 13; omega)
  have cB4 : W3.cell? ⟨W1.heap.size, 4, none⟩ = some (.int .i64 n) := KB.out.2 4 (by show 4 < 13; omega)
  have cB5 : W3.cell? ⟨W1.heap.size, 5, none⟩ = some (.int .i64 f) := KB.out.2 5 (by show 5 < 13; omega)
  have cB6 : W3.cell? ⟨W1.heap.size, 6, none⟩ = some (.int .i64 o) := KB.out.2 6 (by show 6 < 13; omega)
  have cB7 : W3.cell? ⟨W1.heap.size, 7, none⟩ = some (.int .i64 u0) := KB.out.2 7 (by show 7 < 13; omega)
  have cB8 : W3.cell? ⟨W1.heap.size, 8, none⟩ = some (.int .i64 u1) := KB.out.2 8 (by show 8 < 13; omega)
  have cB9 : W3.cell? ⟨W1.heap.size, 9, none⟩ = some (.int .i64 u2) := KB.out.2 9 (by show 9 < 13; omega)
  have cB10 : W3.cell? ⟨W1.heap.size, 10, none⟩ = some (.int .i64 u3) := KB.out.2 10 (by show 10 < 13; omega)
  have cB11 : W3.cell? ⟨W1.heap.size, 11, none⟩ = some (.int .i64 u4) := KB.out.2 11 (by show 11 < 13; omega)
  have cB12 : W3.cell? ⟨W1.heap.size, 12, none⟩ = some (.int .i64 u5) := KB.out.2 12 (by show 12 < 13; omega)
  go_wp2_with fail
  refine (eqFeed u0 u1 u2 u3 u4 u5 _).mono ?_
  rintro e W4 ⟨rfl, bb⟩
  replace BL := hide (BL.out.trans (bb.mono BL.out.size))
  clear bb
  clear cA0 cA1 cA2 cA3 cA4 cA5 cA6 cA7 cA8 cA9 cA10 cA11 cA12
  clear cB0 cB1 cB2 cB3 cB4 cB5 cB6 cB7 cB8 cB9 cB10 cB11 cB12
  go_wp2_with fail
  go_ret
  exact ⟨rfl, BL.out⟩
end Vo
end Go.Proofs.Ytmdgkbmifaajgaa
