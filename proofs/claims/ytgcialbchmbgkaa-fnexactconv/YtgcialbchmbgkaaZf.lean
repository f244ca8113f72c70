/- Convolutions of the program. -/
import Derived.Test.YtgcialbchmbgkaaZe
import Derived.Test.YtgcialbchmbgkaaQf
namespace Go.Proofs.Ytgcialbchmbgkaa
namespace Vo
open Go.ChangeShapes Go.WideShapes Go.ChangeAt Go.RowKit Go.Joins Go.Sort
open Vl Vp Vr
set_option linter.unusedVariables false
set_option linter.unusedSimpArgs false
def ConvOk (x k : TV) (st pd dl gr : Int) : Prop := (x.ok = true ∧ x.r = 4) ∧ (k.ok = true ∧ k.r = 4) ∧ CzOk (zf x.D k.D st pd dl gr)
instance convDec (x k : TV) (st pd dl gr : Int) : Decidable (ConvOk x k st pd dl gr) := by unfold ConvOk CzOk; infer_instance
def convP (x k : TV) (st pd dl gr : Int) : PT := if ConvOk x k st pd dl gr then cvP (zf x.D k.D st pd dl gr) x.S k.S else PT.zero
theorem convP_yes {x k : TV} {st pd dl gr : Int} (h : ConvOk x k st pd dl gr) : convP x k st pd dl gr = cvP (zf x.D k.D st pd dl gr) x.S k.S := by unfold convP; rw [if_pos h]
theorem convP_no {x k : TV} {st pd dl gr : Int} (h : ¬ ConvOk x k st pd dl gr) : convP x k st pd dl gr = PT.zero := by unfold convP; rw [if_neg h]
/-- a tensor of four lengths -/
theorem four_len {s : Nat} {D S : Nat → Int} (h : tok 4 s D S = true) : (∀ i, i < 4 → 1 ≤ D i ∧ D i ≤ 4096) ∧ D 0 * D 1 * D 2 * D 3 = (s : Int) ∧ (s : Int) ≤ 4096 := by
  obtain ⟨d, hs, _⟩ := tok_split h
  have hp : szR D 4 = pr D 4 ∧ szR D 4 ≤ 4096 := by
    rcases szR_cases D 4 with q | q
    · have := (dok_iff.1 d).2; omega
    · exact ⟨q.2.1, q.2.2.2⟩
  have h2 : pr D 4 = D 0 * D 1 * D 2 * D 3 := by show 1 * D 0 * D 1 * D 2 * D 3 = _; rw [Int.one_mul]
  exact ⟨fun i hi => dok_len d hi, by rw [← h2, ← hp.1]; exact hs, by omega⟩
theorem zf_pos {x k : TV} {st pd dl gr : Int} (hx : tok 4 x.s x.D x.S = true) (hk : tok 4 k.s k.D k.S = true) : ∀ i, i < 8 → 1 ≤ zf x.D k.D st pd dl gr i ∧ zf x.D k.D st pd dl gr i ≤ 4096 := by
  intro i hi
  unfold zf
  by_cases h : i < 4
  · rw [if_pos h]; exact (four_len hx).1 i h
  · rw [if_neg h, if_pos hi]; exact (four_len hk).1 (i - 4) (by omega)
/-- what the operations of a region leave that lays a convolution into a variable -/
def Cv14 (B : Nat) (v : Value) (wx : World) : Prop := ∃ p, v = .pointer (some ⟨p, 0, none⟩) ∧ B ≤ p ∧ p < wx.heap.size ∧ ((∀ i, i < 12 → wx.cell? ⟨p, i, none⟩ = some (.int .i64 0)) ∧ wx.cell? ⟨p, 12, none⟩ = some (.slice none 0 0) ∧ wx.cell? ⟨p, 13, none⟩ = some (.slice none 0 0)) ∧ Free wx p
theorem Cv14.below {B : Nat} {v : Value} {w1 w2 : World} (h : Cv14 B v w1) (hb : Below w1.heap.size w1 w2) : Cv14 B v w2 := by
  obtain ⟨p, e, hB, hp, q, f⟩ := h
  have c : ∀ i, w2.cell? ⟨p, i, none⟩ = w1.cell? ⟨p, i, none⟩ := fun i => hb.cell (p := ⟨p, i, none⟩) hp
  exact ⟨p, e, hB, Nat.lt_of_lt_of_le hp hb.size, ⟨fun i hi => (c i).trans (q.1 i hi), (c 12).trans q.2.1, (c 13).trans q.2.2⟩, f.below hb hp⟩
/-- so many cells of a block, one behind the other -/
def sets (p : Nat) (v : Nat → Value) : Nat → World → World
  | 0, w => w
  | n + 1, w => (sets p v n w).setCell ⟨p, n, none⟩ (v n)
theorem sets_kept (p : Nat) (v : Nat → Value) (n : Nat) (w : World) : Kept (· = p) w (sets p v n w) := by
  induction n with
  | zero => exact Kept.of_below (Below.refl _ _)
  | succ n ih => exact ih.trans (Kept.setCell _ ⟨p, n, none⟩ _)
theorem sets_other (p : Nat) (v : Nat → Value) (n : Nat) (w : World) (i : Nat) (hi : n ≤ i) : (sets p v n w).cell? ⟨p, i, none⟩ = w.cell? ⟨p, i, none⟩ := by
  induction n with
  | zero => rfl
  | succ n ih =>
    show ((sets p v n w).setCell ⟨p, n, none⟩ (v n)).cell? ⟨p, i, none⟩ = _
    rw [World.cell?_setCell_other _ _ _ _ (by intro e; injection e with _ e; omega)]
    exact ih (by omega)
theorem sets_cell (p : Nat) (v : Nat → Value) (n m : Nat) (w : World) (h : ∀ i, i < m → ∃ u, w.cell? ⟨p, i, none⟩ = some u) (hn : n ≤ m) (i : Nat) (hi : i < n) : (sets p v n w).cell? ⟨p, i, none⟩ = some (v i) := by
  induction n with
  | zero => omega
  | succ n ih =>
    show ((sets p v n w).setCell ⟨p, n, none⟩ (v n)).cell? ⟨p, i, none⟩ = _
    by_cases e : i = n
    · subst e
      obtain ⟨u, hu⟩ := h i (by omega)
      exact World.cell?_setCell_same _ _ _ (u := u) ((sets_other p v i w i (Nat.le_refl _)).trans hu)
    · rw [World.cell?_setCell_other _ _ _ _ (by intro e'; injection e' with _ e'; omega)]
      exact ih (by omega) (by omega)
theorem runLoadTI {o : Oper} {A : Act} {w : World} {x : Operand} {b : Nat} {v0 v1 : Value} (ho : o.op = .load 26 x) (hx : A.eval x = .pointer (some ⟨b, 0, none⟩)) (h : Bx w b v0 v1) : (execOp A.eval o).run Try.prog w = .ok (.value (.agg #[v0, v1])) w := by
  obtain ⟨h0, h1⟩ := h
  unfold execOp
  rw [ho]
  simp only [hx]
  go_simp
theorem runField1 {o : Oper} {A : Act} {w : World} {x : Operand} {b : Nat} {v0 v1 : Value} (ho : o.op = .fieldAddr 26 x 1) (hx : A.eval x = .pointer (some ⟨b, 0, none⟩)) : (execOp A.eval o).run Try.prog w = .ok (.value (.pointer (some ⟨b, 1, none⟩))) w := by
  unfold execOp
  rw [ho]
  simp only [hx]
  go_simp
theorem runLoadS {o : Oper} {A : Act} {w : World} {x : Operand} {b : Nat} {v0 v1 : Value} (ho : o.op = .load 22 x) (hx : A.eval x = .pointer (some ⟨b, 1, none⟩)) (h : Bx w b v0 v1) : (execOp A.eval o).run Try.prog w = .ok (.value v1) w := by
  obtain ⟨h0, h1⟩ := h
  unfold execOp
  rw [ho]
  simp only [hx]
  go_simp
theorem runAlloc14 {o : Oper} {A : Act} {w : World} (ho : o.op = .alloc 61) : (execOp A.eval o).run Try.prog w = .ok (.value (.pointer (some ⟨w.heap.size, 0, none⟩))) (w.alloc (.cells #[.int .i64 0, .int .i64 0, .int .i64 0, .int .i64 0, .int .i64 0, .int .i64 0, .int .i64 0, .int .i64 0, .int .i64 0, .int .i64 0, .int .i64 0, .int .i64 0, .slice none 0 0, .slice none 0 0] 61)) := by
  unfold execOp
  rw [ho]
  go_simp
theorem runBuild14 {o : Oper} {A : Act} {w : World} {z0 z1 z2 z3 z4 z5 z6 z7 z8 z9 za zb : Int} {s1 s2 : Value} {x1 x2 x3 : Operand} {a1 a2 : Option Addr} {n1 c1 n2 c2 : Nat} (ho : o.op = .build 61 #[(0, x1), (1, x2), (2, x3)]) (h1 : A.eval x1 = .agg #[.int .i64 z0, .int .i64 z1, .int .i64 z2, .int .i64 z3, .int .i64 z4, .int .i64 z5, .int .i64 z6, .int .i64 z7, .int .i64 z8, .int .i64 z9, .int .i64 za, .int .i64 zb]) (h2 : A.eval x2 = .slice a1 n1 c1) (h3 : A.eval x3 = .slice a2 n2 c2) : (execOp A.eval o).run Try.prog w = .ok (.value (.agg #[.int .i64 z0, .int .i64 z1, .int .i64 z2, .int .i64 z3, .int .i64 z4, .int .i64 z5, .int .i64 z6, .int .i64 z7, .int .i64 z8, .int .i64 z9, .int .i64 za, .int .i64 zb, .slice a1 n1 c1, .slice a2 n2 c2])) w := by
  unfold execOp
  rw [ho]
  simp only [List.map_toArray, List.map_cons, List.map_nil, h1, h2, h3]
  go_simp
theorem cv14_new (B : Nat) (w : World) (hB : B ≤ w.heap.size) : Below w.heap.size w (w.alloc (.cells #[.int .i64 0, .int .i64 0, .int .i64 0, .int .i64 0, .int .i64 0, .int .i64 0, .int .i64 0, .int .i64 0, .int .i64 0, .int .i64 0, .int .i64 0, .int .i64 0, .slice none 0 0, .slice none 0 0] 61)) ∧ Cv14 B (.pointer (some ⟨w.heap.size, 0, none⟩)) (w.alloc (.cells #[.int .i64 0, .int .i64 0, .int .i64 0, .int .i64 0, .int .i64 0, .int .i64 0, .int .i64 0, .int .i64 0, .int .i64 0, .int .i64 0, .int .i64 0, .int .i64 0, .slice none 0 0, .slice none 0 0] 61)) := by
  refine ⟨(Below.refl _ _).alloc (Nat.le_refl _) _, _, rfl, hB, by simp, ⟨fun i hi => ?_, by simp [go_sem], by simp [go_sem]⟩, free_new w #[.int .i64 0, .int .i64 0, .int .i64 0, .int .i64 0, .int .i64 0, .int .i64 0, .int .i64 0, .int .i64 0, .int .i64 0, .int .i64 0, .int .i64 0, .int .i64 0, .slice none 0 0, .slice none 0 0] 61⟩
  have : i = 0 ∨ i = 1 ∨ i = 2 ∨ i = 3 ∨ i = 4 ∨ i = 5 ∨ i = 6 ∨ i = 7 ∨ i = 8 ∨ i = 9 ∨ i = 10 ∨ i = 11 := by omega
  rcases this with rfl | rfl | rfl | rfl | rfl | rfl | rfl | rfl | rfl | rfl | rfl | rfl <;> simp [go_sem]
set_option maxRecDepth 100000 in
set_option maxHeartbeats 4000000 in
theorem convF (B : Nat) (x k : TV) (st pd dl gr : Int) (w : World) (hB : B ≤ w.heap.size) (hx : x.read B w) (hk : k.read B w) (lx : (x.r : Int) ≤ 1048576 ∧ (x.s : Int) ≤ 1048576) (lk : (k.r : Int) ≤ 1048576 ∧ (k.s : Int) ≤ 1048576) (b1 : bd st) (b2 : bd pd) (b3 : bd dl) (b4' : bd gr) :
    Calls Try.prog 9 #[.agg #[.slice x.a x.r x.cap, .slice x.b x.s x.dap], .agg #[.slice k.a k.r k.cap, .slice k.b k.s k.dap], .int .i64 st, .int .i64 pd, .int .i64 dl, .int .i64 gr] w fun e w' => TensR w.heap.size (convP x k st pd dl gr) w e w' := by
  obtain ⟨W0, hW0⟩ : ∃ W0, ((w.alloc (.cells #[.slice x.a x.r x.cap, .slice x.b x.s x.dap] 26)).alloc (.cells #[.slice k.a k.r k.cap, .slice k.b k.s k.dap] 26)).alloc (.cells #[.slice none 0 0, .slice none 0 0] 26) = W0 := ⟨_, rfl⟩
  have s0 : W0.heap.size = w.heap.size + 1 + 1 + 1 := by rw [← hW0]; simp
  have bl : Below w.heap.size w W0 := by rw [← hW0]; exact (((Below.refl _ _).alloc (Nat.le_refl _) _).alloc (by simp) _).alloc (by simp; omega) _
  have n0 : Bx W0 w.heap.size (.slice x.a x.r x.cap) (.slice x.b x.s x.dap) := by rw [← hW0]; exact ⟨by simp [go_sem], by simp [go_sem]⟩
  have n1 : Bx W0 (w.heap.size + 1) (.slice k.a k.r k.cap) (.slice k.b k.s k.dap) := by rw [← hW0]; exact ⟨by simp [go_sem], by simp [go_sem]⟩
  have m0 : Bx W0 (w.heap.size + 1 + 1) (.slice none 0 0) (.slice none 0 0) := by rw [← hW0]; exact ⟨by simp [go_sem], by simp [go_sem]⟩
  have g0 : Free W0 (w.heap.size + 1 + 1) := by rw [← hW0]; intro i; simp [go_sem]
  have NO := hide (fun (hz : ¬ ConvOk x k st pd dl gr) (w2 : World) (hb : Below w.heap.size w w2) => show TensR w.heap.size (convP x k st pd dl gr) w (.returned (.agg #[.slice none 0 0, .slice none 0 0])) w2 by rw [convP_no hz]; exact tensR_zero hb)
  have ALL := hide (fun (W : World) (hb : Below W0.heap.size W0 W) => show (Bx W w.heap.size (.slice x.a x.r x.cap) (.slice x.b x.s x.dap) ∧ Bx W (w.heap.size + 1) (.slice k.a k.r k.cap) (.slice k.b k.s k.dap)) ∧ (Bx W (w.heap.size + 1 + 1) (.slice none 0 0) (.slice none 0 0) ∧ Free W (w.heap.size + 1 + 1)) ∧ (x.read B W ∧ k.read B W) ∧ Below w.heap.size w W from
    ⟨⟨n0.below hb (by omega), n1.below hb (by omega)⟩, ⟨m0.below hb (by omega), g0.below hb (by omega)⟩, ⟨(hx.below (bl.mono hB)).below (hb.mono (by omega)), (hk.below (bl.mono hB)).below (hb.mono (by omega))⟩, bl.trans (hb.mono bl.size)⟩)
  obtain ⟨x0, x1⟩ := n0
  have C1 := hide (tensorOk B x.a x.b x.r x.s x.cap x.dap x.D x.S W0 (by omega) (hx.below (bl.mono hB)).1 (hx.below (bl.mono hB)).2 lx.1 lx.2)
  have S0 := hide s0
  clear n1 m0 g0 bl hx hk s0
  go_enter Try.func9, Try.ntmps9
  go_wp2_with fail
  refine C1.out.mono ?_
  clear hW0 C1 x0 x1
  rintro e w1 ⟨rfl, bw1⟩
  have B1 := hide bw1
  clear bw1
  obtain ⟨⟨⟨x0, x1⟩, ⟨k0, k1⟩⟩, ⟨⟨y0, y1⟩, gg⟩, ⟨rx, rk⟩, bb⟩ := ALL.out w1 B1.out
  have BB := hide bb
  unfold Free at gg
  cases tx : tok x.r x.s x.D x.S with
  | false =>
    have NN := hide (show ¬ ConvOk x k st pd dl gr from fun c => by have := c.1.1; unfold TV.ok at this; rw [tx] at this; exact absurd this (by decide))
    clear rx rk bb
    go_wp2_with fail
    exact bodyPost_ret (v := .agg #[.slice none 0 0, .slice none 0 0]) (by simp [results, Try.results9, go_sem, y0, y1]) rfl (NO.out NN.out _ (by
      repeat (refine Below.setCell ?_ (by simp; omega) _)
      exact BB.out))
  | true =>
  have C2 := hide (tensorOk B k.a k.b k.r k.s k.cap k.dap k.D k.S w1 (by have := B1.out.size; have := S0.out; omega) rk.1 rk.2 lk.1 lk.2)
  clear rx rk bb
  go_wp2_with fail
  refine C2.out.mono ?_
  clear C2 x0 x1 k0 k1 y0 y1 gg BB
  rintro e w2 ⟨rfl, bw2⟩
  have B2 := hide (B1.out.trans (bw2.mono B1.out.size))
  clear bw2 B1
  obtain ⟨⟨⟨x0, x1⟩, ⟨k0, k1⟩⟩, ⟨⟨y0, y1⟩, gg⟩, ⟨rx, rk⟩, bb⟩ := ALL.out w2 B2.out
  have BB := hide bb
  have RX := hide rx
  have RK := hide rk
  unfold Free at gg
  clear rx rk bb
  cases tk : tok k.r k.s k.D k.S with
  | false =>
    have NN := hide (show ¬ ConvOk x k st pd dl gr from fun c => by have := c.2.1.1; unfold TV.ok at this; rw [tk] at this; exact absurd this (by decide))
    go_wp2_with fail
    exact bodyPost_ret (v := .agg #[.slice none 0 0, .slice none 0 0]) (by simp [results, Try.results9, go_sem, y0, y1]) rfl (NO.out NN.out _ (by
      repeat (refine Below.setCell ?_ (by simp; omega) _)
      exact BB.out))
  | true =>
  by_cases x4 : x.r = 4
  rotate_left
  · have x4' : ((x.r : Int) != 4) = true := bne_iff_ne.2 (by omega)
    have NN := hide (show ¬ ConvOk x k st pd dl gr from fun c => x4 c.1.2)
    clear x4
    go_wp2_with fail
    exact bodyPost_ret (v := .agg #[.slice none 0 0, .slice none 0 0]) (by simp [results, Try.results9, go_sem, y0, y1]) rfl (NO.out NN.out _ (by
      repeat (refine Below.setCell ?_ (by simp; omega) _)
      exact BB.out))
  have x4' : ((x.r : Int) != 4) = false := by rw [x4]; rfl
  by_cases k4 : k.r = 4
  rotate_left
  · have k4' : ((k.r : Int) != 4) = true := bne_iff_ne.2 (by omega)
    have NN := hide (show ¬ ConvOk x k st pd dl gr from fun c => k4 c.2.1.2)
    clear x4 k4
    go_wp2_with fail
    exact bodyPost_ret (v := .agg #[.slice none 0 0, .slice none 0 0]) (by simp [results, Try.results9, go_sem, y0, y1]) rfl (NO.out NN.out _ (by
      repeat (refine Below.setCell ?_ (by simp; omega) _)
      exact BB.out))
  have k4' : ((k.r : Int) != 4) = false := by rw [k4]; rfl
  have X4 := hide x4
  have K4 := hide k4
  have TX := hide tx
  have TK := hide tk
  clear x4 k4 tx tk
  have zs := S0.out
  have HB2 := hide (show B ≤ w2.heap.size by have := B2.out.size; omega)
  have LD := hide (fun (W : World) (hb : Below w2.heap.size w2 W) => ALL.out W (B2.out.trans (hb.mono B2.out.size)))
  have CSZ := hide (fun (W : World) (hb : Below w2.heap.size w2 W) => sizesF B x k x.D k.D st pd dl gr W (Nat.le_trans HB2.out hb.size) (LD.out W hb).2.2.1.1 (LD.out W hb).2.2.1.2 X4.out K4.out rfl rfl)
  go_wp2_with fail
  clear x0 x1 k0 k1 y0 y1 gg x4' k4' zs
  refine Qf.facts2 13 (by kernel_rfl) (by kernel_rfl) (by kernel_rfl) (fun i v wx => match i with
    | 0 => v = .agg #[.slice x.a x.r x.cap, .slice x.b x.s x.dap]
    | 1 => v = .agg #[.slice k.a k.r k.cap, .slice k.b k.s k.dap]
    | 2 => v = .int .i64 st
    | 3 => v = .int .i64 pd
    | 4 => v = .int .i64 dl
    | 5 => v = .int .i64 gr
    | 6 => v = .agg #[.int .i64 (x.D 0), .int .i64 (x.D 1), .int .i64 (x.D 2), .int .i64 (x.D 3), .int .i64 (k.D 0), .int .i64 (k.D 1), .int .i64 (k.D 2), .int .i64 (k.D 3), .int .i64 st, .int .i64 pd, .int .i64 dl, .int .i64 gr]
    | 7 => v = .pointer (some ⟨w.heap.size, 1, none⟩)
    | 8 => v = .slice x.b x.s x.dap
    | 9 => v = .pointer (some ⟨w.heap.size + 1, 1, none⟩)
    | 10 => v = .slice k.b k.s k.dap
    | 11 => v = .agg #[.int .i64 (x.D 0), .int .i64 (x.D 1), .int .i64 (x.D 2), .int .i64 (x.D 3), .int .i64 (k.D 0), .int .i64 (k.D 1), .int .i64 (k.D 2), .int .i64 (k.D 3), .int .i64 st, .int .i64 pd, .int .i64 dl, .int .i64 gr, .slice x.b x.s x.dap, .slice k.b k.s k.dap]
    | 12 => Cv14 w2.heap.size v wx
    | _ => True) ?stable ?steps ?rest
  case stable =>
    intro i v w1 w2 h hb
    match i, h with
    | 0, h => exact h
    | 1, h => exact h
    | 2, h => exact h
    | 3, h => exact h
    | 4, h => exact h
    | 5, h => exact h
    | 6, h => exact h
    | 7, h => exact h
    | 8, h => exact h
    | 9, h => exact h
    | 10, h => exact h
    | 11, h => exact h
    | 12, h => exact Cv14.below h hb
    | _ + 13, h => exact h
  case steps =>
    intro i o hi ho s A w1 hb hk hA hO
    match i, hi, ho, hk with
    | 0, _, ho, hk =>
      cases ho
      exact Qf.lands_val _ _ (runLoadTI rfl ((hO 6 (by rfl)).trans rfl) (LD.out w1 hb).1.1) ⟨Below.refl _ _, rfl⟩
    | 1, _, ho, hk =>
      cases ho
      exact Qf.lands_val _ _ (runLoadTI rfl ((hO 7 (by rfl)).trans rfl) (LD.out w1 hb).1.2) ⟨Below.refl _ _, rfl⟩
    | 2, _, ho, hk =>
      cases ho
      exact Qf.lands_move _ rfl _ ((hO 2 (by rfl)).trans rfl) ⟨Below.refl _ _, rfl⟩
    | 3, _, ho, hk =>
      cases ho
      exact Qf.lands_move _ rfl _ ((hO 3 (by rfl)).trans rfl) ⟨Below.refl _ _, rfl⟩
    | 4, _, ho, hk =>
      cases ho
      exact Qf.lands_move _ rfl _ ((hO 4 (by rfl)).trans rfl) ⟨Below.refl _ _, rfl⟩
    | 5, _, ho, hk =>
      cases ho
      exact Qf.lands_move _ rfl _ ((hO 5 (by rfl)).trans rfl) ⟨Below.refl _ _, rfl⟩
    | 6, _, ho, hk =>
      cases ho
      have e0 := hk 0 (by kernel_rfl)
      have e1 := hk 1 (by kernel_rfl)
      have e2 := hk 2 (by kernel_rfl)
      have e3 := hk 3 (by kernel_rfl)
      have e4 := hk 4 (by kernel_rfl)
      have e5 := hk 5 (by kernel_rfl)
      have h0 := hA 0 _ 35 (by decide) rfl rfl (by simp)
      have h1 := hA 1 _ 36 (by decide) rfl rfl (by simp)
      have h2 := hA 2 _ 37 (by decide) rfl rfl (by simp)
      have h3 := hA 3 _ 38 (by decide) rfl rfl (by simp)
      have h4 := hA 4 _ 39 (by decide) rfl rfl (by simp)
      have h5 := hA 5 _ 40 (by decide) rfl rfl (by simp)
      rw [e0] at h0
      rw [e1] at h1
      rw [e2] at h2
      rw [e3] at h3
      rw [e4] at h4
      rw [e5] at h5
      refine Qf.lands_call 39 _ _ rfl (enters_of Try.func39 (by kernel_rfl) rfl) _ (by simp [h0, h1, h2, h3, h4, h5]) ((CSZ.out w1 hb).mono ?_)
      rintro e w2 ⟨rfl, bA⟩
      exact ⟨_, rfl, bA, rfl⟩
    | 7, _, ho, hk =>
      cases ho
      exact Qf.lands_val _ _ (runField1 (v0 := undef) (v1 := undef) rfl ((hO 6 (by rfl)).trans rfl)) ⟨Below.refl _ _, rfl⟩
    | 8, _, ho, hk =>
      cases ho
      have e0 := hk 7 (by kernel_rfl)
      have h0 := hA 7 _ 42 (by decide) rfl rfl (by simp)
      rw [e0] at h0
      exact Qf.lands_val _ _ (runLoadS rfl h0 (LD.out w1 hb).1.1) ⟨Below.refl _ _, rfl⟩
    | 9, _, ho, hk =>
      cases ho
      exact Qf.lands_val _ _ (runField1 (v0 := undef) (v1 := undef) rfl ((hO 7 (by rfl)).trans rfl)) ⟨Below.refl _ _, rfl⟩
    | 10, _, ho, hk =>
      cases ho
      have e0 := hk 9 (by kernel_rfl)
      have h0 := hA 9 _ 44 (by decide) rfl rfl (by simp)
      rw [e0] at h0
      exact Qf.lands_val _ _ (runLoadS rfl h0 (LD.out w1 hb).1.2) ⟨Below.refl _ _, rfl⟩
    | 11, _, ho, hk =>
      cases ho
      have e0 := hk 6 (by kernel_rfl)
      have e1 := hk 8 (by kernel_rfl)
      have e2 := hk 10 (by kernel_rfl)
      have h0 := hA 6 _ 41 (by decide) rfl rfl (by simp)
      have h1 := hA 8 _ 43 (by decide) rfl rfl (by simp)
      have h2 := hA 10 _ 45 (by decide) rfl rfl (by simp)
      rw [e0] at h0
      rw [e1] at h1
      rw [e2] at h2
      exact Qf.lands_val _ _ (runBuild14 (s1 := undef) (s2 := undef) rfl h0 h1 h2) ⟨Below.refl _ _, rfl⟩
    | 12, _, ho, hk =>
      cases ho
      exact Qf.lands_val _ _ (runAlloc14 rfl) (cv14_new _ w1 hb.size)
    | _ + 13, hi, _, _ => exact absurd hi (by omega)
  case rest =>
  intro s w3 hbS hk
  have e0 : s 0 = .agg #[.slice x.a x.r x.cap, .slice x.b x.s x.dap] := hk 0 (by decide)
  have e1 : s 1 = .agg #[.slice k.a k.r k.cap, .slice k.b k.s k.dap] := hk 1 (by decide)
  have e2 : s 2 = .int .i64 st := hk 2 (by decide)
  have e3 : s 3 = .int .i64 pd := hk 3 (by decide)
  have e4 : s 4 = .int .i64 dl := hk 4 (by decide)
  have e5 : s 5 = .int .i64 gr := hk 5 (by decide)
  have e6 : s 6 = .agg #[.int .i64 (x.D 0), .int .i64 (x.D 1), .int .i64 (x.D 2), .int .i64 (x.D 3), .int .i64 (k.D 0), .int .i64 (k.D 1), .int .i64 (k.D 2), .int .i64 (k.D 3), .int .i64 st, .int .i64 pd, .int .i64 dl, .int .i64 gr] := hk 6 (by decide)
  have e7 : s 7 = .pointer (some ⟨w.heap.size, 1, none⟩) := hk 7 (by decide)
  have e8 : s 8 = .slice x.b x.s x.dap := hk 8 (by decide)
  have e9 : s 9 = .pointer (some ⟨w.heap.size + 1, 1, none⟩) := hk 9 (by decide)
  have e10 : s 10 = .slice k.b k.s k.dap := hk 10 (by decide)
  have e11 : s 11 = .agg #[.int .i64 (x.D 0), .int .i64 (x.D 1), .int .i64 (x.D 2), .int .i64 (x.D 3), .int .i64 (k.D 0), .int .i64 (k.D 1), .int .i64 (k.D 2), .int .i64 (k.D 3), .int .i64 st, .int .i64 pd, .int .i64 dl, .int .i64 gr, .slice x.b x.s x.dap, .slice k.b k.s k.dap] := hk 11 (by decide)
  obtain ⟨p, e12, lp, hp, ⟨cz, cz12, cz13⟩, fz⟩ := hk 12 (by decide)
  simp only [List.take_succ_cons, List.take_zero, List.drop_succ_cons, List.drop_zero, Qf.lay, Qf.all1, if_true, e0, e1, e2, e3, e4, e5, e6, e7, e8, e9, e10, e11, e12]
  have B3 := hide hbS
  have FZ := hide fz
  unfold Free at fz
  clear hk e0 e1 e2 e3 e4 e5 e6 e7 e8 e9 e10 e11 e12 hbS
  obtain ⟨W4, hW4⟩ : ∃ W4, ((((((((((((((w3.setCell ⟨p, 0, none⟩ (.int .i64 (x.D 0))).setCell ⟨p, 1, none⟩ (.int .i64 (x.D 1))).setCell ⟨p, 2, none⟩ (.int .i64 (x.D 2))).setCell ⟨p, 3, none⟩ (.int .i64 (x.D 3))).setCell ⟨p, 4, none⟩ (.int .i64 (k.D 0))).setCell ⟨p, 5, none⟩ (.int .i64 (k.D 1))).setCell ⟨p, 6, none⟩ (.int .i64 (k.D 2))).setCell ⟨p, 7, none⟩ (.int .i64 (k.D 3))).setCell ⟨p, 8, none⟩ (.int .i64 st)).setCell ⟨p, 9, none⟩ (.int .i64 pd)).setCell ⟨p, 10, none⟩ (.int .i64 dl)).setCell ⟨p, 11, none⟩ (.int .i64 gr)).setCell ⟨p, 12, none⟩ (.slice x.b x.s x.dap)).setCell ⟨p, 13, none⟩ (.slice k.b k.s k.dap)) = W4 := ⟨_, rfl⟩
  have eS : sets p (fun i => #[.int .i64 (x.D 0), .int .i64 (x.D 1), .int .i64 (x.D 2), .int .i64 (x.D 3), .int .i64 (k.D 0), .int .i64 (k.D 1), .int .i64 (k.D 2), .int .i64 (k.D 3), .int .i64 st, .int .i64 pd, .int .i64 dl, .int .i64 gr, .slice x.b x.s x.dap, .slice k.b k.s k.dap].getD i undef) 14 w3 = W4 := hW4
  have kp : Kept (· = p) w3 W4 := by rw [← eS]; exact sets_kept _ _ _ _
  have qa : ∀ i, i < 14 → W4.cell? ⟨p, i, none⟩ = some (#[.int .i64 (x.D 0), .int .i64 (x.D 1), .int .i64 (x.D 2), .int .i64 (x.D 3), .int .i64 (k.D 0), .int .i64 (k.D 1), .int .i64 (k.D 2), .int .i64 (k.D 3), .int .i64 st, .int .i64 pd, .int .i64 dl, .int .i64 gr, .slice x.b x.s x.dap, .slice k.b k.s k.dap].getD i undef) := fun i hi => by
    rw [← eS]
    exact sets_cell p _ 14 14 w3 (fun i hi => by
      by_cases h : i < 12
      · exact ⟨_, cz i h⟩
      · have : i = 12 ∨ i = 13 := by omega
        rcases this with rfl | rfl
        · exact ⟨_, cz12⟩
        · exact ⟨_, cz13⟩) (Nat.le_refl _) i hi
  have q0 : W4.cell? ⟨p, 0, none⟩ = some (.int .i64 (x.D 0)) := qa 0 (by decide)
  have q1 : W4.cell? ⟨p, 1, none⟩ = some (.int .i64 (x.D 1)) := qa 1 (by decide)
  have q2 : W4.cell? ⟨p, 2, none⟩ = some (.int .i64 (x.D 2)) := qa 2 (by decide)
  have q3 : W4.cell? ⟨p, 3, none⟩ = some (.int .i64 (x.D 3)) := qa 3 (by decide)
  have q4 : W4.cell? ⟨p, 4, none⟩ = some (.int .i64 (k.D 0)) := qa 4 (by decide)
  have q5 : W4.cell? ⟨p, 5, none⟩ = some (.int .i64 (k.D 1)) := qa 5 (by decide)
  have q6 : W4.cell? ⟨p, 6, none⟩ = some (.int .i64 (k.D 2)) := qa 6 (by decide)
  have q7 : W4.cell? ⟨p, 7, none⟩ = some (.int .i64 (k.D 3)) := qa 7 (by decide)
  have q8 : W4.cell? ⟨p, 8, none⟩ = some (.int .i64 st) := qa 8 (by decide)
  have q9 : W4.cell? ⟨p, 9, none⟩ = some (.int .i64 pd) := qa 9 (by decide)
  have q10 : W4.cell? ⟨p, 10, none⟩ = some (.int .i64 dl) := qa 10 (by decide)
  have q11 : W4.cell? ⟨p, 11, none⟩ = some (.int .i64 gr) := qa 11 (by decide)
  have q12 : W4.cell? ⟨p, 12, none⟩ = some (.slice x.b x.s x.dap) := qa 12 (by decide)
  have q13 : W4.cell? ⟨p, 13, none⟩ = some (.slice k.b k.s k.dap) := qa 13 (by decide)
  clear eS qa
  have zs := S0.out
  have l3 := B3.out.size
  have l2 := B2.out.size
  have lp' : w.heap.size + 1 + 1 + 1 ≤ p := by omega
  have b4 : Below W0.heap.size W0 W4 := (B2.out.trans (B3.out.mono (by omega))).trans (kp.below (by omega) (fun j e => by have e : j = p := e; omega))
  have p4 : p < W4.heap.size := by have := kp.size; omega
  have HP := hide (zf_pos (st := st) (pd := pd) (dl := dl) (gr := gr) (x := x) (k := k) (by have := TX.out; rwa [X4.out] at this) (by have := TK.out; rwa [K4.out] at this))
  obtain ⟨r, hr⟩ : ∃ r : Bool, r = true ↔ CzOk (zf x.D k.D st pd dl gr) := by
    by_cases c : CzOk (zf x.D k.D st pd dl gr)
    · exact ⟨true, by simp [c]⟩
    · exact ⟨false, by simp [c]⟩
  have CO := hide (show Calls Try.prog 40 #[.agg #[.int .i64 (x.D 0), .int .i64 (x.D 1), .int .i64 (x.D 2), .int .i64 (x.D 3), .int .i64 (k.D 0), .int .i64 (k.D 1), .int .i64 (k.D 2), .int .i64 (k.D 3), .int .i64 st, .int .i64 pd, .int .i64 dl, .int .i64 gr]] W4 (fun e w' => e = .returned (.bool r) ∧ Below W4.heap.size W4 w') from okF (zf x.D k.D st pd dl gr) W4 HP.out b1 b2 b3 b4' r hr)
  have B4 := hide b4
  have QC := hide (fun (W : World) (hb : Below W4.heap.size W4 W) (i : Nat) => hb.cell (p := ⟨p, i, none⟩) p4)
  clear b4 kp
  go_wp2_with fail
  refine CO.out.mono ?_
  clear hW4 cz cz12 cz13 fz CO
  rintro e w5 ⟨rfl, bw5⟩
  have QC5 := QC.out w5 bw5
  have B5 := hide (B4.out.trans (bw5.mono B4.out.size))
  obtain ⟨_, ⟨⟨y0, y1⟩, gg⟩, ⟨rx, rk⟩, bb⟩ := ALL.out w5 B5.out
  unfold Free at gg
  have BB5 := hide bb
  cases r with
  | false =>
    have NN := hide (show ¬ ConvOk x k st pd dl gr from fun c => by have := hr.2 c.2.2; exact absurd this (by decide))
    clear rx rk bb bw5 hr
    go_wp2_with fail
    exact bodyPost_ret (v := .agg #[.slice none 0 0, .slice none 0 0]) (by simp [results, Try.results9, go_sem, y0, y1]) rfl (NO.out NN.out _ (by
      repeat (refine Below.setCell ?_ (by simp; omega) _)
      exact BB5.out))
  | true =>
  have ok := hr.1 rfl
  have h4x := four_len (show tok 4 x.s x.D x.S = true by have := TX.out; rwa [X4.out] at this)
  have h4k := four_len (show tok 4 k.s k.D k.S = true by have := TK.out; rwa [K4.out] at this)
  have CV := hide (show Calls Try.prog 41 #[.agg #[.int .i64 (x.D 0), .int .i64 (x.D 1), .int .i64 (x.D 2), .int .i64 (x.D 3), .int .i64 (k.D 0), .int .i64 (k.D 1), .int .i64 (k.D 2), .int .i64 (k.D 3), .int .i64 st, .int .i64 pd, .int .i64 dl, .int .i64 gr, .slice x.b x.s x.dap, .slice k.b k.s k.dap]] w5 (fun e w' => TensR w5.heap.size (cvP (zf x.D k.D st pd dl gr) x.S k.S) w5 e w') from
    convolvedF B (zf x.D k.D st pd dl gr) x.b k.b x.s x.dap k.s k.dap x.S k.S w5 (by have := B5.out.size; omega) rx.2 rk.2 ok HP.out h4x.2.2 h4k.2.2 h4x.2.1 (by have := h4k.2.1; rw [Int.mul_assoc, Int.mul_assoc] at this; show k.D 0 * (k.D 1 * k.D 2 * k.D 3) = _; rw [Int.mul_assoc]; exact this))
  have EZ := hide (convP_yes (x := x) (k := k) (st := st) (pd := pd) (dl := dl) (gr := gr) ⟨⟨TX.out, X4.out⟩, ⟨TK.out, K4.out⟩, ok⟩)
  have r0 := (QC5 0).trans q0
  have r1 := (QC5 1).trans q1
  have r2 := (QC5 2).trans q2
  have r3 := (QC5 3).trans q3
  have r4 := (QC5 4).trans q4
  have r5 := (QC5 5).trans q5
  have r6 := (QC5 6).trans q6
  have r7 := (QC5 7).trans q7
  have r8 := (QC5 8).trans q8
  have r9 := (QC5 9).trans q9
  have r10 := (QC5 10).trans q10
  have r11 := (QC5 11).trans q11
  have r12 := (QC5 12).trans q12
  have r13 := (QC5 13).trans q13
  clear QC5 rx rk bb bw5 hr ok h4x h4k q0 q1 q2 q3 q4 q5 q6 q7 q8 q9 q10 q11 q12 q13
  go_wp2_with fail
  refine CV.out.mono ?_
  rintro e w6 ⟨ta, tb, tc, td, rfl, qs, b6⟩
  have l5 := B5.out.size
  have z0 := (b6.cell (p := ⟨w.heap.size + 1 + 1, 0, none⟩) (by show w.heap.size + 1 + 1 < w5.heap.size; omega)).trans y0
  have z1 := (b6.cell (p := ⟨w.heap.size + 1 + 1, 1, none⟩) (by show w.heap.size + 1 + 1 < w5.heap.size; omega)).trans y1
  have gz := fun i => (b6.frozen (p := ⟨w.heap.size + 1 + 1, i, none⟩) (by show w.heap.size + 1 + 1 < w5.heap.size; omega)).trans (gg i)
  have B6 := hide (BB5.out.trans (b6.mono (by omega)))
  have QS := hide qs
  clear y0 y1 gg qs b6 r0 r1 r2 r3 r4 r5 r6 r7 r8 r9 r10 r11 r12 r13
  go_wp2_with fail
  refine bodyPost_ret (v := .agg #[.slice ta (cvP (zf x.D k.D st pd dl gr) x.S k.S).r tc, .slice tb (cvP (zf x.D k.D st pd dl gr) x.S k.S).s td]) (by simp [results, Try.results9, go_sem, z0, z1]) rfl ?_
  rw [EZ.out]
  exact tens_end (v := cvP (zf x.D k.D st pd dl gr) x.S k.S) (P := w.heap.size + 1 + 1) (B := w5.heap.size) QS.out (by omega) (by omega) B6.out
end Vo
end Go.Proofs.Ytgcialbchmbgkaa
