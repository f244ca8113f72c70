/- slices.Repeat of one number. -/
import Derived.Test.YtgmjijjckedmcaaShelf
import Derived.Test.YtgmjijjckedmcaaQh
import Derived.Test.YtgmjijjckedmcaaVl
import Derived.Test.YtgmjijjckedmcaaVn
import Derived.Laws.IdiomCopy
namespace Go.Proofs.Ytgmjijjckedmcaa
namespace Vo
open Go.ChangeShapes Go.WideShapes Go.ChangeAt Go.RowKit Go.Joins Go.Sort
open Vl
set_option linter.unusedVariables false
set_option linter.unusedSimpArgs false
theorem infoSize : (Try.prog.info? 3).map (·.size) = some 1 := by kernel_rfl
theorem keptCells' (g : Nat) : ∀ (vs : List Value) (o : Nat) (w : World), Kept (· = g) w (w.setCells g o vs)
  | [], _, w => Kept.refl _ w
  | v :: vs, o, w => (Kept.setCell w ⟨g, o, none⟩ v).trans (keptCells' g vs (o + 1) _)
theorem rw_fill {w : World} {g n o k : Nat} {D : Nat → Int} {z : Int} (h : Rw w g n D) (hk : o + k ≤ n) (hz : bd z) : Rw (w.setCells g o (List.replicate k (.int .i64 z))) g n (fun t => if o ≤ t ∧ t < o + k then z else D t) := fun t ht => by
  obtain ⟨h1, h2, h3⟩ := h t ht
  dsimp only
  refine ⟨?_, by rw [World.frozen?_setCells]; exact h2, by split <;> assumption⟩
  by_cases c : o ≤ t ∧ t < o + k
  · rw [if_pos c]
    have q := World.cell?_setCells_in g (List.replicate k (.int .i64 z)) o w (fun j hj => by rw [List.length_replicate] at hj; rw [(h (o + j) (by omega)).1]; rfl) (t - o) (by rw [List.length_replicate]; omega)
    rw [show o + (t - o) = t by omega] at q
    rw [q]
    simp
  · rw [if_neg c, World.cell?_setCells_out g _ o w ⟨g, t, none⟩ (fun _ _ => by rw [List.length_replicate]; show t < o ∨ o + k ≤ t; omega)]
    exact h1
/-- a row of which the first q are z -/
def Fil (w : World) (g n : Nat) (z : Int) (q : Nat) : Prop := g < w.heap.size ∧ ∃ D, Rw w g n D ∧ ∀ t, t < q → D t = z
/-- nothing below the row turns, and what is z stays so -/
def FilR (g n : Nat) (z : Int) (a b : World) : Prop := Below g a b ∧ ∀ q, Fil a g n z q → Fil b g n z q
theorem FilR.refl (g n : Nat) (z : Int) (a : World) : FilR g n z a a := ⟨Below.refl _ _, fun _ h => h⟩
theorem FilR.trans {g n : Nat} {z : Int} {a b c : World} (h : FilR g n z a b) (k : FilR g n z b c) : FilR g n z a c := ⟨h.1.trans k.1, fun q hq => k.2 q (h.2 q hq)⟩
theorem FilR.drew (g n : Nat) (z : Int) (a : World) : FilR g n z a { a with drawn := a.drawn + 1 } :=
  ⟨(Below.refl _ _).drew, fun q ⟨l, D, hr, hd⟩ => ⟨l, D, hr.below ((Below.refl a.heap.size a).drew) l, hd⟩⟩
theorem FilR.fill {g n o k : Nat} {z : Int} {a : World} {D : Nat → Int} (h : Rw a g n D) (hk : o + k ≤ n) (hz : bd z) (hg : g < a.heap.size) : FilR g n z a (a.setCells g o (List.replicate k (.int .i64 z))) := by
  refine ⟨(keptCells' g _ o a).below (Nat.le_of_lt hg) (fun q e => by have e : q = g := e; omega), fun q ⟨l, D', hr, hd⟩ => ⟨Nat.lt_of_lt_of_le l (keptCells' g _ o a).size, _, rw_fill hr hk hz, fun t ht => ?_⟩⟩
  split
  · rfl
  · exact hd t ht
section
variable {o : Oper} {A : Act} {w : World} {x y : Operand} {b m n c : Nat}
theorem runCutLo (ho : o.op = .slice 22 x (some y) none none) (hx : A.eval x = .slice (some ⟨b, 0, none⟩) n n) (hy : A.eval y = .int .i64 (m : Int)) (hm : m < n) : (execOp A.eval o).run Try.prog w = .ok (.value (.slice (some ⟨b, m, none⟩) (n - m) (n - m))) w := by
  have h1 : (m : Int) ≤ n := by omega
  have h2 : ¬ n = m := by omega
  unfold execOp
  rw [ho]
  simp only [hx, hy, Option.map_some, Option.map_none]
  go_simp
theorem runCutHi (ho : o.op = .slice 22 x none (some y) none) (hx : A.eval x = .slice (some ⟨b, 0, none⟩) n n) (hy : A.eval y = .int .i64 (m : Int)) (hm : m < n) : (execOp A.eval o).run Try.prog w = .ok (.value (.slice (some ⟨b, 0, none⟩) m n)) w := by
  have h1 : (m : Int) ≤ n := by omega
  unfold execOp
  rw [ho]
  simp only [hx, hy, Option.map_some, Option.map_none]
  go_simp
theorem runCopyI {v1 v2 u : Value} {w' : World} (ho : o.op = .call { callee := .builtin .copy, args := #[x, y], argTypes := #[22, 22] }) (hx : A.eval x = v1) (hy : A.eval y = v2) (hr : ∀ ty, (Builtin.copy_ #[22, 22] ty #[v1, v2]).run Try.prog w = .ok u w') : (execOp A.eval o).run Try.prog w = .ok (.value u) w' := by
  unfold execOp
  simp [ho, resolve, invoke, builtin, hx, hy, hr, Result.andThen]
end
set_option maxRecDepth 100000 in
set_option maxHeartbeats 4000000 in
theorem repeatF (g0 n : Nat) (z : Int) (w : World) (h : w.cell? ⟨g0, 0, none⟩ = some (.int .i64 z)) (hz : bd z) (hn : (n : Int) ≤ 1048576) :
    Calls Try.prog 70 #[.slice (some ⟨g0, 0, none⟩) 1 1, .int .i64 n] w fun e w' => e = .returned (.slice (some ⟨w.heap.size, 0, none⟩) n n) ∧ Rw w' w.heap.size n (fun _ => z) ∧ w.heap.size < w'.heap.size ∧ Below w.heap.size w w' := by
  have hmk := make_int n (by omega)
  have CM := hide (Try.bits_Mul 1 n (by omega) (by omega) w)
  rw [show 1 * n / 18446744073709551616 = 0 by omega, show 1 * n % 18446744073709551616 = n by omega] at CM
  obtain ⟨W1, hW1⟩ : ∃ W1, w.alloc (.cells (madeCells #[.int .i64 0] n) 3) = W1 := ⟨_, rfl⟩
  have R1 := hide (show Rw W1 w.heap.size n (fun _ => 0) by rw [← hW1]; exact rw_new w n _)
  have bl : Below w.heap.size w W1 := by rw [← hW1]; exact (Below.refl _ _).alloc (Nat.le_refl _) _
  have z1 : w.heap.size < W1.heap.size := by rw [← hW1]; simp
  have BL := hide bl
  have HZ := hide hz
  have lg : g0 < w.heap.size := World.block_lt_of_cell? _ _ h
  have cg := (bl.cell (p := ⟨g0, 0, none⟩) lg).trans h
  have w1 : IntKind.u64.wrap 1 = 1 := by rw [IntKind.wrap_u64]; omega
  have w2 : IntKind.u64.wrap (n : Int) = n := by rw [IntKind.wrap_u64]; omega
  have w3 : IntKind.i64.wrap (n : Int) = n := by rw [IntKind.wrap_i64]; omega
  have n0 : decide ((n : Int) < 0) = false := by rw [decide_eq_false_iff_not]; omega
  have n9 : decide ((9223372036854775807 : Int) < (n : Int)) = false := by rw [decide_eq_false_iff_not]; omega
  have n9' : decide (9223372036854775807 < n) = false := by rw [decide_eq_false_iff_not]; omega
  clear hz bl
  obtain ⟨k, hk⟩ : ∃ k, min 1 n = k := ⟨_, rfl⟩
  obtain ⟨W2, hW2⟩ : ∃ W2, W1.setCells w.heap.size 0 (List.replicate k (.int .i64 z)) = W2 := ⟨_, rfl⟩
  have K2 := hide (show Kept (· = w.heap.size) W1 W2 by rw [← hW2]; exact keptCells' _ _ _ _)
  have R2 := hide (show Rw W2 w.heap.size n (fun t => if 0 ≤ t ∧ t < 0 + k then z else 0) by rw [← hW2]; exact rw_fill R1.out (by omega) HZ.out)
  have hcp : ∀ ty, (Builtin.copy_ #[22, 22] ty #[.slice (some ⟨w.heap.size, 0, none⟩) n n, .slice (some ⟨g0, 0, none⟩) 1 1]).run Try.prog W1 = .ok (.int .i64 (k : Int)) W2 := fun ty => by
    rw [← hW2]
    have q := run_copy_cells (P := Try.prog) W1 22 22 ty 3 w.heap.size 0 n n ⟨g0, 0, none⟩ 1 1 (List.replicate k (.int .i64 z)) Try.underlying22 infoSize (by rw [List.length_replicate]; exact hk.symm)
      (fun j v hj => by
        have hj' : j < k := by have := (List.getElem?_eq_some_iff.1 hj).1; simpa using this
        obtain rfl : j = 0 := by omega
        rw [List.getElem?_replicate] at hj
        rw [if_pos hj'] at hj
        cases hj
        rw [Go.WideShapes.add_plain]
        exact cg)
      (fun j hj => by rw [List.length_replicate] at hj; rw [Nat.zero_add, (R1.out j (by omega)).1]; rfl) (fun j hj => by rw [List.length_replicate] at hj; rw [Nat.zero_add]; exact (R1.out j (by omega)).2.1) (fun v hv => by rw [List.eq_of_mem_replicate hv]; rfl)
    rw [List.length_replicate] at q
    exact q
  have kn : k ≤ n := by omega
  have k0 : n = 0 ∨ 0 < k := by omega
  clear cg
  go_enter Try.func70, Try.ntmps70
  go_wp2_with fail
  refine CM.out.mono ?_
  rintro e1 w' ⟨rfl, hw⟩
  have hw := hw.symm
  subst hw
  go_wp2_with fail
  clear hcp hmk hW1 hW2 hk
  go_loopw [8] (fun i wx => ∃ (m : Nat) (D : Nat → Int), m ≤ n ∧ (n = 0 ∨ 0 < m) ∧ i = .int .i64 m ∧ Rw wx w.heap.size n D ∧ (∀ t, t < m → D t = z) ∧ Below w.heap.size w wx ∧ w.heap.size < wx.heap.size) (fun i _ => n - (intOf i).toNat)
  case atStart => exact ⟨k, _, kn, k0, rfl, R2.out, fun t ht => if_pos ⟨Nat.zero_le _, by omega⟩, BL.out.trans (K2.out.below (Nat.le_of_lt z1) (fun q e => by have e : q = w.heap.size := e; omega)), Nat.lt_of_lt_of_le z1 K2.out.size⟩
  case round =>
    obtain ⟨X, rfl⟩ : ∃ X, X = wr := ⟨_, rfl⟩
    obtain ⟨m, D, hm, hm0, rfl, hr, hd, hby, hzX⟩ := hrel
    have HR := hide hr
    have HD := hide hd
    have HBY := hide hby
    clear hr hd hby
    by_cases hlt : m < n
    case neg =>
      obtain rfl : m = n := by omega
      go_wp2_with fail
      go_ret
      exact ⟨rfl, HR.out.same (fun t ht => (HD.out t ht).symm), hzX, HBY.out⟩
    have mI : (m : Int) < n := by omega
    have mI' : (m : Int) ≤ n := by omega
    have m0 : 0 < m := by omega
    have nm1 : ¬ n ≤ m := by omega
    have nm2 : ¬ n - m = 0 := by omega
    have nm3 : ¬ (n - m == 0) = true := by simpa using nm2
    have nm4 : ¬ n = m := by omega
    have nm5 : ¬ m = n := by omega
    obtain ⟨j, hj⟩ : ∃ j, min m (n - m) = j := ⟨_, rfl⟩
    have jr : 0 < j ∧ m + j ≤ n := by omega
    have wm : IntKind.i64.wrap ((m : Int) + j) = ((m + j : Nat) : Int) := by rw [IntKind.wrap_i64]; omega
    have CP := hide (fun (V : World) (ty : TypeId) (D' : Nat → Int) (hrq : Rw V w.heap.size n D') (hd : ∀ t, t < m → D' t = z) => show (Builtin.copy_ #[22, 22] ty #[.slice (some ⟨w.heap.size, m, none⟩) (n - m) (n - m), .slice (some ⟨w.heap.size, 0, none⟩) m n]).run Try.prog V = .ok (.int .i64 (j : Int)) (V.setCells w.heap.size m (List.replicate j (.int .i64 z))) by
      have q := run_copy_cells (P := Try.prog) V 22 22 ty 3 w.heap.size m (n - m) (n - m) ⟨w.heap.size, 0, none⟩ m n (List.replicate j (.int .i64 z)) Try.underlying22 infoSize (by rw [List.length_replicate]; exact hj.symm)
        (fun t v ht => by
          have ht' : t < j := by have := (List.getElem?_eq_some_iff.1 ht).1; simpa using this
          rw [List.getElem?_replicate, if_pos ht'] at ht
          cases ht
          rw [Go.WideShapes.add_plain, Nat.zero_add, (hrq t (by omega)).1, hd t (by omega)])
        (fun t ht => by rw [List.length_replicate] at ht; rw [(hrq (m + t) (by omega)).1]; rfl) (fun t ht => by rw [List.length_replicate] at ht; exact (hrq (m + t) (by omega)).2.1) (fun v hv => by rw [List.eq_of_mem_replicate hv]; rfl)
      rw [List.length_replicate] at q
      exact q)
    clear hj
    go_wp2_with fail
    refine Qh.facts2 (FilR w.heap.size n z) (fun a b c h1 h2 => h1.trans h2) 8 (FilR.drew _ _ _ X) (by kernel_rfl) (by kernel_rfl) (fun i v wx => match i with | 0 => v = .int .i64 (m : Int) | 1 => v = .slice (some ⟨w.heap.size, 0, none⟩) n n | 2 => v = .int .i64 (m : Int) | 3 => v = .slice (some ⟨w.heap.size, m, none⟩) (n - m) (n - m) | 4 => v = .slice (some ⟨w.heap.size, 0, none⟩) n n | 5 => v = .int .i64 (m : Int) | 6 => v = .slice (some ⟨w.heap.size, 0, none⟩) m n | 7 => v = .int .i64 (j : Int) ∧ Fil wx w.heap.size n z (m + j) | _ => True) ?stable ?steps ?rest
    case stable =>
      intro i v w1 w2 h hb
      match i, h with
      | 0, h => exact h
      | 1, h => exact h
      | 2, h => exact h
      | 3, h => exact h
      | 4, h => exact h
      | 5, h => exact h
      | 6, h => exact h
      | 7, h => exact ⟨h.1, hb.2 _ h.2⟩
      | _ + 8, h => exact h
    case steps =>
      intro i o hi ho s A wS hb hk hA hO
      match i, hi, ho, hk with
      | 0, _, ho, hk =>
        cases ho
        exact Qg.landsG_free rfl (Qf.lands_move _ rfl _ ((hO 8 (by rfl)).trans rfl) ⟨FilR.refl _ _ _ _, rfl⟩)
      | 1, _, ho, hk =>
        cases ho
        exact Qg.landsG_free rfl (Qf.lands_move _ rfl _ ((hO 7 (by rfl)).trans rfl) ⟨FilR.refl _ _ _ _, rfl⟩)
      | 2, _, ho, hk =>
        cases ho
        exact Qg.landsG_free rfl (Qf.lands_move _ rfl _ ((hO 8 (by rfl)).trans rfl) ⟨FilR.refl _ _ _ _, rfl⟩)
      | 3, _, ho, hk =>
        cases ho
        have h1 := hA 1 _ 39 (by decide) rfl rfl (by simp)
        have e1 := hk 1 (by kernel_rfl)
        rw [e1] at h1
        have h2 := hA 2 _ 40 (by decide) rfl rfl (by simp)
        have e2 := hk 2 (by kernel_rfl)
        rw [e2] at h2
        exact Qg.landsG_free rfl (Qf.lands_val _ _ (runCutLo rfl h1 h2 (by omega)) ⟨FilR.refl _ _ _ _, rfl⟩)
      | 4, _, ho, hk =>
        cases ho
        exact Qg.landsG_free rfl (Qf.lands_move _ rfl _ ((hO 7 (by rfl)).trans rfl) ⟨FilR.refl _ _ _ _, rfl⟩)
      | 5, _, ho, hk =>
        cases ho
        exact Qg.landsG_free rfl (Qf.lands_move _ rfl _ ((hO 8 (by rfl)).trans rfl) ⟨FilR.refl _ _ _ _, rfl⟩)
      | 6, _, ho, hk =>
        cases ho
        have h1 := hA 4 _ 42 (by decide) rfl rfl (by simp)
        have e1 := hk 4 (by kernel_rfl)
        rw [e1] at h1
        have h2 := hA 5 _ 43 (by decide) rfl rfl (by simp)
        have e2 := hk 5 (by kernel_rfl)
        rw [e2] at h2
        exact Qg.landsG_free rfl (Qf.lands_val _ _ (runCutHi rfl h1 h2 (by omega)) ⟨FilR.refl _ _ _ _, rfl⟩)
      | 7, _, ho, hk =>
        cases ho
        have h1 := hA 3 _ 41 (by decide) rfl rfl (by simp)
        have e1 := hk 3 (by kernel_rfl)
        rw [e1] at h1
        have h2 := hA 6 _ 44 (by decide) rfl rfl (by simp)
        have e2 := hk 6 (by kernel_rfl)
        rw [e2] at h2
        obtain ⟨lS, D', hr', hd'⟩ := hb.2 m ⟨hzX, D, HR.out, HD.out⟩
        refine Qg.landsG_free rfl (Qf.lands_val _ _ (runCopyI rfl h1 h2 (fun ty => CP.out wS ty D' hr' hd')) ⟨FilR.fill hr' (by omega) HZ.out lS, rfl, ?_⟩)
        exact ⟨Nat.lt_of_lt_of_le lS (keptCells' _ _ _ _).size, _, rw_fill hr' (by omega) HZ.out, fun t ht => by
          by_cases c : m ≤ t
          · rw [if_pos ⟨c, by omega⟩]
          · rw [if_neg (fun q => c q.1)]; exact hd' t (by omega)⟩
      | _ + 8, hi, _, _ => exact absurd hi (by omega)
    case rest =>
    intro s Y hbS hk
    have e0 : s 0 = .int .i64 (m : Int) := hk 0 (by decide)
    obtain ⟨e7, lY, D2, hr2, hd2⟩ := hk 7 (by decide)
    simp only [List.take_succ_cons, List.take_zero, List.drop_succ_cons, List.drop_zero, Qf.lay, Qf.all1, if_true, e0, e7]
    simp only [Act.put, List.setIfInBounds_toArray, List.set_cons_succ, List.set_cons_zero]
    have R3 := hide hr2
    have D3 := hide hd2
    have B3 := hide (HBY.out.trans hbS.1)
    clear hk hbS e0 e7 hr2 hd2
    go_wp2_with fail
    go_roundw
    all_goals first
      | (simp only [intOf]; omega)
      | (simp [intOf]; omega)
      | exact ⟨m + j, D2, by omega, .inr (by omega), by go_num, R3.out, D3.out, B3.out, lY⟩
end Vo
end Go.Proofs.Ytgmjijjckedmcaa
