/- Shuffle of the program. -/
import Derived.Test.YtcnopdonnjemmabWj
import Derived.Test.YtcnopdonnjemmabVc
namespace Go.Proofs.Ytcnopdonnjemmab
namespace Wj
open Go.ChangeShapes Go.WideShapes Go.ChangeAt Go.RowKit Go.Joins
open Vl Vo
set_option linter.unusedVariables false
set_option linter.unusedSimpArgs false
theorem rw_ints0 {w : World} {g : Nat} {D : Nat → Int} (h : Rw w g 4096 D) (r : Nat) (hr : r ≤ 4096) : Ints (g + 1) w (some ⟨g, 0, none⟩) r D :=
  .inr ⟨g, 0, rfl, Nat.lt_succ_self g, fun j hj => by rw [Nat.zero_add]; exact ⟨(h j (by omega)).1, (h j (by omega)).2.2⟩⟩
theorem lt_rw {w : World} {g : Nat} {D : Nat → Int} (h : Rw w g 4096 D) : g + 1 ≤ w.heap.size := h.lt (by decide)
/-- what is shuffled -/
def shu (s n : Int) : Nat → Int := shf (n - 1).toNat s (fun i => i)
theorem id_bd : ∀ t, t < 4096 → bd ((fun i : Nat => (i : Int)) t) := fun t ht => by show bd (t : Int); unfold bd; omega
theorem shu_bd {s n : Int} (n1 : n ≤ 4096) : ∀ t, t < 4096 → bd (shu s n t) := shf_bd _ _ _ (by omega) id_bd
set_option maxRecDepth 100000 in
/-- a deck is laid into a variable of its own -/
theorem list_lay {ops : Array Oper} {o1 o2 : Oper} {rest : List Oper} {a : Act} {w : World} {Q : Exit → Act → World → Prop} {x y : Nat} {D : Nat → Int} (q1 : o1.guard = none) (q2 : o2.guard = none) (e1 : o1.op = .alloc 59) (d1 : o1.dst = some x) (d2 : o2.dst = none)
    (e2 : o2.op = .store 59 (.tmp x) (.tmp y)) (h1 : ∀ v, (a.put (some x) v).eval (.tmp x) = v) (h2 : ∀ v, (a.put (some x) v).eval (.tmp y) = .agg (dka D))
    (h : wpList Try.prog ops Q rest ((a.put (some x) (.pointer (some ⟨w.heap.size, 0, none⟩))).put none undef) (w.alloc (.cells (dka D) 59))) : wpList Try.prog ops Q (o1 :: o2 :: rest) a w := by
  refine wpList_plain q1 fun K hK => ?_
  have hz := zeroed w
  have hst := run_storeAt_new (P := Try.prog) w 59 (dka fun _ => 0) (dka D) (by rw [dka_size]; exact sized) (by rw [dka_size, dka_size]) (dka_one D)
  have hnr : (newRow 59 (Value.agg (dka fun _ => 0)).cells).run Try.prog w = .ok ⟨w.heap.size, 0, none⟩ (w.alloc (.cells (dka fun _ => 0) 59)) := rfl
  unfold Oper.wp execOp
  simp only [e1, Instr.alloc, Sem.run_bind, hz, Result.andThen_ok, newVar, Sem.run_pure, hnr, Oper.upon_value, d1]
  refine hK _ _ ?_
  refine wpList_plain q2 fun K' hK' => ?_
  unfold Oper.wp execOp
  simp only [e2, h1, h2, Sem.run_bind, hst, Result.andThen_ok, Sem.run_pure, Oper.upon_skip, d2]
  exact hK' _ _ h
set_option maxRecDepth 100000 in
set_option maxHeartbeats 1000000 in
theorem iShu_yes (s n : Int) (w : World) (hs : bd s) (hn : bd n) (g1 : stOk s = true) (g2 : decide (0 ≤ n ∧ n ≤ 4096) = true) :
    Calls Try.prog 21 #[.int .i64 s, .int .i64 n] w fun e w' => ∃ a c, e = .returned (.slice a n.toNat c) ∧ OwnL w.heap.size w' a n.toNat (shu s n) ∧ Below w.heap.size w w' := by
  have Hs := hide hs
  have Hn := hide hn
  have G1 := hide g1
  have G2 := hide g2
  obtain ⟨n0, n1⟩ := of_decide_eq_true g2
  have hz := zeroed
  have SU := u32_id (of_decide_eq_true g1)
  have BL := hide (Below.refl w.heap.size w)
  clear hs hn g1 g2
  go_enter Try.func21, Try.ntmps21
  go_wp2_with fail
  refine (stateI s true Hs.out G1.out _).mono ?_
  rintro e1 w1 ⟨rfl, q1⟩
  replace BL := hide (BL.out.trans (q1.mono BL.out.size))
  clear q1
  go_wp2_with fail
  refine (inB_one 0 4096 n true _ _ (by decide) Hn.out G2.out rfl).mono ?_
  rintro e1 w2 ⟨rfl, q2⟩
  replace BL := hide (BL.out.trans (q2.mono BL.out.size))
  clear q2
  go_wp2_with fail
  refine (ascendF _).mono ?_
  rintro e1 w3 ⟨rfl, q3⟩
  replace BL := hide (BL.out.trans (q3.mono BL.out.size))
  clear q3
  go_wp2_with fail
  refine (shuffledF (fun i => i) s n _ id_bd n0 n1).mono ?_
  rintro e1 w4 ⟨rfl, q4⟩
  replace BL := hide (BL.out.trans (q4.mono BL.out.size))
  clear q4
  rename_i KK hKK
  dsimp only
  refine hKK _ _ ?_
  refine list_lay rfl rfl rfl rfl rfl rfl (fun _ => rfl) (fun _ => rfl) ?_
  obtain ⟨W5, hW5⟩ : ∃ W5, w4.alloc (.cells (dka (shf (n - 1).toNat s (fun i => i))) 59) = W5 := ⟨_, rfl⟩
  have q5 : Below w4.heap.size w4 W5 := hW5 ▸ (Below.refl _ _).alloc (Nat.le_refl _) _
  have K5 := hide (show Rw W5 w4.heap.size 4096 (shu s n) from hW5 ▸ rw_deck w4 _ _ (shu_bd n1))
  rw [hW5]
  replace BL := hide (BL.out.trans (q5.mono BL.out.size))
  clear hW5 q5
  simp only [Act.put, List.setIfInBounds_toArray, List.set_cons_succ, List.set_cons_zero]
  go_wp2_with fail
  refine (clone (w4.heap.size + 1) _ n.toNat 4096 (shu s n) _ (rw_ints0 K5.out n.toNat (by omega)) (lt_rw K5.out) (by omega) (fun e => by cases e)).mono ?_
  rintro e1 w6 ⟨v, rfl, q6, b6⟩
  obtain ⟨a, c, rfl, o6⟩ := q6.own
  have O6 := hide (o6.mono BL.out.size)
  replace BL := hide (BL.out.trans (b6.mono BL.out.size))
  clear q6 o6 b6
  go_wp2_with fail
  go_ret
  exact ⟨a, c, rfl, O6.out, BL.out⟩
set_option maxHeartbeats 1000000 in
theorem iShu_no1 (s n : Int) (w : World) (hs : bd s) (hn : bd n) (g1 : stOk s = false) :
    Calls Try.prog 21 #[.int .i64 s, .int .i64 n] w fun e w' => ∃ a c, e = .returned (.slice a 0 c) ∧ OwnL w.heap.size w' a 0 (shu s n) ∧ Below w.heap.size w w' := by
  have Hs := hide hs
  have G1 := hide g1
  have BL := hide (Below.refl w.heap.size w)
  clear hs hn g1
  go_enter Try.func21, Try.ntmps21
  go_wp2_with fail
  refine (stateI s false Hs.out G1.out _).mono ?_
  rintro e1 w1 ⟨rfl, q1⟩
  replace BL := hide (BL.out.trans (q1.mono BL.out.size))
  clear q1
  go_wp2_with fail
  go_ret
  refine ⟨_, _, rfl, .inl rfl, ?_⟩
  first | exact BL.out | exact BL.out.alloc BL.out.size _
set_option maxHeartbeats 1000000 in
theorem iShu_no2 (s n : Int) (w : World) (hs : bd s) (hn : bd n) (g1 : stOk s = true) (g2 : decide (0 ≤ n ∧ n ≤ 4096) = false) :
    Calls Try.prog 21 #[.int .i64 s, .int .i64 n] w fun e w' => ∃ a c, e = .returned (.slice a 0 c) ∧ OwnL w.heap.size w' a 0 (shu s n) ∧ Below w.heap.size w w' := by
  have Hs := hide hs
  have Hn := hide hn
  have G1 := hide g1
  have G2 := hide g2
  have BL := hide (Below.refl w.heap.size w)
  clear hs hn g1 g2
  go_enter Try.func21, Try.ntmps21
  go_wp2_with fail
  refine (stateI s true Hs.out G1.out _).mono ?_
  rintro e1 w1 ⟨rfl, q1⟩
  replace BL := hide (BL.out.trans (q1.mono BL.out.size))
  clear q1
  go_wp2_with fail
  refine (inB_one 0 4096 n false _ _ (by decide) Hn.out G2.out rfl).mono ?_
  rintro e1 w2 ⟨rfl, q2⟩
  replace BL := hide (BL.out.trans (q2.mono BL.out.size))
  clear q2
  go_wp2_with fail
  go_ret
  refine ⟨_, _, rfl, .inl rfl, ?_⟩
  first | exact BL.out | exact BL.out.alloc BL.out.size _
/-- how many are shuffled -/
def shl (s n : Int) : Nat := if stOk s = true ∧ (0 ≤ n ∧ n ≤ 4096) then n.toNat else 0
theorem shl_le (s n : Int) : shl s n ≤ 4096 := by unfold shl; split <;> omega
theorem implShuffle (s n : Int) (w : World) (hs : bd s) (hn : bd n) :
    Calls Try.prog 21 #[.int .i64 s, .int .i64 n] w fun e w' => ∃ a c, e = .returned (.slice a (shl s n) c) ∧ OwnL w.heap.size w' a (shl s n) (shu s n) ∧ Below w.heap.size w w' := by
  unfold shl
  cases g1 : stOk s
  · rw [if_neg (by simp)]; exact iShu_no1 s n w hs hn g1
  cases g2 : decide (0 ≤ n ∧ n ≤ 4096)
  · rw [if_neg (fun h => of_decide_eq_false g2 h.2)]; exact iShu_no2 s n w hs hn g1 g2
  · rw [if_pos ⟨rfl, of_decide_eq_true g2⟩]; exact iShu_yes s n w hs hn g1 g2
end Wj
end Go.Proofs.Ytcnopdonnjemmab
