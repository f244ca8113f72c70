/- Rows put behind one another; Ring of the program. -/
import Derived.Test.YtkllbolamgmmaaaFl
namespace Go.Proofs.Ytkllbolamgmmaaa
namespace Vo
open Go.ChangeShapes Go.WideShapes Go.ChangeAt Go.RowKit Go.Joins Go.Sort
open Vl
set_option linter.unusedVariables false
set_option linter.unusedSimpArgs false
theorem rowsM_cat {E : Nat} {w w' : World} {v : Value} {L : List VM} (hh : w'.ownsRow w.heap.size 30 1 v L.length (hdM L)) (own : ∀ x ∈ L, OM E w x.a x.l) (ap : L.Pairwise Apt) (hb : Below w.heap.size w w') (hE : E ≤ w.heap.size) : RowsM E w' v L :=
  ⟨Go.Joins.ownsRow_le hh hE, fun x hx => (own x hx).below hb, fun x hx b q e => by have := ((own x hx).blk q).2; have := (hh.lt b e).1; omega, ap⟩
theorem rl_row {E c : Nat} {w : World} {a : Option Addr} {L : List VM} (h : RowsM E w (.slice a L.length c) L) {ad : Addr} (e : a = some ad) : ∀ j u, (hdM L)[j]? = some u → w.cell? (ad.add j) = some u := by
  intro j u hu
  have hj : j < (hdM L).length := (List.getElem?_eq_some_iff.1 hu).1
  rw [hdM_len] at hj
  obtain ⟨g, cap, e1, _⟩ := World.ownsRow.form h.heads (by omega)
  injection e1 with e2 e3 e4
  rw [e] at e2
  cases e2
  exact World.ownsRow.cells (g := g) h.heads (by rw [e]; rfl) j u hu
theorem rl_lt {E c : Nat} {w : World} {a : Option Addr} {L : List VM} (h : RowsM E w (.slice a L.length c) L) {ad : Addr} (e : a = some ad) (hn : L.length ≠ 0) : ad.block < w.heap.size := by
  obtain ⟨g, cap, e1, _, h2⟩ := World.ownsRow.form h.heads (by omega)
  injection e1 with e2 e3 e4
  rw [e] at e2
  cases e2
  exact h2
/-- parts of rows: where their heads lie, and their rows -/
structure RP where
  a : Option Addr
  c : Nat
  L : List VM
def RP.rl (p : RP) : RL := ⟨p.a, p.L.length, p.c, hdM p.L⟩
def rps (ps : List RP) (i : Nat) : RL := (ps.getD i ⟨none, 0, []⟩).rl
theorem rls_of {E : Nat} {w : World} {q : Nat} {ps : List RP} (hq : q < w.heap.size) (hh : ∀ i (h : i < ps.length), w.cell? ⟨q, 0 + i, none⟩ = some (.slice ps[i].a ps[i].L.length ps[i].c)) (hr : ∀ p ∈ ps, RowsM E w (.slice p.a p.L.length p.c) p.L) (hn : ∀ p ∈ ps, p.a = none → p.L.length = 0 ∧ p.c = 0) :
    RLs 1 w.heap.size w q 0 ps.length (rps ps) := by
  have e : ∀ i (h : i < ps.length), rps ps i = ps[i].rl := fun i h => by unfold rps; rw [List.getD_eq_getElem?_getD, List.getElem?_eq_getElem h]; rfl
  refine ⟨hq, fun i h => ?_, fun i h => ?_, fun i h => ?_, fun i h => ?_, fun i h ad ha => ?_, fun i h ad ha => ?_⟩
  · rw [e i h]; exact hh i h
  · rw [e i h]; show (hdM _).length = _; rw [hdM_len]; simp [RP.rl]
  · rw [e i h]; exact hdM_one _
  · rw [e i h]; exact hn _ (List.getElem_mem h)
  · rw [e i h] at ha ⊢; exact rl_lt (hr _ (List.getElem_mem h)) ha
  · rw [e i h] at ha ⊢; exact rl_row (hr _ (List.getElem_mem h)) ha
theorem ib64 (z : Int) : ib 1 64 1 (fun _ => z) = decide (1 ≤ z ∧ z ≤ 64) := by
  unfold ib
  rw [decide_eq_decide]
  exact ⟨fun h => h 0 (by omega), fun h i _ => h⟩
theorem ints_lit1 (z : Int) (hz : bd z) (w : World) : Ints (w.alloc (.cells #[.int .i64 z] 3)).heap.size (w.alloc (.cells #[.int .i64 z] 3)) (some ⟨w.heap.size, 0, none⟩) 1 (fun _ => z) :=
  .inr ⟨w.heap.size, 0, rfl, by simp, fun j hj => by obtain rfl : j = 0 := by omega
                                                     exact ⟨by simp [go_sem], hz⟩⟩
set_option maxHeartbeats 1000000 in
theorem implRing (z : Int) (w : World) (hz : bd z) : Calls Try.prog 7 #[.int .i64 z] w (RowsB (ringL z) w) := by
  obtain ⟨W1, hW1⟩ : ∃ W1, w.alloc (.cells #[.int .i64 z] 3) = W1 := ⟨_, rfl⟩
  have b1 : Below w.heap.size w W1 := by rw [← hW1]; exact (Below.refl _ _).alloc (Nat.le_refl _) _
  have z1 : W1.heap.size = w.heap.size + 1 := by rw [← hW1]; simp
  have c0 : W1.cell? ⟨w.heap.size, 0, none⟩ = some (.int .i64 z) := by rw [← hW1]; simp [go_sem]
  obtain ⟨W2, hW2⟩ : ∃ W2, W1.alloc (.cells #[.int .i64 z] 3) = W2 := ⟨_, rfl⟩
  have b2 : Below W1.heap.size W1 W2 := by rw [← hW2]; exact (Below.refl _ _).alloc (Nat.le_refl _) _
  have CI := hide (inBoundsF W2.heap.size (some ⟨W1.heap.size, 0, none⟩) 1 1 (fun _ => z) 1 64 W2 (by decide) (Nat.le_refl _) (by rw [← hW2]; exact ints_lit1 z hz W1) (by decide))
  rw [ib64] at CI
  rw [z1] at CI
  have B2 := hide (b1.trans (b2.mono b1.size))
  have C0 := hide (fun (W : World) (h : Below W1.heap.size W1 W) => show W.cell? ⟨w.heap.size, 0, none⟩ = some (.int .i64 z) from (h.cell (p := ⟨w.heap.size, 0, none⟩) (by show w.heap.size < W1.heap.size; omega)).trans c0)
  have BW := hide b1
  have BX := hide b2
  have Z1 := hide z1
  clear b1 b2
  by_cases hb : 1 ≤ z ∧ z ≤ 64
  case neg =>
    rw [decide_eq_false hb] at CI
    have ER := hide (show ringL z = [] from if_neg hb)
    clear hb
    go_enter Try.func7, Try.ntmps7
    go_wp2_with fail
    refine CI.out.mono ?_
    rintro e w1 ⟨rfl, q1⟩
    have B3 := hide (B2.out.trans (q1.mono B2.out.size))
    clear CI q1 c0
    go_wp2_with fail
    go_ret
    exact ⟨_, 0, [], rfl, (rowsM_new w1).mono B3.out.size, ER.out.symm, by simp, B3.out.trans ((show Below w1.heap.size w1 (w1.alloc (.cells #[] 30)) from (Below.refl _ _).alloc (Nat.le_refl _) _).mono B3.out.size)⟩
  rw [decide_eq_true hb] at CI
  have ER := hide (show ringL z = ringH z.toNat 2 from if_pos hb)
  obtain ⟨n, rfl⟩ : ∃ n : Nat, z = n := ⟨z.toNat, by omega⟩
  rw [Int.toNat_natCast] at ER
  have n1 : 1 ≤ n := by omega
  have n64 : n ≤ 64 := by omega
  have EN := hide (show (n : Int) - 1 = ((n - 1 : Nat) : Int) by omega)
  have wn : IntKind.i64.wrap ((n : Int) - 1) = (n : Int) - 1 := by rw [IntKind.wrap_i64]; omega
  clear hb
  go_enter Try.func7, Try.ntmps7
  go_wp2_with fail
  refine CI.out.mono ?_
  rintro e w1 ⟨rfl, q1⟩
  have Q1 := hide (BX.out.trans (q1.mono BX.out.size))
  have c0 := C0.out w1 Q1.out
  have zq := Q1.out.size
  have CA := hide (elementwiseMS (n - 1) 19 #[.pointer (some ⟨w.heap.size, 0, none⟩)] (ringRow n 0) w1 (by omega) (enters_of Try.func19 (by kernel_rfl) rfl)
    (fun k W hk hW => ringHalf1 n k w.heap.size W (C0.out W (Q1.out.trans (hW.mono zq))) n1 n64 hk))
  clear CI q1
  go_wp2_with fail
  rw [EN.out]
  refine CA.out.mono ?_
  rintro e w2 ⟨L1, rfl, r1, e1, na1, q2⟩
  have R1 := hide r1
  have E1 := hide e1
  have N1 := hide na1
  have L1n := hide (show L1.length = n - 1 by rw [← cnt_len, e1]; simp)
  have Q2 := hide (Q1.out.trans (q2.mono zq))
  have c0 := C0.out w2 Q2.out
  have zq2 := Q2.out.size
  have zr2 := q2.size
  have CB := hide (elementwiseMS (n - 1) 21 #[.pointer (some ⟨w.heap.size, 0, none⟩)] (ringRow n 1) w2 (by omega) (enters_of Try.func21 (by kernel_rfl) rfl)
    (fun k W hk hW => ringHalf2 n k w.heap.size W (C0.out W (Q2.out.trans (hW.mono zq2))) n1 n64 hk))
  clear CA r1 e1 na1 q2
  go_wp2_with fail
  rw [EN.out]
  refine CB.out.mono ?_
  rintro e w3 ⟨L2, rfl, r2, e2, na2, q3⟩
  have R2 := hide r2
  have E2 := hide e2
  have N2 := hide na2
  have L2n := hide (show L2.length = n - 1 by rw [← cnt_len, e2]; simp)
  have R1' := hide (R1.out.below q3)
  have Q3 := hide (Q2.out.trans (q3.mono zq2))
  have zr3 := q3.size
  obtain ⟨W4, hW4⟩ : ∃ W4, w3.alloc (.cells #[.slice (some ⟨w1.heap.size, 0, none⟩) (n - 1) (n - 1), .slice (some ⟨w2.heap.size, 0, none⟩) (n - 1) (n - 1)] 22) = W4 := ⟨_, rfl⟩
  have b4 : Below w3.heap.size w3 W4 := by rw [← hW4]; exact (Below.refl _ _).alloc (Nat.le_refl _) _
  have c4 : W4.cell? ⟨w3.heap.size, 0, none⟩ = some (.slice (some ⟨w1.heap.size, 0, none⟩) (n - 1) (n - 1)) ∧ W4.cell? ⟨w3.heap.size, 1, none⟩ = some (.slice (some ⟨w2.heap.size, 0, none⟩) (n - 1) (n - 1)) := by
    rw [← hW4]
    exact ⟨by simp [go_sem], by simp [go_sem]⟩
  have z4 : W4.heap.size = w3.heap.size + 1 := by rw [← hW4]; simp
  have RL1 := hide (R1'.out.below b4)
  have RL2 := hide (R2.out.below b4)
  have B4 := hide (Q3.out.trans (b4.mono (Q3.out.size)))
  have CC := hide (concatMM W4.heap.size w3.heap.size 0 2 2 (rps [⟨some ⟨w1.heap.size, 0, none⟩, n - 1, L1⟩, ⟨some ⟨w2.heap.size, 0, none⟩, n - 1, L2⟩]) W4 (Nat.le_refl _)
    (rls_of (E := w.heap.size) (ps := [⟨some ⟨w1.heap.size, 0, none⟩, n - 1, L1⟩, ⟨some ⟨w2.heap.size, 0, none⟩, n - 1, L2⟩]) (by omega) (fun i hi => by
      have hi : i < 2 := hi
      rcases (by omega : i = 0 ∨ i = 1) with rfl | rfl
      · show W4.cell? ⟨w3.heap.size, 0, none⟩ = some (.slice _ L1.length _)
        rw [L1n.out]; exact c4.1
      · show W4.cell? ⟨w3.heap.size, 1, none⟩ = some (.slice _ L2.length _)
        rw [L2n.out]; exact c4.2)
      (fun p hp => by
        rcases List.mem_cons.1 hp with rfl | hp
        · show RowsM _ _ (.slice _ L1.length _) _
          rw [L1n.out]; exact RL1.out.mono (by omega)
        · obtain rfl := List.mem_singleton.1 hp
          show RowsM _ _ (.slice _ L2.length _) _
          rw [L2n.out]; exact RL2.out.mono (by omega))
      (fun p hp e => by
        rcases List.mem_cons.1 hp with rfl | hp
        · simp at e
        · obtain rfl := List.mem_singleton.1 hp
          simp at e)) (by decide) (by
        show ((0 + L1.length + L2.length : Nat) : Int) ≤ _
        rw [L1n.out, L2n.out]; omega))
  have BB := hide (BW.out.trans (B4.out.mono (by omega)))
  have ZZ := hide (show w.heap.size ≤ W4.heap.size ∧ w.heap.size ≤ w1.heap.size ∧ w1.heap.size ≤ w2.heap.size ∧ w2.heap.size ≤ w3.heap.size from by omega)
  clear CB r2 e2 na2 q3 b4 c4 z4
  go_wp2_with fail
  refine CC.out.mono ?_
  rintro e w5 ⟨v, rfl, ow, q5⟩
  have LEN : (L1 ++ L2).length = 0 + L1.length + L2.length := by rw [List.length_append]; omega
  have OW : w5.ownsRow W4.heap.size 30 1 v (L1 ++ L2).length (hdM (L1 ++ L2)) := by
    rw [LEN, hdM_app]
    have : rcat (rps [⟨some ⟨w1.heap.size, 0, none⟩, n - 1, L1⟩, ⟨some ⟨w2.heap.size, 0, none⟩, n - 1, L2⟩]) 2 = hdM L1 ++ hdM L2 := by
      show ([] ++ hdM L1) ++ hdM L2 = _
      simp
    rw [← this]
    exact ow
  obtain ⟨zz1, zz2, zz3, zz4⟩ := ZZ.out
  have AP : (L1 ++ L2).Pairwise Apt := List.pairwise_append.2 ⟨R1.out.apart, R2.out.apart, fun x hx y hy b q q' => by
    have := ((R1.out.own x hx).blk q).2
    have := ((R2.out.own y hy).blk q').1
    omega⟩
  have RR := hide (rowsM_cat (E := w.heap.size) OW (fun x hx => by
    rcases List.mem_append.1 hx with m | m
    · exact (RL1.out.own x m).mono (by omega)
    · exact (RL2.out.own x m).mono (by omega)) AP q5 zz1)
  have BF := hide (BB.out.trans (q5.mono zz1))
  have CN := hide (show cnt (L1 ++ L2) = ringL n by
    rw [cnt_app, E1.out, E2.out, ER.out]
    simp [ringH, List.range_succ])
  obtain ⟨a, c, hv⟩ := RR.out.slice
  subst hv
  have AN := hide (show a = none → (L1 ++ L2).length = 0 ∧ c = 0 from fun e => by
    subst e
    rcases OW.2 with ⟨e1, e2⟩ | ⟨g, _, _, e1, _⟩
    · injection e1 with _ e3 e4
      exact ⟨e3, e4⟩
    · injection e1 with e3
      cases e3)
  clear OW ow CC
  go_wp2_with fail
  go_ret
  exact ⟨a, c, L1 ++ L2, by rw [List.length_append]; rfl, RR.out, CN.out, AN.out, BF.out⟩
end Vo
end Go.Proofs.Ytkllbolamgmmaaa
