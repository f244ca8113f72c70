/- Meet on both sides. -/
import Derived.Test.YtbepgcdfdaeecacVz
namespace Go.Proofs.Ytbepgcdfdaeecac
namespace Vo
open Go.ChangeShapes Go.WideShapes Go.ChangeAt Go.RowKit Go.Joins
open Vl Vp Vr
set_option linter.unusedVariables false
attribute [local go_sem] Oper.semAt_some

theorem metB_none (f g : Nat → Int) (n : Nat) : metB f 0 g n = false := by
  induction n with
  | zero => rfl
  | succ n ih => simp only [metB, ih]; rfl
/-- what Meet answers -/
def mt (r s : Nat) (D S : Nat → Int) (o n : Int) (r' s' : Nat) (D' S' : Nat → Int) (o' n' : Int) : Bool := if n = n' then metB (plcN D S r o) (cntS r s D S o n) (plcN D' S' r' o') (cntS r' s' D' S' o' n') else false
theorem mt_no1 {r s : Nat} {D S : Nat → Int} {o n : Int} {r' s' : Nat} {D' S' : Nat → Int} {o' n' : Int} (h : vok r s D S o n = false) : mt r s D S o n r' s' D' S' o' n' = false := by
  unfold mt; rw [cntS_no h]; split; exact metB_none _ _ _; rfl
theorem mt_no2 {r s : Nat} {D S : Nat → Int} {o n : Int} {r' s' : Nat} {D' S' : Nat → Int} {o' n' : Int} (h : vok r' s' D' S' o' n' = false) : mt r s D S o n r' s' D' S' o' n' = false := by
  unfold mt; rw [cntS_no h]; split <;> rfl
theorem mt_base {r s : Nat} {D S : Nat → Int} {o n : Int} {r' s' : Nat} {D' S' : Nat → Int} {o' n' : Int} (h : n ≠ n') : mt r s D S o n r' s' D' S' o' n' = false := by
  unfold mt; rw [if_neg h]

set_option maxHeartbeats 4000000 in
theorem specMeet (B : Nat) (a b a' b' : Option Addr) (r s r' s' cap dap cap' dap' : Nat) (D S D' S' : Nat → Int) (o n o' n' : Int) (w : World) (hB : B ≤ w.heap.size) (h : Ints B w a r D) (h' : Ints B w b s S) (k : Ints B w a' r' D') (k' : Ints B w b' s' S')
    (hr : (r : Int) ≤ 1048576) (hs : (s : Int) ≤ 1048576) (hr' : (r' : Int) ≤ 1048576) (hs' : (s' : Int) ≤ 1048576) :
    Calls Try.prog 17 #[.agg #[.slice a r cap, .slice b s dap, .int .i64 o, .int .i64 n], .agg #[.slice a' r' cap', .slice b' s' dap', .int .i64 o', .int .i64 n']] w fun e w' => e = .returned (.bool (mt r s D S o n r' s' D' S' o' n')) ∧ Below w.heap.size w w' := by
  have BL := hide (show Below w.heap.size w ((w.alloc (.cells #[.slice a r cap, .slice b s dap, .int .i64 o, .int .i64 n] 31)).alloc (.cells #[.slice a' r' cap', .slice b' s' dap', .int .i64 o', .int .i64 n'] 31)) from ((Below.refl _ _).alloc (Nat.le_refl _) _).alloc (by simp) _)
  have NV := hide ((box_new w (.slice a r cap) (.slice b s dap) (.int .i64 o) (.int .i64 n) 31).below ((Below.refl (w.heap.size + 1) _).alloc (by simp) (.cells #[.slice a' r' cap', .slice b' s' dap', .int .i64 o', .int .i64 n'] 31)) (by omega))
  have nv := box_new (w.alloc (.cells #[.slice a r cap, .slice b s dap, .int .i64 o, .int .i64 n] 31)) (.slice a' r' cap') (.slice b' s' dap') (.int .i64 o') (.int .i64 n') 31
  rw [World.size_alloc] at nv
  have NW := hide nv
  have H := hide h
  have H' := hide h'
  have K := hide k
  have K' := hide k'
  clear h h' k k' nv
  go_enter Try.func17, Try.ntmps17
  go_wp2_with fail
  refine (specViewOk B a b r s cap dap D S o n _ (by simp; omega) (H.out.below (BL.out.mono hB)) (H'.out.below (BL.out.mono hB)) hr hs).mono ?_
  rintro e w1 ⟨rfl, b1⟩
  have B1 := hide (BL.out.trans (b1.mono (by simp; omega)))
  have z1 : w.heap.size + 1 < w1.heap.size := by have := b1.size; simp at this; omega
  have N1 := hide (NV.out.below b1 (by simp; omega))
  have M1 := hide (NW.out.below b1 (by simp))
  obtain ⟨x0, x1, x2, x3⟩ := N1.out
  obtain ⟨y0, y1, y2, y3⟩ := M1.out
  clear b1
  cases hv : vok r s D S o n with
  | false =>
    have e := hide (mt_no1 (r' := r') (s' := s') (D' := D') (S' := S') (o' := o') (n' := n') hv)
    clear hv
    go_wp2_with fail
    go_ret
    exact ⟨ret_bool e.out.symm, B1.out⟩
  | true =>
    have V := hide (vok_iff.1 hv)
    have CV := hide (cntS_yes hv)
    clear hv
    go_wp2_with fail
    refine (specViewOk B a' b' r' s' cap' dap' D' S' o' n' _ (by omega) (K.out.below (B1.out.mono hB)) (K'.out.below (B1.out.mono hB)) hr' hs').mono ?_
    rintro e w2 ⟨rfl, b2⟩
    have B2 := hide (B1.out.trans (b2.mono B1.out.size))
    have z2 : w.heap.size + 1 < w2.heap.size := by have := b2.size; omega
    have z20 : w.heap.size < w2.heap.size := by omega
    have N2 := hide (N1.out.below b2 (by omega))
    have M2 := hide (M1.out.below b2 (by omega))
    clear x0 x1 x2 x3 y0 y1 y2 y3 b2
    obtain ⟨x0, x1, x2, x3⟩ := N2.out
    obtain ⟨y0, y1, y2, y3⟩ := M2.out
    cases hv : vok r' s' D' S' o' n' with
    | false =>
      have e := hide (mt_no2 (r := r) (s := s) (D := D) (S := S) (o := o) (n := n) hv)
      clear hv
      go_wp2_with fail
      go_ret
      exact ⟨ret_bool e.out.symm, B2.out⟩
    | true =>
      have V' := hide (vok_iff.1 hv)
      have CV' := hide (cntS_yes hv)
      clear hv
      by_cases hn : n ≠ n'
      · have hn' : (n != n') = true := by rw [bne_iff_ne]; exact hn
        have e := hide (mt_base (r := r) (s := s) (D := D) (S := S) (o := o) (r' := r') (s' := s') (D' := D') (S' := S') (o' := o') hn)
        clear hn
        go_wp2_with fail
        go_ret
        exact ⟨ret_bool e.out.symm, B2.out⟩
      obtain rfl : n = n' := by omega
      clear hn
      obtain rfl : s = r := V.out.2.1
      obtain rfl : s' = r' := V'.out.2.1
      have n0 : 0 ≤ n := by have := V.out.2.2.1; omega
      obtain ⟨nb, rfl⟩ := Int.eq_ofNat_of_zero_le n0
      have nb4 : (nb : Int) ≤ 4096 := V.out.2.2.2.1
      obtain ⟨M, hM⟩ : ∃ M, cntS s s D S o nb = M := ⟨_, rfl⟩
      obtain ⟨N, hN⟩ : ∃ N, cntS s' s' D' S' o' nb = N := ⟨_, rfl⟩
      have MT := hide (show mt s s D S o nb s' s' D' S' o' nb = metB (plcN D S s o) M (plcN D' S' s' o') N by unfold mt; rw [if_pos rfl, hM, hN])
      rw [hM] at CV
      rw [hN] at CV'
      clear hM hN
      have m4 : (M : Int) ≤ 4096 := by have := CV.out; have := (szR_rng D s).2; omega
      have n4 : (N : Int) ≤ 4096 := by have := CV'.out; have := (szR_rng D' s').2; omega
      have hmk := make_bool nb (by omega)
      have A1 := hide (show Below w2.heap.size w2 (w2.alloc (.cells (madeCells #[.bool false] nb) 4)) from (Below.refl _ _).alloc (Nat.le_refl _) _)
      have W1 := hide (bw_new w2 nb 4)
      have B3 := hide (B2.out.trans (A1.out.mono B2.out.size))
      have M3 := hide (M2.out.below A1.out z2)
      have v := V.out
      go_wp2_with fail
      refine (l3All B a b s cap dap M D S o nb _ (by simp; omega) (H.out.below (B3.out.mono hB)) (H'.out.below (B3.out.mono hB)) v.1 v.2.2.2.2.2.2.1 v.2.2.2.2.1 (by have := v.2.2.2.2.2.1; omega) CV.out).mono ?_
      rintro e1 w3 ⟨g, c, rfl, hg1, hg2, hrw, b3⟩
      clear v
      have R3 := hide (show Rw w3 g M (plcN D S s o) from hrw)
      have B4 := hide (B3.out.trans (b3.mono B3.out.size))
      have W3 := hide (W1.out.below b3 (by simp))
      have M4 := hide (M3.out.below b3 (by simp; omega))
      have gne : g ≠ w2.heap.size := by simp at hg1; omega
      have gs3 : w2.heap.size < w3.heap.size := by have := b3.size; simp at this; omega
      clear hrw b3 x0 x1 x2 x3 y0 y1 y2 y3
      go_wp2_with fail
      go_loopw [7] (fun i wx => ∃ k : Nat, k ≤ M ∧ i = .int .i64 k ∧ Bw wx w2.heap.size nb (fun t => memB (plcN D S s o) k t) ∧ Rw wx g M (plcN D S s o) ∧ Box wx (w.heap.size + 1) (.slice a' s' cap') (.slice b' s' dap') (.int .i64 o') (.int .i64 nb) ∧ w2.heap.size < wx.heap.size ∧ Below w.heap.size w wx) (fun i _ => M - (intOf i).toNat)
      case atStart => exact ⟨0, Nat.zero_le _, rfl, W3.out.same (fun _ _ => rfl), R3.out, M4.out, gs3, B4.out⟩
      case round =>
        obtain ⟨k, hk, rfl, hbw, hrw, hbx, hsz, hb⟩ := hrel
        have HW := hide hbw
        have HR := hide hrw
        have HX := hide hbx
        have HB := hide hb
        clear hb hbx
        by_cases hlt : k < M
        · obtain ⟨c1, _, _⟩ := hrw k hlt
          have pl := V.out.place k
          obtain ⟨j, hj⟩ := Int.eq_ofNat_of_zero_le pl.1
          have hjn : j < nb := by have := pl.2; omega
          have ej := hide (show plcN D S s o k = j from hj)
          rw [ej.out] at c1
          obtain ⟨c2, f2⟩ := hbw j hjn
          have kI : (k : Int) < M := by omega
          have jI : (j : Int) < nb := by omega
          clear hrw hbw pl hj
          go_wp2_with fail
          go_roundw
          case rel =>
            exact ⟨k + 1, by omega, by go_num, (HW.out.set j).same (fun t _ => memB_step _ k j ej.out t), HR.out.kept (Kept.setCell wr ⟨w2.heap.size, j, none⟩ (.bool true)) gne, HX.out.kept (Kept.setCell wr ⟨w2.heap.size, j, none⟩ (.bool true)) (by omega) (by show w.heap.size + 1 ≠ w2.heap.size; omega), by simpa [World.setCell] using hsz, HB.out.setCell (p := ⟨w2.heap.size, j, none⟩) (by show w.heap.size ≤ w2.heap.size; omega) _⟩
          case measure => simp [intOf]; omega
        · obtain rfl : M = k := by omega
          clear hrw hbw
          obtain ⟨y0, y1, y2, y3⟩ := HX.out
          have v := V'.out
          go_wp2_with fail
          refine (l3All B a' b' s' cap' dap' N D' S' o' nb _ (by omega) (K.out.below (HB.out.mono hB)) (K'.out.below (HB.out.mono hB)) v.1 v.2.2.2.2.2.2.1 v.2.2.2.2.1 (by have := v.2.2.2.2.2.1; omega) CV'.out).mono ?_
          rintro e1 w4 ⟨g', c', rfl, hg1', hg2', hrw, b4⟩
          clear v y0 y1 y2 y3
          have R4 := hide (show Rw w4 g' N (plcN D' S' s' o') from hrw)
          have B5 := hide (HB.out.trans (b4.mono HB.out.size))
          have W4 := hide (HW.out.below b4 hsz)
          clear hrw b4
          go_wp2_with fail
          go_loop [9] (fun i => ∃ k : Nat, k ≤ N ∧ i = .int .i64 k ∧ metB (plcN D S s o) M (plcN D' S' s' o') k = false) (fun i => N - (intOf i).toNat)
          case atStart => exact ⟨0, Nat.zero_le _, rfl, rfl⟩
          case round =>
            obtain ⟨k, hk, rfl, hme⟩ := hrel
            have ME := hide hme
            clear hme
            by_cases hlt : k < N
            · obtain ⟨c1, _, _⟩ := R4.out k hlt
              have pl := V'.out.place k
              obtain ⟨j, hj⟩ := Int.eq_ofNat_of_zero_le pl.1
              have hjn : j < nb := by have := pl.2; omega
              have ej := hide (show plcN D' S' s' o' k = j from hj)
              rw [ej.out] at c1
              obtain ⟨c2, f2⟩ := W4.out j hjn
              dsimp only at c2
              have kI : (k : Int) < N := by omega
              have jI : (j : Int) < nb := by omega
              clear pl hj
              cases hm : memB (plcN D S s o) M j with
              | true =>
                rw [hm] at c2
                have e := hide (show mt s s D S o nb s' s' D' S' o' nb = true by
                  rw [MT.out]; exact metB_mono (n := k + 1) (by simp only [metB]; rw [ej.out, hm]; simp) hlt)
                clear hm
                go_wp2_with fail
                go_ret
                exact ⟨ret_bool e.out.symm, B5.out⟩
              | false =>
                rw [hm] at c2
                have e := hide (show metB (plcN D S s o) M (plcN D' S' s' o') (k + 1) = false by simp only [metB]; rw [ej.out, hm, ME.out]; rfl)
                clear hm
                go_wp2_with fail
                go_round
                case rel => exact ⟨k + 1, by omega, by go_num, e.out⟩
                case measure => simp [intOf]; omega
            · obtain rfl : N = k := by omega
              have e := hide (show mt s s D S o nb s' s' D' S' o' nb = false by rw [MT.out]; exact ME.out)
              go_wp2_with fail
              go_ret
              exact ⟨ret_bool e.out.symm, B5.out⟩
end Vo
end Go.Proofs.Ytbepgcdfdaeecac
