/- ShowTensor of the model. -/
import Derived.Test.YtbbmbgjjhaajjaaGreatDoorRb
import Derived.Lib.AppendZeros
namespace Go.Proofs.YtbbmbgjjhaajjaaGreatDoor
namespace Vo
open Go.ChangeShapes Go.WideShapes Go.ChangeAt Go.RowKit Go.Joins Go.Sort
open Vl Vp
set_option linter.unusedVariables false
set_option linter.unusedSimpArgs false
set_option maxHeartbeats 1000000 in
theorem l4ShowDims (B : Nat) (a : Option Addr) (r cap : Nat) (D : Nat → Int) (w : World) (hB : B ≤ w.heap.size) (h : Ints B w a r D) (hr : (r : Int) ≤ 6) (hD : ∀ k, k < r → 1 ≤ D k ∧ D k ≤ 4096) :
    Calls Tryz.prog 59 #[.slice a r cap] w fun e w' => e = .returned (.string ⟨(91 :: (body (fun k => Lib.itoa (D k)) r ++ [93])).toArray⟩) ∧ Below w.heap.size w w' := by
  have H := hide h
  have HD := hide hD
  clear h hD
  go_enter Tryz.func59, Tryz.ntmps59
  go_wp2_with fail
  go_loopw [3, 4] (fun s i wx => ∃ k : Nat, k ≤ r ∧ i = .int .i64 k ∧ s = .string ⟨(91 :: body (fun k => Lib.itoa (D k)) k).toArray⟩ ∧ Below w.heap.size w wx) (fun _ i _ => r - (intOf i).toNat)
  case atStart => exact ⟨0, Nat.zero_le _, rfl, by simp [body, blanks], Below.refl _ _⟩
  case round =>
    obtain ⟨X, rfl⟩ : ∃ X, X = wr := ⟨_, rfl⟩
    obtain ⟨k, hk, rfl, rfl, hby⟩ := hrel
    have HBY := hide hby
    clear hby
    by_cases hlt : k < r
    · have kI : (k : Int) < r := by omega
      rcases H.out.below (HBY.out.mono hB) with h0 | ⟨b', off, rfl, hb', hc⟩
      · omega
      have c1 := (hc k hlt).1
      have dk := HD.out k hlt
      have bl := body_len (T := fun k => Lib.itoa (D k)) (n := k) (fun j hj => itoa_small (HD.out j (by omega)).1 (HD.out j (by omega)).2)
      have il := itoa_small dk.1 dk.2
      have CI := hide (Base.l1Int (D k) X (by omega) (by omega))
      have M1 := hide (show 1 ≤ k → body (fun k => Lib.itoa (D k)) (k + 1) = body (fun k => Lib.itoa (D k)) k ++ 32 :: Lib.itoa (D k) from fun e => body_more _ e)
      have M0 := hide (show k = 0 → body (fun k => Lib.itoa (D k)) (k + 1) = Lib.itoa (D k) ∧ body (fun k => Lib.itoa (D k)) k = [] from fun e => by subst e; exact ⟨body_one _, by simp [body, blanks]⟩)
      obtain ⟨L, hL⟩ : ∃ L, body (fun k => Lib.itoa (D k)) k = L := ⟨_, rfl⟩
      obtain ⟨L', hL'⟩ : ∃ L', body (fun k => Lib.itoa (D k)) (k + 1) = L' := ⟨_, rfl⟩
      obtain ⟨I, hI⟩ : ∃ I, Lib.itoa (D k) = I := ⟨_, rfl⟩
      rw [hL] at bl M1 M0 ⊢
      rw [hL'] at M1 M0
      rw [hI] at il CI M1 M0
      have HL' := hide hL'
      have j1 : ¬ 9223372036854775807 < L.length + 1 + 1 := by omega
      have j2 : ¬ 9223372036854775807 < L.length + 1 + 1 + I.length := by omega
      have j3 : ¬ 9223372036854775807 < L.length + 1 + I.length := by omega
      clear hc hL hL' hI dk bl il
      by_cases k0 : k = 0
      · have k0' : decide ((0 : Int) < (k : Int)) = false := decide_eq_false (by omega)
        have k0n : decide (0 < k) = false := decide_eq_false (by omega)
        have k0m : ¬ 0 < k := by omega
        have E0 := hide (M0.out k0)
        clear k0 M0 M1
        go_wp2_with fail
        refine CI.out.mono ?_
        rintro e X1 ⟨rfl, b1⟩
        have BY1 := hide (HBY.out.trans (b1.mono HBY.out.size))
        clear b1
        go_wp2_with fail
        go_roundw
        all_goals first
          | (simp only [intOf]; omega)
          | (simp [intOf]; omega)
          | exact ⟨k + 1, by omega, by go_num, by
              rw [HL'.out, E0.out.1, E0.out.2]
              congr 1 <;> (apply ByteArray.ext; simp), BY1.out⟩
      · have k0' : decide ((0 : Int) < (k : Int)) = true := decide_eq_true (by omega)
        have k0n : decide (0 < k) = true := decide_eq_true (by omega)
        have k0m : 0 < k := by omega
        have E1 := hide (M1.out (by omega))
        clear k0 M0 M1
        go_wp2_with fail
        refine CI.out.mono ?_
        rintro e X1 ⟨rfl, b1⟩
        have BY1 := hide (HBY.out.trans (b1.mono HBY.out.size))
        clear b1
        go_wp2_with fail
        go_roundw
        all_goals first
          | (simp only [intOf]; omega)
          | (simp [intOf]; omega)
          | exact ⟨k + 1, by omega, by go_num, by
              rw [HL'.out, E1.out]
              congr 1
              apply ByteArray.ext
              simp, BY1.out⟩
    · obtain rfl : k = r := by omega
      have bl := body_len (T := fun k => Lib.itoa (D k)) (n := k) (fun j hj => itoa_small (HD.out j hj).1 (HD.out j hj).2)
      obtain ⟨L, hL⟩ : ∃ L, body (fun k => Lib.itoa (D k)) k = L := ⟨_, rfl⟩
      rw [hL] at bl ⊢
      have j1 : ¬ 9223372036854775807 < L.length + 1 + 1 := by omega
      have HL := hide hL
      clear hL bl
      go_wp2_with fail
      go_ret
      exact ⟨by rw [HL.out]; exact Base.ret_str (by apply ByteArray.ext; simp), HBY.out⟩
set_option maxRecDepth 100000 in
set_option maxHeartbeats 2000000 in
theorem specShowTensor (B : Nat) (a b : Option Addr) (r s cap dap : Nat) (D S : Nat → Int) (w : World) (hB : B ≤ w.heap.size) (h : Ints B w a r D) (h' : Ints B w b s S) (hr : (r : Int) ≤ 1048576) (hs : (s : Int) ≤ 1048576) :
    Calls Tryz.prog 32 #[.agg #[.slice a r cap, .slice b s dap]] w fun e w' => e = .returned (.string ⟨(tenT r s D S).toArray⟩) ∧ Below w.heap.size w w' := by
  obtain ⟨W0, hW0⟩ : ∃ W0, w.alloc (.cells #[.slice a r cap, .slice b s dap] 24) = W0 := ⟨_, rfl⟩
  have bl : Below w.heap.size w W0 := by rw [← hW0]; exact (Below.refl _ _).alloc (Nat.le_refl _) _
  have z0 : W0.heap.size = w.heap.size + 1 := by rw [← hW0]; simp
  have n0 : Bx W0 w.heap.size (.slice a r cap) (.slice b s dap) := by rw [← hW0]; exact ⟨by simp [go_sem], by simp [go_sem]⟩
  have H := hide (h.below (bl.mono hB))
  have H' := hide (h'.below (bl.mono hB))
  have BL := hide bl
  have Z0 := hide z0
  have N0 := hide n0
  obtain ⟨x0, x1⟩ := n0
  clear h h' bl z0
  go_enter Tryz.func32, Tryz.ntmps32
  go_wp2_with fail
  clear hW0
  refine (specTensorOk B a b r s cap dap D S _ (by have := Z0.out; omega) H.out H'.out hr hs).mono ?_
  rintro e w1 ⟨rfl, b1⟩
  have zz := Z0.out
  have N1 := hide (N0.out.below b1 (by omega))
  have B1 := hide (BL.out.trans (b1.mono BL.out.size))
  have H1 := hide (H.out.below (b1.mono (by omega)))
  have H1' := hide (H'.out.below (b1.mono (by omega)))
  have s1 : w.heap.size < w1.heap.size := by have := b1.size; omega
  clear b1 x0 x1 zz
  obtain ⟨x0, x1⟩ := N1.out
  cases ht : tok r s D S with
  | false =>
    have ez := hide (show tenT r s D S = [] by unfold tenT; rw [ht]; simp)
    clear ht
    go_wp2_with fail
    go_ret
    refine ⟨?_, B1.out⟩
    rw [ez.out]
    rfl
  | true =>
    have td : dok r D = true := by unfold tok at ht; simp only [Bool.and_eq_true] at ht; exact ht.1.1
    have ts : (s : Int) = szR D r := by unfold tok at ht; simp only [Bool.and_eq_true, decide_eq_true_eq] at ht; exact ht.1.2
    have tw : WI s S 2147483647 := by unfold tok wi at ht; simp only [Bool.and_eq_true, decide_eq_true_eq] at ht; exact ht.2
    have r6 : r ≤ 6 := (dok_iff.1 td).1
    have s4 : (s : Int) ≤ 4096 := by rw [ts]; exact (szR_rng D r).2
    have l1 := body_len (T := fun k => Lib.itoa (D k)) (n := r) (fun k hk => itoa_small (dok_len td hk).1 (dok_len td hk).2)
    have ez := hide (show tenT r s D S = (91 :: (body (fun k => Lib.itoa (D k)) r ++ [93])) ++ blanks (fun k => numT (S k)) s by unfold tenT; rw [if_pos ht]; simp)
    have TW := hide tw
    have CD := hide (l4ShowDims B a r cap D w1 (by have := B1.out.size; omega) H1.out (by omega) (fun k hk => dok_len td hk))
    obtain ⟨L, hL⟩ : ∃ L, (91 :: (body (fun k => Lib.itoa (D k)) r ++ [93])) = L := ⟨_, rfl⟩
    have lL : L.length ≤ 60129542160 := by rw [← hL]; simp only [List.length_cons, List.length_append, List.length_nil]; omega
    rw [hL] at ez CD
    clear ht td ts tw l1 hL
    go_wp2_with fail
    refine CD.out.mono ?_
    rintro e w2 ⟨rfl, b2⟩
    obtain ⟨cv, hcv, rb, bb⟩ := rowB_of w2 L (by omega)
    have N2 := hide ((N1.out.below b2 s1).below bb (by have := b2.size; omega))
    have B2 := hide ((B1.out.trans (b2.mono B1.out.size)).trans (bb.mono (by have := B1.out.size; have := b2.size; omega)))
    have H2' := hide ((H1'.out.below (b2.mono (by have := B1.out.size; omega))).below (bb.mono (by have := B1.out.size; have := b2.size; omega)))
    have s2 : w.heap.size < w2.heap.size := by have := b2.size; omega
    have RB := hide rb
    have z3 : w2.heap.size ≤ (Lib.bytesWorld w2 5 ⟨L.toArray⟩).heap.size := bb.size
    clear x0 x1 b2 bb rb
    go_wp2_with fail
    clear hcv
    obtain ⟨W3, hW3⟩ : ∃ W3, Lib.bytesWorld w2 5 ⟨L.toArray⟩ = W3 := ⟨_, rfl⟩
    rw [hW3] at N2 B2 H2' RB z3 ⊢
    clear hW3
    go_loopw [3, 4] (fun v i wx => ∃ k : Nat, k ≤ s ∧ i = .int .i64 k ∧ RowB wx w2.heap.size v (L ++ blanks (fun k => numT (S k)) k) ∧ Below w2.heap.size W3 wx) (fun _ i _ => s - (intOf i).toNat)
    case atStart => exact ⟨0, Nat.zero_le _, rfl, by simpa [blanks] using RB.out, Below.refl _ _⟩
    case round =>
      obtain ⟨X, rfl⟩ : ∃ X, X = wr := ⟨_, rfl⟩
      obtain ⟨k, hk, rfl, hrb, hby⟩ := hrel
      have HRB := hide hrb
      have HBY := hide hby
      have NX := hide (N2.out.below hby s2)
      have sX : w2.heap.size ≤ X.heap.size := by have := hby.size; omega
      clear hrb hby
      obtain ⟨x0, x1⟩ := NX.out
      by_cases hlt : k < s
      · have kI : (k : Int) < s := by omega
        have bll := blanks_len (T := fun k => numT (S k)) (n := k) (fun j hj => numT_len (TW.out j (by omega)).1 (TW.out j (by omega)).2)
        have nl := numT_len (TW.out k hlt).1 (TW.out k hlt).2
        rcases (H2'.out.below (HBY.out.mono (by have := B2.out.size; omega))) with h0 | ⟨b', off, rfl, hb', hc⟩
        · omega
        have c1 := (hc k hlt).1
        have LL : (L ++ blanks (fun k => numT (S k)) k).length ≤ 60129542160 + 8589934593 * k := by rw [List.length_append]; omega
        have TK := TW.out k hlt
        obtain ⟨Q, hQ⟩ : ∃ Q, L ++ blanks (fun k => numT (S k)) k = Q := ⟨_, rfl⟩
        have EQ := hide (show L ++ blanks (fun k => numT (S k)) (k + 1) = (Q ++ [32]) ++ numT (S k) by rw [← hQ]; show L ++ (blanks (fun k => numT (S k)) k ++ 32 :: numT (S k)) = _; simp)
        rw [hQ] at HRB LL
        obtain ⟨Y0, hY0⟩ : ∃ Y0, X.alloc (.cells #[.int .u8 32] 5) = Y0 := ⟨_, rfl⟩
        have by0 : Below X.heap.size X Y0 := by rw [← hY0]; exact (Below.refl _ _).alloc (Nat.le_refl _) _
        have zy0 : Y0.heap.size = X.heap.size + 1 := by rw [← hY0]; simp
        have cy0 : Y0.cell? ((⟨X.heap.size, 0, none⟩ : Addr).add 0) = some (.int .u8 (32 : UInt8).toNat) := by rw [← hY0]; simp [Addr.add, go_sem]
        obtain ⟨v1, X1, hr1, rb1, bb1⟩ := appByte Y0 w2.heap.size 30 u3 Q 32 (HRB.out.kept by0) (by omega) (by omega) ⟨X.heap.size, 0, none⟩ cy0
        have RB1 := hide rb1
        have BB1 := hide ((by0.mono sX).trans bb1)
        have NX1 := hide (NX.out.below BB1.out s2)
        have cX1 := (BB1.out.cell (p := ⟨b', off + k, none⟩) (by show b' < w2.heap.size; omega)).trans c1
        clear rb1 bb1 by0 zy0 cy0 hc hQ
        obtain ⟨n0', n1'⟩ := NX1.out
        have CN := hide (Base.specShowNum (S k) X1 (by omega) (by omega))
        have EM := hide (Int.emod_eq_of_lt TK.1 TK.2)
        have sX1 : w2.heap.size ≤ X1.heap.size := by have := BB1.out.size; omega
        clear c1 TK
        go_wp2_with (at_builtin; refine Lib.wpList_append_run _ rfl _ _ 30 30 rfl _ _ rfl rfl v1 X1 hr1 ?_)
        refine CN.out.mono ?_
        rintro e X2 ⟨n, d, q, ha, rfl, b2⟩
        rw [EM.out] at ha ⊢
        have en := numT_is ha
        rw [← en]
        obtain ⟨v2, X3, hr2, rb2, bb2⟩ := appText X2 w2.heap.size 30 v1 (Q ++ [32]) (numT (S k)) (RB1.out.kept b2) (by rw [List.length_append]; simp only [List.length_cons, List.length_nil]; omega) (by have := b2.size; omega)
        have RB2 := hide (show RowB X3 w2.heap.size v2 (L ++ blanks (fun k => numT (S k)) (k + 1)) by rw [EQ.out]; exact rb2)
        have BY2 := hide (((HBY.out.trans BB1.out).trans (b2.mono sX1)).trans bb2)
        obtain ⟨M, hM⟩ : ∃ M, numT (S k) = M := ⟨_, rfl⟩
        rw [hM] at hr2 ⊢
        clear ha en rb2 bb2 b2 n0' n1' cX1 hM
        go_wp2_with (at_builtin; refine Lib.wpList_append_run _ rfl _ _ 30 9 rfl _ _ rfl rfl v2 X3 hr2 ?_)
        go_roundw
        all_goals first
          | (simp only [intOf]; omega)
          | (simp [intOf]; omega)
          | exact ⟨k + 1, by omega, by go_num, RB2.out, BY2.out⟩
      · obtain rfl : k = s := by omega
        have hback := rowB_text X w2.heap.size u3 _ HRB.out
        rw [← ez.out] at hback
        have BX := hide (B2.out.trans (HBY.out.mono (by omega)))
        go_wp2_with fail
        go_ret
        exact ⟨rfl, BX.out⟩
end Vo
end Go.Proofs.YtbbmbgjjhaajjaaGreatDoor
