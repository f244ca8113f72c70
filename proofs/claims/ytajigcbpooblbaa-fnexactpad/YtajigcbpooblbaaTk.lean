/- Gather on both sides. -/
import Derived.Test.YtajigcbpooblbaaTi
namespace Go.Proofs.Ytajigcbpooblbaa
namespace Vo
open Go.ChangeShapes Go.WideShapes Go.ChangeAt Go.RowKit Go.Joins Go.Sort
open Vl Vp Vr
set_option linter.unusedVariables false
set_option linter.unusedSimpArgs false

theorem wi_no {q k : Nat} {I : Nat → Int} {n : Int} (hk : k < q) (h : I k < 0 ∨ n ≤ I k) : wi q I n = false := by
  unfold wi
  exact decide_eq_false (fun e => by have := e k hk; omega)
theorem wi_yes {q : Nat} {I : Nat → Int} {n : Int} (h : WI q I n) : wi q I n = true := decide_eq_true h
theorem l4Within (B : Nat) (c : Option Addr) (q cap : Nat) (I : Nat → Int) (n : Int) (w : World) (h : Ints B w c q I) (hq : (q : Int) ≤ 1048576) :
    Calls Try.prog 44 #[.slice c q cap, .int .i64 n] w fun e w' => e = .returned (.bool (wi q I n)) ∧ w' = w := by
  have H := hide h
  clear h
  go_enter Try.func44, Try.ntmps44
  go_wp2_with fail
  go_loopw [5] (fun i wx => ∃ k : Nat, k ≤ q ∧ i = .int .i64 k ∧ WI k I n ∧ wx = w) (fun i _ => q - (intOf i).toNat)
  case atStart => exact ⟨0, Nat.zero_le _, rfl, fun j hj => by omega, rfl⟩
  case round =>
    obtain ⟨k, hk, rfl, hall, hw⟩ := hrel
    subst hw
    have HA := hide hall
    clear hall
    by_cases hlt : k < q
    · rcases H.out with h0 | ⟨b', off, rfl, hbB, hc⟩
      · omega
      have c1 := (hc k hlt).1
      have kI : (k : Int) < q := by omega
      clear hc
      by_cases q1 : I k < 0
      · have e := hide (wi_no (n := n) hlt (.inl q1))
        have q1' : decide (I k < 0) = true := decide_eq_true q1
        clear q1
        go_wp2_with fail
        go_ret
        exact ⟨ret_bool e.out.symm, by first | rfl | trivial⟩
      · have q1' : decide (I k < 0) = false := decide_eq_false q1
        by_cases q2 : n ≤ I k
        · have e := hide (wi_no (n := n) hlt (.inr q2))
          have q2' : decide (n ≤ I k) = true := decide_eq_true q2
          clear q1 q2
          go_wp2_with fail
          go_ret
          exact ⟨ret_bool e.out.symm, by first | rfl | trivial⟩
        · have q2' : decide (n ≤ I k) = false := decide_eq_false q2
          have f := hide (show WI (k + 1) I n from fun j hj => by
            by_cases ej : j = k
            · subst ej; omega
            · exact HA.out j (by omega))
          clear q1 q2
          go_wp2_with fail
          go_roundw
          case rel => exact ⟨k + 1, by omega, by go_num, f.out, by first | rfl | trivial⟩
          case measure => simp [intOf]; omega
    · obtain rfl : k = q := by omega
      have e := hide (wi_yes HA.out)
      go_wp2_with fail
      go_ret
      exact ⟨ret_bool e.out.symm, by first | rfl | trivial⟩
/-- what is gathered of a line -/
def gathG (I : Nat → Int) (L : Nat → Int) (k : Nat) : Int := L (I k).toNat
def gathP (r s q : Nat) (D S I : Nat → Int) (x : Int) : PT := if wi q I (lenA r s D S x) = true then lineP r s D S x q (gathG I) else PT.zero
theorem gathP_le (r s q : Nat) (D S I : Nat → Int) (x : Int) : (gathP r s q D S I x).r ≤ r ∧ (((gathP r s q D S I x).s : Nat) : Int) ≤ 4096 := by
  unfold gathP
  split
  · exact lineP_le _ _ _ _ _ _ _
  · exact ⟨Nat.zero_le _, by simp [PT.zero]⟩
theorem gathP_no {r s q : Nat} {D S I : Nat → Int} {x : Int} (h : wi q I (lenA r s D S x) = false) : gathP r s q D S I x = PT.zero := by unfold gathP; rw [h]; simp
theorem gathP_yes {r s q : Nat} {D S I : Nat → Int} {x : Int} (h : wi q I (lenA r s D S x) = true) : gathP r s q D S I x = lineP r s D S x q (gathG I) := by unfold gathP; rw [if_pos h]
set_option maxHeartbeats 1000000 in
theorem gather1 (B P : Nat) (c : Option Addr) (q cap len : Nat) (I : Nat → Int) (w : World) (hB : B ≤ w.heap.size) (hP : w.cell? ⟨P, 0, none⟩ = some (.slice c q cap)) (lP : P < w.heap.size) (hI : Ints B w c q I) (hq : (q : Int) ≤ 1048576) (hw : WI q I len) (hlen : (len : Int) ≤ 4096) :
    LineF 49 #[.pointer (some ⟨P, 0, none⟩)] len q (gathG I) w := by
  intro W g m L hb hg hm hgm hL rl rm
  show Calls Try.prog 49 #[.slice (some ⟨g, 0, none⟩) len len, .slice (some ⟨m, 0, none⟩) q q, .pointer (some ⟨P, 0, none⟩)] W _
  have HL := hide hL
  have RL := hide rl
  have RM := hide rm
  have p0 := (hb.cell (p := ⟨P, 0, none⟩) lP).trans hP
  have HI := hide (hI.below (hb.mono hB))
  have HW := hide hw
  have zb : w.heap.size ≤ W.heap.size := hb.size
  clear hL rl rm hb hP hI hw
  go_enter Try.func49, Try.ntmps49
  go_wp2_with fail
  clear p0
  go_loopw [9] (fun i wx => ∃ t : Nat, t ≤ q ∧ i = .int .i64 t ∧ Rw wx g len L ∧ Rw wx m q (fun u => if u < t then gathG I L u else 0) ∧ Kept (· = m) W wx) (fun i _ => q - (intOf i).toNat)
  case atStart => exact ⟨0, Nat.zero_le _, rfl, RL.out, RM.out.same (fun u hu => by simp), Kept.refl _ _⟩
  case round =>
    obtain ⟨t, ht, rfl, hrl, hrm, hkp⟩ := hrel
    have HRL := hide hrl
    have HRM := hide hrm
    have HKP := hide hkp
    clear hrl hrm hkp
    by_cases hlt : t < q
    · have tI : (t : Int) < q := by omega
      rcases HI.out.kept (by omega) HKP.out (fun y hy e => by have e : y = m := e; omega) with h0 | ⟨b', off, rfl, hbB, hc⟩
      · omega
      have c1 := (hc t hlt).1
      have i1 := HW.out t hlt
      obtain ⟨iv, hiv⟩ : ∃ iv : Nat, I t = iv := ⟨(I t).toNat, by omega⟩
      rw [hiv] at c1 i1
      have ivI : (iv : Int) < len := i1.2
      obtain ⟨c2, f2, bd2⟩ := HRL.out iv (by omega)
      obtain ⟨c3, f3, _⟩ := HRM.out t hlt
      have BD := hide bd2
      have EG := hide (show gathG I L t = L iv by unfold gathG; rw [hiv, Int.toNat_natCast])
      clear hc hiv i1 bd2
      go_wp2_with fail
      go_roundw
      case rel => exact ⟨t + 1, by omega, by go_num, HRL.out.kept (Kept.setCell _ ⟨m, t, none⟩ _) (by show ¬ g = m; exact hgm), (HRM.out.set t (L iv) BD.out).same (fun u hu => by
        by_cases c : u = t
        · subst c; simp [EG.out]
        · by_cases c2 : u < t <;> simp [c, c2] <;> omega), HKP.out.trans (Kept.setCell _ ⟨m, t, none⟩ _)⟩
      case measure => simp [intOf]; omega
    · obtain rfl : t = q := by omega
      go_wp2_with fail
      exact bodyPost_end (results_none rfl _ _ _) rfl ⟨⟨_, rfl⟩, HRM.out.same (fun u hu => by simp [hu]), HKP.out⟩
set_option maxRecDepth 100000 in
set_option maxHeartbeats 1000000 in
theorem gatherF (B : Nat) (a b c : Option Addr) (r s q cap dap cap' : Nat) (D S I : Nat → Int) (x : Int) (w : World) (hB : B ≤ w.heap.size) (h : Ints B w a r D) (h' : Ints B w b s S) (hI : Ints B w c q I) (hr : (r : Int) ≤ 1048576) (hs : (s : Int) ≤ 1048576) (hq : (q : Int) ≤ 1048576) (hcap : r ≤ cap) :
    Calls Try.prog 18 #[.agg #[.slice a r cap, .slice b s dap], .int .i64 x, .slice c q cap'] w fun e w' => TensR w.heap.size (gathP r s q D S I x) w e w' := by
  obtain ⟨W0, hW0⟩ : ∃ W0, ((w.alloc (.cells #[.slice a r cap, .slice b s dap] 26)).alloc (.cells #[.slice c q cap'] 22)).alloc (.cells #[.slice none 0 0, .slice none 0 0] 26) = W0 := ⟨_, rfl⟩
  have hs0 : W0.heap.size = w.heap.size + 1 + 1 + 1 := by rw [← hW0]; simp
  have bl : Below w.heap.size w W0 := by rw [← hW0]; exact (((Below.refl _ _).alloc (Nat.le_refl _) _).alloc (by simp) _).alloc (by simp; omega) _
  have n0 : Bx W0 w.heap.size (.slice a r cap) (.slice b s dap) := by
    rw [← hW0]; exact (bx_new w (.slice a r cap) (.slice b s dap) 26).below (((Below.refl (w.heap.size + 1) _).alloc (by simp) _).alloc (by simp) _) (by omega)
  have i0 : W0.cell? ⟨w.heap.size + 1, 0, none⟩ = some (.slice c q cap') := by rw [← hW0]; simp [go_sem]
  have m0 : Bx W0 (w.heap.size + 1 + 1) (.slice none 0 0) (.slice none 0 0) := by
    have q := bx_new ((w.alloc (.cells #[.slice a r cap, .slice b s dap] 26)).alloc (.cells #[.slice c q cap'] 22)) (.slice none 0 0) (.slice none 0 0) 26
    rw [World.size_alloc, World.size_alloc] at q
    rw [← hW0]; exact q
  have g0 : Free W0 (w.heap.size + 1 + 1) := by
    have q := free_new ((w.alloc (.cells #[.slice a r cap, .slice b s dap] 26)).alloc (.cells #[.slice c q cap'] 22)) #[.slice none 0 0, .slice none 0 0] 26
    rw [World.size_alloc, World.size_alloc] at q
    rw [← hW0]; exact q
  have H := hide (h.below (bl.mono hB))
  have H' := hide (h'.below (bl.mono hB))
  have HI := hide (hI.below (bl.mono hB))
  have BL := hide bl
  have HS0 := hide hs0
  have N0 := hide n0
  have I0 := hide i0
  have M0 := hide m0
  have G0 := hide g0
  have LA := hide (lenA_rng r s D S x)
  obtain ⟨x0, x1⟩ := n0
  clear h h' hI bl m0 g0 hs0
  go_enter Try.func18, Try.ntmps18
  go_upto_region 1 with fail
  clear hW0
  have zW : W0.drew.heap.size = W0.heap.size := rfl
  go_cut [12] (fun v wx => v = .bool (!wi q I (lenA r s D S x)) ∧ Below W0.heap.size W0 wx)
  case first =>
    go_region_with (first
      | (go_at_call 40
         refine (lengthAt B a b r s cap dap D S x W0.drew (by have := HS0.out; show B ≤ W0.heap.size; omega) H.out H'.out hr hs).mono ?_
         rintro e w1 ⟨rfl, b1⟩
         have HI1 := hide (Ints.below (w := W0.drew) HI.out (b1.mono (by have := HS0.out; show B ≤ W0.heap.size; omega)))
         have s1 : B ≤ w1.heap.size := by have := HS0.out; have := b1.size; omega
         have i0' := (b1.cell (p := ⟨w.heap.size + 1, 0, none⟩) (by have := HS0.out; show w.heap.size + 1 < W0.heap.size; omega)).trans I0.out)
      | (go_at_call 48
         refine (within B c q cap' I (lenA r s D S x) w1 s1 HI1.out hq).mono ?_
         rintro e w2 ⟨rfl, b2⟩))
    all_goals (go_wp2_with fail)
    all_goals go_meet
    all_goals exact ⟨rfl, (Below.refl _ _).drew.trans (b1.trans (b2.mono b1.size))⟩
  case rest =>
  obtain ⟨rfl, b1⟩ := hcut
  have z0 := HS0.out
  have N1 := hide (N0.out.below b1 (by omega))
  have M1 := hide (M0.out.below b1 (by omega))
  have G1 := hide (G0.out.below b1 (by omega))
  have I1 := hide ((b1.cell (p := ⟨w.heap.size + 1, 0, none⟩) (by show w.heap.size + 1 < W0.heap.size; omega)).trans I0.out)
  have B1 := hide (BL.out.trans (b1.mono BL.out.size))
  have H1 := hide (H.out.below (b1.mono (by omega)))
  have H1' := hide (H'.out.below (b1.mono (by omega)))
  have HI1 := hide (HI.out.below (b1.mono (by omega)))
  have s1 : w.heap.size + 1 + 1 < wc.heap.size := by have := b1.size; omega
  clear b1 x0 x1 i0 z0
  obtain ⟨x0, x1⟩ := N1.out
  have i0 := I1.out
  obtain ⟨y0, y1⟩ := M1.out
  have gg := G1.out
  unfold Free at gg
  cases hv : wi q I (lenA r s D S x) with
  | false =>
    have ez := hide (gathP_no hv)
    clear hv
    go_wp2_with fail
    refine bodyPost_ret (v := .agg #[.slice none 0 0, .slice none 0 0]) (by simp [results, Try.results18, go_sem, y0, y1]) rfl (by
      rw [ez.out]
      refine tensR_zero ?_
      repeat (refine Below.setCell ?_ (by simp; omega) _)
      exact B1.out)
  | true =>
    have ez := hide (gathP_yes hv)
    have HW := hide (of_decide_eq_true (p := WI q I (lenA r s D S x)) hv)
    clear hv y0 y1 gg
    go_wp2_with fail
    refine (linewise 49 #[.pointer (some ⟨w.heap.size + 1, 0, none⟩)] (gathG I) B a b r s cap dap D S x q _ (by omega) H1.out H1'.out hr hs hcap (by unfold bd; omega) (enters_of Try.func49 (by kernel_rfl) rfl) (fun len N e1 e2 _ _ => by
         have e3 : q = N := by omega
         subst e3
         exact gather1 B (w.heap.size + 1) c q cap' len I _ (by omega) I1.out (by omega) HI1.out hq (by rw [← e1]; exact HW.out) (by have := LA.out; omega))).mono ?_
    rintro e w2 ⟨ta, tb, tc, td, rfl, tz, b2⟩
    have M2 := hide (M1.out.below b2 (by omega))
    have G2 := hide (G1.out.below b2 (by omega))
    have B2 := hide (B1.out.trans (b2.mono B1.out.size))
    have TO := hide tz
    obtain ⟨y0, y1⟩ := M2.out
    have gg := G2.out
    unfold Free at gg
    clear tz b2 x0 x1 i0
    go_wp2_with fail
    refine bodyPost_ret (v := .agg #[.slice ta (lineP r s D S x q (gathG I)).r tc, .slice tb (lineP r s D S x q (gathG I)).s td]) (by simp [results, Try.results18, go_sem, y0, y1]) rfl ?_
    show TensR w.heap.size (gathP r s q D S I x) w _ _
    rw [ez.out]
    exact tens_end TO.out s1 (by omega) B2.out
end Vo
end Go.Proofs.Ytajigcbpooblbaa
