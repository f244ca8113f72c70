/- Scatter of the program. -/
import Derived.Test.YtajigcbpooblbaaTk
namespace Go.Proofs.Ytajigcbpooblbaa
namespace Vo
open Go.ChangeShapes Go.WideShapes Go.ChangeAt Go.RowKit Go.Joins Go.Sort
open Vl Vp Vr
set_option linter.unusedVariables false
set_option linter.unusedSimpArgs false

/-- the sum of those among the first ones that belong to place p -/
def scaS (I L : Nat → Int) (p : Int) : Nat → Int | 0 => 0 | t + 1 => if I t = p then (scaS I L p t + L t) % 2147483647 else scaS I L p t
theorem scaS_rng (I L : Nat → Int) (p : Int) (n : Nat) : 0 ≤ scaS I L p n ∧ scaS I L p n < 2147483647 := by
  induction n with
  | zero => simp [scaS]
  | succ n ih => unfold scaS; split <;> omega
theorem scaS_yes {I L : Nat → Int} {p : Int} {t : Nat} (h : I t = p) : scaS I L p (t + 1) = (scaS I L p t + L t) % 2147483647 := by show (if I t = p then _ else _) = _; rw [if_pos h]
theorem scaS_no {I L : Nat → Int} {p : Int} {t : Nat} (h : ¬ I t = p) : scaS I L p (t + 1) = scaS I L p t := by show (if I t = p then _ else _) = _; rw [if_neg h]
def scaG (q : Nat) (I L : Nat → Int) (p : Nat) : Int := scaS I L p q
def scaP (r s q : Nat) (D S I : Nat → Int) (x n : Int) : PT := if (decide ((q : Int) = lenA r s D S x) && wi q I n) = true then lineP r s D S x n (scaG q I) else PT.zero
theorem scaP_le (r s q : Nat) (D S I : Nat → Int) (x n : Int) : (scaP r s q D S I x n).r ≤ r ∧ (((scaP r s q D S I x n).s : Nat) : Int) ≤ 4096 := by
  unfold scaP
  split
  · exact lineP_le _ _ _ _ _ _ _
  · exact ⟨Nat.zero_le _, by simp [PT.zero]⟩
theorem scaP_no {r s q : Nat} {D S I : Nat → Int} {x n : Int} (h : (decide ((q : Int) = lenA r s D S x) && wi q I n) = false) : scaP r s q D S I x n = PT.zero := by unfold scaP; rw [h]; simp
theorem scaP_yes {r s q : Nat} {D S I : Nat → Int} {x n : Int} (h : (decide ((q : Int) = lenA r s D S x) && wi q I n) = true) : scaP r s q D S I x n = lineP r s D S x n (scaG q I) := by unfold scaP; rw [if_pos h]
set_option maxHeartbeats 1000000 in
theorem scatter1 (B P : Nat) (c : Option Addr) (q cap N : Nat) (I : Nat → Int) (w : World) (hB : B ≤ w.heap.size) (hP : w.cell? ⟨P, 0, none⟩ = some (.slice c q cap)) (lP : P < w.heap.size) (hI : Ints B w c q I) (hq : (q : Int) ≤ 4096) (hw : WI q I N) :
    LineF 51 #[.pointer (some ⟨P, 0, none⟩)] q N (scaG q I) w := by
  intro W g m L hb hg hm hgm hL rl rm
  show Calls Try.prog 51 #[.slice (some ⟨g, 0, none⟩) q q, .slice (some ⟨m, 0, none⟩) N N, .pointer (some ⟨P, 0, none⟩)] W _
  have HL := hide hL
  have RL := hide rl
  have RM := hide rm
  have p0 := (hb.cell (p := ⟨P, 0, none⟩) lP).trans hP
  have HI := hide (hI.below (hb.mono hB))
  have HW := hide hw
  have zb : w.heap.size ≤ W.heap.size := hb.size
  clear hL rl rm hb hP hI hw
  go_enter Try.func51, Try.ntmps51
  go_wp2_with fail
  clear p0
  go_loopw [9] (fun i wx => ∃ t : Nat, t ≤ q ∧ i = .int .i64 t ∧ Rw wx g q L ∧ Rw wx m N (fun u => scaS I L u t) ∧ Kept (· = m) W wx) (fun i _ => q - (intOf i).toNat)
  case atStart => exact ⟨0, Nat.zero_le _, rfl, RL.out, RM.out.same (fun u hu => rfl), Kept.refl _ _⟩
  case round =>
    obtain ⟨X, rfl⟩ : ∃ X, X = wr := ⟨_, rfl⟩
    obtain ⟨t, ht, rfl, hrl, hrm, hkp⟩ := hrel
    have HRL := hide hrl
    have HRM := hide hrm
    have HKP := hide hkp
    clear hrl hrm hkp
    by_cases hlt : t < q
    · have tI : (t : Int) < q := by omega
      rcases HI.out.kept (by omega) HKP.out (fun y hy e => by have e : y = m := e; omega) with h0 | ⟨b', off, rfl, hbB, hc⟩
      · omega
      have c1 := (hc t hlt).1
      have i1 := HW.out t hlt
      obtain ⟨iv, hiv⟩ : ∃ iv : Nat, I t = iv := ⟨(I t).toNat, by omega⟩
      rw [hiv] at c1 i1
      have ivI : (iv : Int) < N := i1.2
      obtain ⟨c2, f2, _⟩ := HRL.out t hlt
      obtain ⟨c3, f3, _⟩ := HRM.out iv (by omega)
      have b2 := HL.out t hlt
      have b3 := scaS_rng I L iv t
      have CP := hide (fun (X : World) => Base.implPlus (scaS I L iv t) (L t) X (by omega) (by omega) (by omega) (by omega))
      have HIV := hide hiv
      rw [← scaS_yes (L := L) hiv] at CP
      have b4 := scaS_rng I L iv (t + 1)
      have BD := hide (show bd (scaS I L iv (t + 1)) by unfold bd; omega)
      clear hc hiv i1 b2 b4
      go_wp2_with fail
      go_region_with (first
        | (go_at_call 42; refine (CP.out _).mono ?_; rintro e w1 ⟨rfl, rfl⟩))
      all_goals (go_wp2_with fail)
      all_goals go_roundw
      all_goals first
        | (simp only [intOf]; omega)
        | (simp [intOf]; omega)
        | exact ⟨t + 1, by omega, by go_num, (rw_drew HRL.out).kept (Kept.setCell _ ⟨m, iv, none⟩ _) (by show ¬ g = m; exact hgm), ((rw_drew HRM.out).set iv _ BD.out).same (fun u hu => by
            have e := HIV.out
            by_cases c : u = iv
            · subst c; simp
            · rw [scaS_no (show ¬ I t = (u : Int) by omega)]; simp [c]), (kept_drew HKP.out).trans (Kept.setCell _ ⟨m, iv, none⟩ _)⟩
    · obtain rfl : t = q := by omega
      go_wp2_with fail
      exact bodyPost_end (results_none rfl _ _ _) rfl ⟨⟨_, rfl⟩, HRM.out, HKP.out⟩
set_option maxRecDepth 100000 in
set_option maxHeartbeats 2000000 in
theorem scatterF (B : Nat) (a b c : Option Addr) (r s q cap dap cap' : Nat) (D S I : Nat → Int) (x n : Int) (w : World) (hB : B ≤ w.heap.size) (h : Ints B w a r D) (h' : Ints B w b s S) (hI : Ints B w c q I) (hr : (r : Int) ≤ 1048576) (hs : (s : Int) ≤ 1048576) (hq : (q : Int) ≤ 1048576) (hcap : r ≤ cap) (hn : bd n) :
    Calls Try.prog 22 #[.agg #[.slice a r cap, .slice b s dap], .int .i64 x, .slice c q cap', .int .i64 n] w fun e w' => TensR w.heap.size (scaP r s q D S I x n) w e w' := by
  obtain ⟨W0, hW0⟩ : ∃ W0, ((w.alloc (.cells #[.slice a r cap, .slice b s dap] 26)).alloc (.cells #[.slice c q cap'] 22)).alloc (.cells #[.slice none 0 0, .slice none 0 0] 26) = W0 := ⟨_, rfl⟩
  have hs0 : W0.heap.size = w.heap.size + 1 + 1 + 1 := by rw [← hW0]; simp
  have bl : Below w.heap.size w W0 := by rw [← hW0]; exact (((Below.refl _ _).alloc (Nat.le_refl _) _).alloc (by simp) _).alloc (by simp; omega) _
  have n0 : Bx W0 w.heap.size (.slice a r cap) (.slice b s dap) := by
    rw [← hW0]; exact (bx_new w (.slice a r cap) (.slice b s dap) 26).below (((Below.refl (w.heap.size + 1) _).alloc (by simp) _).alloc (by simp) _) (by omega)
  have i0 : W0.cell? ⟨w.heap.size + 1, 0, none⟩ = some (.slice c q cap') := by rw [← hW0]; simp [go_sem]
  have m0 : Bx W0 (w.heap.size + 1 + 1) (.slice none 0 0) (.slice none 0 0) := by
    have q := bx_new ((w.alloc (.cells #[.slice a r cap, .slice b s dap] 26)).alloc (.cells #[.slice c q cap'] 22)) (.slice none 0 0) (.slice none 0 0) 26
    rw [World.size_alloc, World.size_alloc] at q
    rw [← hW0]; exact q
  have g0 : Free W0 (w.heap.size + 1 + 1) := by
    have q := free_new ((w.alloc (.cells #[.slice a r cap, .slice b s dap] 26)).alloc (.cells #[.slice c q cap'] 22)) #[.slice none 0 0, .slice none 0 0] 26
    rw [World.size_alloc, World.size_alloc] at q
    rw [← hW0]; exact q
  have H := hide (h.below (bl.mono hB))
  have H' := hide (h'.below (bl.mono hB))
  have HI := hide (hI.below (bl.mono hB))
  have BL := hide bl
  have HS0 := hide hs0
  have N0 := hide n0
  have I0 := hide i0
  have M0 := hide m0
  have G0 := hide g0
  have LA := hide (lenA_rng r s D S x)
  obtain ⟨x0, x1⟩ := n0
  clear h h' hI bl m0 g0 hs0
  go_enter Try.func22, Try.ntmps22
  go_upto_region 1 with fail
  clear hW0
  have zW : W0.drew.heap.size = W0.heap.size := rfl
  go_cut [20] (fun v wx => v = .bool (!(decide ((q : Int) = lenA r s D S x) && wi q I n)) ∧ Below W0.heap.size W0 wx)
  case first =>
    have HB0 : B ≤ W0.heap.size := by have := HS0.out; omega
    have cL : ∀ d os, Calls Try.prog 40 #[.agg #[.slice a r cap, .slice b s dap], .int .i64 x] (Sort.grow (redrawn W0 d) os) fun e w'' => e = .returned (.int .i64 (lenA r s D S x)) ∧ ∃ p : Regrown, w'' = Sort.grow (redrawn W0 p.d) p.os := fun d os => Calls.regrown_of (lengthAt B a b r s cap dap D S x _ (Nat.le_trans HB0 (below_regrown W0 d os).size) (H.out.below ((below_regrown W0 d os).mono HB0)) (H'.out.below ((below_regrown W0 d os).mono HB0)) hr hs)
    have cW : ∀ d os, Calls Try.prog 48 #[.slice c q cap', .int .i64 n] (Sort.grow (redrawn W0 d) os) fun e w'' => e = .returned (.bool (wi q I n)) ∧ ∃ p : Regrown, w'' = Sort.grow (redrawn W0 p.d) p.os := fun d os => Calls.regrown_of (within B c q cap' I n _ (Nat.le_trans HB0 (below_regrown W0 d os).size) (HI.out.below ((below_regrown W0 d os).mono HB0)) hq)
    have CL := hide cL
    have CW := hide cW
    have k0 := cell_regrown x0
    have k1 := cell_regrown x1
    have k2 := cell_regrown i0
    clear cL cW HB0 zW
    by_cases c : (q : Int) = lenA r s D S x
    · have c1 : ((q : Int) != lenA r s D S x) = false := by rw [bne_eq_false_iff_eq]; exact c
      have c2 := hide (decide_eq_true c)
      clear c
      refine wp_region_quiet_below (by kernel_rfl) (by kernel_rfl) ?_
      repeat (quiet_step (first | (go_at_call 40; exact CL.out _ _) | (go_at_call 48; exact CW.out _ _)))
      refine wpQuiet_nil ?_
      intro _ hw'
      obtain ⟨⟨dq, osq⟩, hw''⟩ := hw'
      subst hw''
      go_wp2_with fail
      go_meet
      exact ⟨by rw [c2.out]; simp, below_regrown W0 dq osq⟩
    · have c1 : ((q : Int) != lenA r s D S x) = true := by rw [bne_iff_ne]; exact c
      have c2 := hide (decide_eq_false c)
      clear c
      refine wp_region_quiet_below (by kernel_rfl) (by kernel_rfl) ?_
      repeat (quiet_step (first | (go_at_call 40; exact CL.out _ _) | (go_at_call 48; exact CW.out _ _)))
      refine wpQuiet_nil ?_
      intro _ hw'
      obtain ⟨⟨dq, osq⟩, hw''⟩ := hw'
      subst hw''
      go_wp2_with fail
      go_meet
      exact ⟨by rw [c2.out]; simp, below_regrown W0 dq osq⟩
  case rest =>
  obtain ⟨rfl, b1⟩ := hcut
  have z0 := HS0.out
  have N1 := hide (N0.out.below b1 (by omega))
  have M1 := hide (M0.out.below b1 (by omega))
  have G1 := hide (G0.out.below b1 (by omega))
  have I1 := hide ((b1.cell (p := ⟨w.heap.size + 1, 0, none⟩) (by show w.heap.size + 1 < W0.heap.size; omega)).trans I0.out)
  have B1 := hide (BL.out.trans (b1.mono BL.out.size))
  have H1 := hide (H.out.below (b1.mono (by omega)))
  have H1' := hide (H'.out.below (b1.mono (by omega)))
  have HI1 := hide (HI.out.below (b1.mono (by omega)))
  have s1 : w.heap.size + 1 + 1 < wc.heap.size := by have := b1.size; omega
  clear b1 x0 x1 i0 z0
  obtain ⟨x0, x1⟩ := N1.out
  have i0 := I1.out
  obtain ⟨y0, y1⟩ := M1.out
  have gg := G1.out
  unfold Free at gg
  cases hv : (decide ((q : Int) = lenA r s D S x) && wi q I n) with
  | false =>
    have ez := hide (scaP_no hv)
    clear hv
    go_wp2_with fail
    refine bodyPost_ret (v := .agg #[.slice none 0 0, .slice none 0 0]) (by simp [results, Try.results22, go_sem, y0, y1]) rfl (by
      rw [ez.out]
      refine tensR_zero ?_
      repeat (refine Below.setCell ?_ (by simp; omega) _)
      exact B1.out)
  | true =>
    have ez := hide (scaP_yes hv)
    have HQ := hide (of_decide_eq_true (Bool.and_eq_true _ _ ▸ hv).1)
    have HW := hide (of_decide_eq_true (p := WI q I n) (Bool.and_eq_true _ _ ▸ hv).2)
    clear hv y0 y1 gg
    go_wp2_with fail
    refine (linewise 51 #[.pointer (some ⟨w.heap.size + 1, 0, none⟩)] (scaG q I) B a b r s cap dap D S x n _ (by omega) H1.out H1'.out hr hs hcap hn (enters_of Try.func51 (by kernel_rfl) rfl) (fun len N e1 e2 _ _ => by
         have e3 : q = len := by have := HQ.out; omega
         subst e3
         exact scatter1 B (w.heap.size + 1) c q cap' N I _ (by omega) I1.out (by omega) HI1.out (by have := LA.out; omega) (by rw [← e2]; exact HW.out))).mono ?_
    rintro e w2 ⟨ta, tb, tc, td, rfl, tz, b2⟩
    have M2 := hide (M1.out.below b2 (by omega))
    have G2 := hide (G1.out.below b2 (by omega))
    have B2 := hide (B1.out.trans (b2.mono B1.out.size))
    have TO := hide tz
    obtain ⟨y0, y1⟩ := M2.out
    have gg := G2.out
    unfold Free at gg
    clear tz b2 x0 x1 i0
    go_wp2_with fail
    refine bodyPost_ret (v := .agg #[.slice ta (lineP r s D S x n (scaG q I)).r tc, .slice tb (lineP r s D S x n (scaG q I)).s td]) (by simp [results, Try.results22, go_sem, y0, y1]) rfl ?_
    show TensR w.heap.size (scaP r s q D S I x n) w _ _
    rw [ez.out]
    exact tens_end TO.out s1 (by omega) B2.out
end Vo
end Go.Proofs.Ytajigcbpooblbaa
