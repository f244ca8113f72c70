/- Fold of the program: laidBack. -/
import Derived.Test.YtldcacdopijfdabUw
import Derived.Test.YtldcacdopijfdabVas
import Derived.Test.YtldcacdopijfdabVaj
import Derived.Test.YtldcacdopijfdabEq
import Derived.Test.YtldcacdopijfdabTi
namespace Go.Proofs.Ytldcacdopijfdab
namespace Vo
open Go.ChangeShapes Go.WideShapes Go.ChangeAt Go.RowKit Go.Joins Go.Sort
open Vl Vp Vr
set_option linter.unusedVariables false
set_option linter.unusedSimpArgs false
set_option maxRecDepth 100000 in
set_option maxHeartbeats 3000000 in
theorem laidBack (B : Nat) (a b c d : Option Addr) (g0 : Addr) (r s cap dap vr vs vcap vdap q cap' : Nat) (D S Q T E : Nat → Int) (o n : Int) (w : World) (hB : B ≤ w.heap.size) (h : Ints B w a r D) (h' : Ints B w b s S) (hv : Ints B w c vr Q) (hv' : Ints B w d vs T) (he : Ints B w (some g0) q E) (hr : (r : Int) ≤ 1048576) (hs : (s : Int) ≤ 4096) (hvr : (vr : Int) ≤ 1048576) (hvs : (vs : Int) ≤ 1048576) (hq : (q : Int) ≤ 1048576)
    (hE : dok q E = true) (hc : cntS vr vs Q T o n = s) (hp : ∀ i, i < s → 0 ≤ plcN Q T vr o i ∧ plcN Q T vr o i < ((cntT q E : Nat) : Int)) (hS : WI s S 2147483647) :
    Calls Try.prog 40 #[.agg #[.slice a r cap, .slice b s dap], .agg #[.slice c vr vcap, .slice d vs vdap, .int .i64 o, .int .i64 n], .slice (some g0) q cap'] w fun e w' => TensR w.heap.size ⟨q, cntT q E, E, fun p => scaS (plcN Q T vr o) S (p : Int) s⟩ w e w' := by
  obtain ⟨W0, hW0⟩ : ∃ W0, ((w.alloc (.cells #[.slice a r cap, .slice b s dap] 35)).alloc (.cells #[.slice c vr vcap, .slice d vs vdap, .int .i64 o, .int .i64 n] 26)).alloc (.cells #[.slice none 0 0, .slice none 0 0] 35) = W0 := ⟨_, rfl⟩
  have hs0 : W0.heap.size = w.heap.size + 1 + 1 + 1 := by rw [← hW0]; simp
  have bl : Below w.heap.size w W0 := by rw [← hW0]; exact (((Below.refl _ _).alloc (Nat.le_refl _) _).alloc (by simp) _).alloc (by simp; omega) _
  have n0 : Bx W0 w.heap.size (.slice a r cap) (.slice b s dap) := by
    rw [← hW0]; exact (bx_new w (.slice a r cap) (.slice b s dap) 35).below (((Below.refl (w.heap.size + 1) _).alloc (by simp) _).alloc (by simp) _) (by omega)
  have v0 : Box W0 (w.heap.size + 1) (.slice c vr vcap) (.slice d vs vdap) (.int .i64 o) (.int .i64 n) := by
    have q := box_new (w.alloc (.cells #[.slice a r cap, .slice b s dap] 35)) (.slice c vr vcap) (.slice d vs vdap) (.int .i64 o) (.int .i64 n) 26
    rw [World.size_alloc] at q
    rw [← hW0]; exact q.below (B := w.heap.size + 1 + 1) ((Below.refl _ _).alloc (by simp) _) (by omega)
  have m0 : Bx W0 (w.heap.size + 1 + 1) (.slice none 0 0) (.slice none 0 0) := by
    have q := bx_new ((w.alloc (.cells #[.slice a r cap, .slice b s dap] 35)).alloc (.cells #[.slice c vr vcap, .slice d vs vdap, .int .i64 o, .int .i64 n] 26)) (.slice none 0 0) (.slice none 0 0) 35
    rw [World.size_alloc, World.size_alloc] at q
    rw [← hW0]; exact q
  have f0 : Free W0 (w.heap.size + 1 + 1) := by
    have q := free_new ((w.alloc (.cells #[.slice a r cap, .slice b s dap] 35)).alloc (.cells #[.slice c vr vcap, .slice d vs vdap, .int .i64 o, .int .i64 n] 26)) #[.slice none 0 0, .slice none 0 0] 35
    rw [World.size_alloc, World.size_alloc] at q
    rw [← hW0]; exact q
  have H' := hide (h'.below (bl.mono hB))
  have HV := hide (hv.below (bl.mono hB))
  have HV' := hide (hv'.below (bl.mono hB))
  have HE := hide (he.below (bl.mono hB))
  have BL := hide bl
  have HS0 := hide hs0
  have N0 := hide n0
  have V0 := hide v0
  have M0 := hide m0
  have F0 := hide f0
  have HC := hide hc
  have HP := hide hp
  have HSS := hide hS
  have HD := hide hE
  have zz : cntT q E = cntT q E := rfl
  obtain ⟨z, hz⟩ : ∃ z, cntT q E = z := ⟨_, rfl⟩
  have z4 : (z : Int) ≤ 4096 := by rw [← hz]; exact cntT_le q E
  have EF := hide (show fillP q E 0 = ⟨q, z, E, fun _ => 0 % 2147483647⟩ by unfold fillP; rw [if_pos HD.out, hz])
  have zp : 1 ≤ z := by have := (dok_iff.1 hE).2; have := cntT_cast q E; omega
  rw [hz] at HP ⊢
  clear h h' hv hv' he bl n0 v0 m0 f0 hc hp hS hE zz hz hs0
  go_enter Try.func40, Try.ntmps40
  go_wp2_with fail
  clear hW0
  refine (fillF B g0 q cap' E 0 _ (by have := HS0.out; omega) HE.out hq (by unfold bd; omega)).mono ?_
  rintro e w1 ⟨fa, fb, fc, fd, rfl, fo, b1⟩
  rw [EF.out] at fo ⊢
  have zs := HS0.out
  obtain ⟨W1, hW1⟩ : ∃ W1, w1.alloc (.cells #[.slice fa q fc, .slice fb z fd] 35) = W1 := ⟨_, rfl⟩
  have b2 : Below w1.heap.size w1 W1 := by rw [← hW1]; exact (Below.refl _ _).alloc (Nat.le_refl _) _
  have z1 : W1.heap.size = w1.heap.size + 1 := by rw [← hW1]; simp
  have sb := b1.size
  have O1 := hide (show Bx W1 w1.heap.size (.slice fa q fc) (.slice fb z fd) by rw [← hW1]; exact bx_new w1 _ _ _)
  have N1 := hide ((N0.out.below b1 (by omega)).below b2 (by omega))
  have V1 := hide ((V0.out.below b1 (by omega)).below b2 (by omega))
  have M1 := hide ((M0.out.below b1 (by omega)).below b2 (by omega))
  have F1 := hide ((F0.out.below b1 (by omega)).below b2 (by omega))
  have B1 := hide ((BL.out.trans (b1.mono (by omega))).trans (b2.mono (by omega)))
  have H1' := hide ((H'.out.below (b1.mono (by omega))).below (b2.mono (by omega)))
  have HV1 := hide ((HV.out.below (b1.mono (by omega))).below (b2.mono (by omega)))
  have HV1' := hide ((HV'.out.below (b1.mono (by omega))).below (b2.mono (by omega)))
  have FO := hide (fo.below b2)
  have FB := hide (fun k hk => fo.blk (k := k) hk)
  have Z1 := hide z1
  have s1 : w.heap.size + 1 + 1 < w1.heap.size := by omega
  clear b1 b2 fo z1 sb zs
  obtain ⟨x0, x1, x2, x3⟩ := V1.out
  go_wp2_with fail
  clear hW1
  refine (placesS B c d vr vs vcap vdap Q T o n _ (by have := Z1.out; omega) HV1.out HV1'.out hvr hvs).mono ?_
  rintro e w2 ⟨pa, pc, rfl, po, b3⟩
  rw [HC.out] at po ⊢
  have zz := Z1.out
  have O2 := hide (O1.out.below b3 (by omega))
  have N2 := hide (N1.out.below b3 (by omega))
  have M2 := hide (M1.out.below b3 (by omega))
  have F2 := hide (F1.out.below b3 (by omega))
  have B2 := hide (B1.out.trans (b3.mono B1.out.size))
  have H2' := hide (H1'.out.below (b3.mono (by omega)))
  have PO := hide po
  have FO2 := hide (FO.out.below b3)
  have s2 : w1.heap.size < w2.heap.size := by have := b3.size; omega
  have FN := hide (fun k (hk : VBlk fa fb q z k) => show W0.heap.size ≤ k ∧ k < w1.heap.size from FB.out k hk)
  have PB := hide (fun k (hk : Blk pa s k) => show w1.heap.size < k by have := (po.blk hk).1; omega)
  clear x0 x1 x2 x3 b3 po zz
  rcases FO2.out.t with h0 | ⟨g, rfl, hg, rg⟩
  · omega
  have hgl := (FN.out g (.inr ⟨by omega, _, rfl, rfl⟩))
  have g1 : W0.heap.size ≤ g := hgl.1
  have g2 : g < w1.heap.size := hgl.2
  have g3 : w.heap.size + 1 + 1 < g := by have := HS0.out; omega
  have RG := hide rg
  clear rg hgl hg
  go_wp2_with fail
  go_loopw [15] (fun i wx => ∃ t : Nat, t ≤ s ∧ i = .int .i64 t ∧ Rw wx g z (fun p => scaS (plcN Q T vr o) S (p : Int) t) ∧ Kept (· = g) w2 wx) (fun i _ => s - (intOf i).toNat)
  case atStart => exact ⟨0, Nat.zero_le _, rfl, RG.out.same (fun p hp => rfl), Kept.refl _ _⟩
  case round =>
    obtain ⟨X, rfl⟩ : ∃ X, X = wr := ⟨_, rfl⟩
    obtain ⟨t, ht, rfl, hrg, hkp⟩ := hrel
    have HRG := hide hrg
    have HKP := hide hkp
    have OX := hide (O2.out.kept hkp s2 (by show ¬ w1.heap.size = g; omega))
    have NX := hide (N2.out.kept hkp (by omega) (by show ¬ w.heap.size = g; omega))
    clear hrg hkp
    obtain ⟨x0, x1⟩ := OX.out
    obtain ⟨y0, y1⟩ := NX.out
    by_cases hlt : t < s
    · have tI : (t : Int) < s := by omega
      rcases H2'.out.kept (by have := B2.out.size; omega) HKP.out (fun y hy e => by have e : y = g := e; omega) with h0 | ⟨b', off, rfl, hbB, hc⟩
      · omega
      have c1 := (hc t hlt).1
      rcases PO.out.kept HKP.out (fun y hy e => by have := PB.out y hy; have e : y = g := e; omega) with h0 | ⟨pg, rfl, hpg, hpr⟩
      · omega
      have c2 := (hpr t hlt).1
      have pp := HP.out t hlt
      obtain ⟨p0, hp0⟩ : ∃ p0 : Nat, plcN Q T vr o t = p0 := ⟨(plcN Q T vr o t).toNat, by omega⟩
      rw [hp0] at c2 pp
      have pI : (p0 : Int) < z := pp.2
      obtain ⟨c3, f3, _⟩ := HRG.out p0 (by omega)
      have b2 := HSS.out t hlt
      have b3 := scaS_rng (plcN Q T vr o) S p0 t
      have CP := hide (fun (X : World) => Base.implPlus (scaS (plcN Q T vr o) S p0 t) (S t) X (by omega) (by omega) (by omega) (by omega))
      have HP0 := hide hp0
      rw [← scaS_yes (L := S) hp0] at CP
      have b4 := scaS_rng (plcN Q T vr o) S p0 (t + 1)
      have BD := hide (show bd (scaS (plcN Q T vr o) S p0 (t + 1)) by unfold bd; omega)
      clear hc hpr hp0 pp b2 b3 b4
      go_wp2_with fail
      go_region_with (first
        | (go_at_call 67; refine (CP.out _).mono ?_; rintro e w1 ⟨rfl, rfl⟩))
      all_goals (go_wp2_with fail)
      all_goals go_roundw
      all_goals first
        | (simp only [intOf]; omega)
        | (simp [intOf]; omega)
        | exact ⟨t + 1, by omega, by go_num, ((rw_drew HRG.out).set p0 _ BD.out).same (fun u hu => by
            have e := HP0.out
            by_cases c : u = p0
            · subst c; simp
            · rw [scaS_no (show ¬ plcN Q T vr o t = (u : Int) by omega)]; simp [c]), (kept_drew HKP.out).trans (Kept.setCell _ ⟨g, p0, none⟩ _)⟩
    · obtain rfl : t = s := by omega
      have M4 := hide (M2.out.kept HKP.out (by omega) (by show ¬ w.heap.size + 1 + 1 = g; omega))
      have F4 := hide (F2.out.kept HKP.out (by omega) (by show ¬ w.heap.size + 1 + 1 = g; omega))
      have D4 := hide (FO2.out.d.kept HKP.out (fun y hy e => by have e : y = g := e; exact FO2.out.ne y hy ⟨by omega, _, rfl, e.symm⟩))
      have B4 := hide (B2.out.trans (HKP.out.below B2.out.size (fun j e => by have e : j = g := e; omega)))
      obtain ⟨m0, m1⟩ := M4.out
      have gg := F4.out
      unfold Free at gg
      go_wp2_with fail
      refine bodyPost_ret (v := .agg #[.slice fa q fc, .slice (some ⟨g, 0, none⟩) z fd]) (by simp [results, Try.results40, go_sem, m0, m1]) rfl ?_
      exact tens_end (v := ⟨q, z, E, fun p => scaS (plcN Q T vr o) S (p : Int) t⟩) (B := W0.heap.size) (P := w.heap.size + 1 + 1) ⟨D4.out, .inr ⟨g, rfl, g1, HRG.out⟩, fun j q1 q2 => by
          exact FO2.out.ne j q1 q2⟩ (by have := HS0.out; omega) (by omega) B4.out
end Vo
end Go.Proofs.Ytldcacdopijfdab
