/- Pools of the program: a line's windows. -/
import Derived.Test.YtdenfcckmpkomaaWb
namespace Go.Proofs.Ytdenfcckmpkomaa
namespace Vo
open Go.ChangeShapes Go.WideShapes Go.ChangeAt Go.RowKit Go.Joins Go.Sort
open Vl Vp Vr
set_option linter.unusedVariables false
set_option linter.unusedSimpArgs false
theorem wrap_in {z : Int} (h1 : -9223372036854775808 ≤ z) (h2 : z ≤ 9223372036854775807) : IntKind.i64.wrap z = z := by rw [IntKind.wrap_i64]; omega
/-- what stands in a line of what is made: i windows done, of the next one m joined -/
def poolL (op : Int) (z t : Nat) (L : Nat → Int) (i : Nat) (c : Int) : Nat → Int := fun u => if u < i then poolG op z t L u else if u = i then c else 0
theorem poolL_start (op : Int) (z t : Nat) (L : Nat → Int) (i : Nat) : poolL op z t L i 0 = fun u => if u < i then poolG op z t L u else 0 := by
  funext u
  unfold poolL
  split
  · rfl
  · split <;> rfl
set_option maxRecDepth 100000 in
set_option maxHeartbeats 2000000 in
theorem pool1 (op : Int) (K : Nat) (hm : Mix (two1 op)) (hK : TwoV op K) (Pt Pz Pk : Nat) (t : Int) (Z len N : Nat) (w : World) (cT : w.cell? ⟨Pt, 0, none⟩ = some (.int .i64 t)) (cZ : w.cell? ⟨Pz, 0, none⟩ = some (.int .i64 (Z : Int))) (cK : w.cell? ⟨Pk, 0, none⟩ = some (.func (.func K) #[] #[])) (hP : Pt < w.heap.size ∧ Pz < w.heap.size ∧ Pk < w.heap.size) (h1 : 1 ≤ Z) (h2 : 1 ≤ t) (h3 : Z ≤ len) (h4 : (len : Int) ≤ 4096) (hN : (N : Int) = poolH len Z t) :
    LineF 113 #[.pointer (some ⟨Pt, 0, none⟩), .pointer (some ⟨Pz, 0, none⟩), .pointer (some ⟨Pk, 0, none⟩)] len N (poolG op Z t.toNat) w := by
  intro W g m L hb hg hmm hgm hL rl rm
  show Calls Try.prog 113 #[.slice (some ⟨g, 0, none⟩) len len, .slice (some ⟨m, 0, none⟩) N N, .pointer (some ⟨Pt, 0, none⟩), .pointer (some ⟨Pz, 0, none⟩), .pointer (some ⟨Pk, 0, none⟩)] W _
  have HL := hide hL
  have RL := hide rl
  have RM := hide rm
  have kT := hide ((hb.cell (p := ⟨Pt, 0, none⟩) hP.1).trans cT)
  have kZ := hide ((hb.cell (p := ⟨Pz, 0, none⟩) hP.2.1).trans cZ)
  have kK := hide ((hb.cell (p := ⟨Pk, 0, none⟩) hP.2.2).trans cK)
  have zb : w.heap.size ≤ W.heap.size := hb.size
  have HM := hide hm
  have HKV := hide hK.2
  have eF := hK.1
  have PR := hide (poolH_rng (d := (len : Int)) (z := (Z : Int)) (t := t) (by omega) h2 (by omega))
  have INW := hide (fun (i u : Nat) (hi : i < N) (hu : u < Z) => pool_in (d := (len : Int)) (z := (Z : Int)) (t := t) (i := (i : Int)) (u := (u : Int)) (by omega) h2 (by omega) (by omega) (by omega) (by omega) (by omega))
  have n4 : (N : Int) ≤ 4096 := by have := PR.out; omega
  have HN := hide hN
  clear hL rl rm hb cT cZ cK hm hK hN
  go_enter Try.func113, Try.ntmps113
  go_wp2_with fail
  go_loopw [13] (fun i wx => ∃ k : Nat, k ≤ N ∧ i = .int .i64 k ∧ Rw wx m N (poolL op Z t.toNat L k 0) ∧ Kept (· = m) W wx) (fun i _ => N - (intOf i).toNat)
  case atStart => exact ⟨0, Nat.zero_le _, rfl, RM.out.same (fun u hu => by unfold poolL; rw [if_neg (by omega)]; split <;> rfl), Kept.refl _ _⟩
  case round =>
    obtain ⟨X, rfl⟩ : ∃ X, X = wr := ⟨_, rfl⟩
    obtain ⟨k, hk, rfl, hrm, hkp⟩ := hrel
    have HRM := hide hrm
    have HKP := hide hkp
    have RLX := hide (RL.out.kept hkp hgm)
    have kTX := (World.cell?_of_block (w := W) (a := ⟨Pt, 0, none⟩) (hkp.block Pt (by omega) (by show ¬ Pt = m; omega))).trans kT.out
    have kZX := (World.cell?_of_block (w := W) (a := ⟨Pz, 0, none⟩) (hkp.block Pz (by omega) (by show ¬ Pz = m; omega))).trans kZ.out
    clear hrm hkp
    by_cases hlt : k < N
    · have kI : (k : Int) < N := by omega
      have i0 := INW.out k 0 hlt (by omega)
      have iz := INW.out k (Z - 1) hlt (by omega)
      obtain ⟨m0, hm0⟩ : ∃ m0 : Nat, (k : Int) * t = m0 := ⟨((k : Int) * t).toNat, by omega⟩
      rw [hm0] at i0 iz
      have wm1 : IntKind.i64.wrap ((k : Int) * t) = m0 := by rw [hm0]; exact wrap_in (by omega) (by omega)
      have wm2 : IntKind.i64.wrap ((m0 : Int) + Z) = (m0 : Int) + Z := wrap_in (by omega) (by omega)
      have b1 : (m0 : Int) ≤ (m0 : Int) + Z := by omega
      have b2 : (m0 : Int) + Z ≤ len := by omega
      have b0 : (0 : Int) ≤ (m0 : Int) + Z := by omega
      have zI : (0 : Int) < Z := by omega
      have HM0 := hide hm0
      obtain ⟨c0, _, bc0⟩ := RLX.out m0 (by omega)
      obtain ⟨c1, f1, _⟩ := HRM.out k hlt
      have ML : m0 = k * t.toNat := by
        have e : ((k * t.toNat : Nat) : Int) = (k : Int) * t := by rw [Int.natCast_mul, Int.toNat_of_nonneg (show 0 ≤ t by omega)]
        omega
      have GE := hide (show poolG op Z t.toNat L k = fo (two1 op) (fun u => L (m0 + u)) (Z - 1) by unfold poolG; rw [← ML])
      have LN := hide (show ∀ u, u ≤ Z - 1 → isN (L (m0 + u)) from fun u hu => HL.out (m0 + u) (by omega))
      clear hm0 i0 iz ML
      have EN := hide (show ∀ c, c = fo (two1 op) (fun u => L (m0 + u)) (Z - 1) → ∀ u, u < N → poolL op Z t.toNat L (k + 1) 0 u = if u = k then c else poolL op Z t.toNat L k 0 u from fun c hc u hu => by
        unfold poolL
        by_cases e1 : u = k
        · subst e1
          rw [if_pos (by omega), if_pos rfl, GE.out, hc]
        · rw [if_neg e1]
          by_cases e2 : u < k
          · rw [if_pos (by omega), if_pos e2]
          · rw [if_neg (by omega), if_neg e2, if_neg e1]
            split <;> rfl)
      have BL0 := hide (show bd (L m0) from bc0)
      by_cases z1 : Z = 1
      · subst z1
        have EN1 := hide (EN.out (L m0) rfl)
        go_wp2_with fail
        case inl =>
          go_loopw [35] (fun i wx => i = .int .i64 0 ∧ Rw wx m N (fun u => if u = k then L m0 else poolL op 1 t.toNat L k 0 u) ∧ Kept (· = m) W wx) (fun _ _ => 0)
          case atStart => exact ⟨rfl, HRM.out.set k _ BL0.out, HKP.out.trans (Kept.setCell _ ⟨m, k, none⟩ _)⟩
          case round =>
            obtain ⟨Y, rfl⟩ : ∃ Y, Y = wr := ⟨_, rfl⟩
            obtain ⟨rfl, hr1, hk1⟩ := hrel
            have HR1 := hide hr1
            have HK1 := hide hk1
            clear hr1 hk1
            go_wp2_with fail
            go_roundw
            all_goals first
              | (simp only [intOf]; omega)
              | (simp [intOf]; omega)
              | exact ⟨k + 1, by omega, by go_num, HR1.out.same (fun u hu => EN1.out u hu), HK1.out⟩
        case inr =>
          go_loopw [35] (fun i wx => i = .int .i64 0 ∧ Rw wx m N (fun u => if u = k then L m0 else poolL op 1 t.toNat L k 0 u) ∧ Kept (· = m) W wx) (fun _ _ => 0)
          case atStart => exact ⟨rfl, HRM.out.set k _ BL0.out, HKP.out.trans (Kept.setCell _ ⟨m, k, none⟩ _)⟩
          case round =>
            obtain ⟨Y, rfl⟩ : ∃ Y, Y = wr := ⟨_, rfl⟩
            obtain ⟨rfl, hr1, hk1⟩ := hrel
            have HR1 := hide hr1
            have HK1 := hide hk1
            clear hr1 hk1
            go_wp2_with fail
            go_roundw
            all_goals first
              | (simp only [intOf]; omega)
              | (simp [intOf]; omega)
              | exact ⟨k + 1, by omega, by go_num, HR1.out.same (fun u hu => EN1.out u hu), HK1.out⟩
      · have nz : ¬ (len - m0 - 1 = 0) := by omega
        have nz2 : ¬ (len - m0 = 1) := by omega
        have nz3 : ¬ (len - m0 ≤ 1) := by omega
        go_wp2_with fail
        try simp only [Nat.add_sub_cancel_left]
        go_loopw [35] (fun i wx => ∃ j : Nat, j ≤ Z - 1 ∧ i = .int .i64 j ∧ Rw wx m N (fun u => if u = k then fo (two1 op) (fun u => L (m0 + u)) j else poolL op Z t.toNat L k 0 u) ∧ Kept (· = m) W wx) (fun i _ => Z - 1 - (intOf i).toNat)
        case atStart => exact ⟨0, Nat.zero_le _, rfl, HRM.out.set k _ BL0.out, HKP.out.trans (Kept.setCell _ ⟨m, k, none⟩ _)⟩
        case round =>
          obtain ⟨Y, rfl⟩ : ∃ Y, Y = wr := ⟨_, rfl⟩
          obtain ⟨j, hj, rfl, hr1, hk1⟩ := hrel
          have HR1 := hide hr1
          have HK1 := hide hk1
          have RLY := hide (RL.out.kept hk1 hgm)
          have kKY := (World.cell?_of_block (w := W) (a := ⟨Pk, 0, none⟩) (hk1.block Pk (by omega) (by show ¬ Pk = m; omega))).trans kK.out
          clear hr1 hk1
          by_cases hjl : j < Z - 1
          · have jI : (j : Int) < ((Z - 1 : Nat) : Int) := by omega
            obtain ⟨y0, _, by0⟩ := RLY.out (m0 + 1 + j) (by omega)
            obtain ⟨y1, f1', _⟩ := HR1.out k hlt
            dsimp only at y1
            rw [if_pos rfl] at y1
            have FI := hide (fo_isN HM.out (g := fun u => L (m0 + u)) (m := j) (fun i hi => LN.out i (by omega)))
            have LI := hide (show isN (L (m0 + 1 + j)) by rw [show m0 + 1 + j = m0 + (j + 1) by omega]; exact LN.out (j + 1) (by omega))
            obtain ⟨cj, hcj⟩ : ∃ cj, fo (two1 op) (fun u => L (m0 + u)) j = cj := ⟨_, rfl⟩
            obtain ⟨cn, hcn⟩ : ∃ cn, fo (two1 op) (fun u => L (m0 + u)) (j + 1) = cn := ⟨_, rfl⟩
            have TC := hide (show two1 op cj (L (m0 + 1 + j)) = cn by rw [← hcn, ← hcj, show m0 + 1 + j = m0 + (j + 1) by omega]; rfl)
            rw [hcj] at FI y1
            have CF := hide (fun (W : World) => HKV.out cj (L (m0 + 1 + j)) W FI.out LI.out)
            rw [TC.out] at CF
            have BCN := hide (show bd cn by have q := HM.out.isN _ _ FI.out LI.out; rw [TC.out] at q; unfold isN at q; unfold bd; omega)
            have HCN := hide hcn
            clear hcj hcn
            go_wp2_with fail
            go_region_with (first
              | (refine (CF.out _).mono ?_; rintro e w1 ⟨rfl, rfl⟩))
            all_goals (go_wp2_with fail)
            all_goals go_roundw
            all_goals first
              | (simp only [intOf]; omega)
              | (simp [intOf]; omega)
              | exact ⟨j + 1, by omega, by go_num, ((rw_drew HR1.out).set k _ BCN.out).same (fun u hu => by
                  rw [HCN.out]
                  by_cases c : u = k
                  · simp [c]
                  · simp [c]), (kept_drew HK1.out).trans (Kept.setCell _ ⟨m, k, none⟩ _)⟩
          · have ej : j = Z - 1 := by omega
            have R2 := hide (HR1.out.same (fun u hu => EN.out _ (by rw [ej]) u hu))
            clear ej
            go_wp2_with fail
            go_roundw
            all_goals first
              | (simp only [intOf]; omega)
              | (simp [intOf]; omega)
              | exact ⟨k + 1, by omega, by go_num, R2.out, HK1.out⟩
    · obtain rfl : k = N := by omega
      go_wp2_with fail
      exact bodyPost_end (results_none rfl _ _ _) rfl ⟨⟨_, rfl⟩, HRM.out.same (fun u hu => by unfold poolL; rw [if_pos hu]), HKP.out⟩
end Vo
end Go.Proofs.Ytdenfcckmpkomaa
