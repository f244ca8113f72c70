/- The stable sort walked: stable, SortStableFunc. -/
import Derived.Test.YtbdcbanbnbaoiaaSv
namespace Go.Proofs.Ytbdcbanbnbaoiaa
namespace So
open Go.ChangeShapes Go.WideShapes Go.ChangeAt Go.RowKit Go.Joins
open Vl
set_option linter.unusedVariables false
set_option linter.unusedSimpArgs false
set_option maxHeartbeats 4000000 in
set_option maxRecDepth 100000 in
theorem stableF (g r c N : Nat) (D : Nat → Int) (F : Nat) (cs : Array Value) (K : Int → Int) (Z : Int → Int → Int) (w : World) (h : Rw w g r D) (hr : (r : Int) ≤ 1048576) (hc : Cmp F cs K Z N g w)
    (hD : ∀ t, t < r → 0 ≤ D t ∧ D t < N) (hO : ∀ s t, s < t → t < r → D s < D t) :
    Calls Try.prog 45 #[.slice (some ⟨g, 0, none⟩) r c, .int .i64 r, .func (.func F) #[] cs] w fun e w' => e = .returned (.tuple #[]) ∧ (∃ E, Rw w' g r E ∧ Per D E 0 r ∧ Srt K E 0 r) ∧ Kept (· = g) w w' := by
  have H := hide h
  have HC := hide hc
  have HD := hide hD
  have HO := hide hO
  have HS := hide (symF g r c N F cs K Z w hr hc)
  have eF := hc.enter
  clear h hc hD hO
  go_enter Try.func45, Try.ntmps45
  go_wp2_with fail
  go_loopw [7, 8] (fun va vb wx => ∃ (k : Nat) (E : Nat → Int), 20 * k ≤ r ∧ va = .int .i64 (20 * (k : Int)) ∧ vb = .int .i64 (20 * (k : Int) + 20) ∧ Rw wx g r E ∧ P1 K D E r k ∧ Kept (· = g) w wx) (fun va vb _ => r - (intOf va).toNat)
  case atStart => exact ⟨0, D, by omega, by go_num, by go_num, H.out, p1_zero HO.out, Kept.refl _ _⟩
  case round =>
    obtain ⟨k, E, hk, rfl, rfl, hw, hp, hkk⟩ := hrel
    rename World => wv
    have HW := hide hw
    have HP := hide hp
    have HK := hide hkk
    have DE := hide (hp.per.rng (r := r) (N := N) hk HD.out)
    clear hw hp hkk
    obtain ⟨a, ea⟩ : ∃ a : Nat, a = 20 * k := ⟨_, rfl⟩
    have EA := hide ea
    have e1 : 20 * (k : Int) = a := by omega
    have ha : a ≤ r := by omega
    clear ea
    by_cases hlt : a + 20 ≤ r
    · have hltI : (a : Int) + 20 ≤ r := by omega
      have CI := hide (insF g r c N E a (a + 20) F cs K Z wv HW.out (by omega) hlt hr (HC.out.kept HK.out) DE.out (fun s t s1 s2 s3 => HP.out.inc HO.out s t (by rw [← EA.out]; exact s1) s2 (by omega)))
      rw [show ((a + 20 : Nat) : Int) = (a : Int) + 20 by omega] at CI
      go_wp2_with fail
      refine CI.out.mono ?_
      rintro ed w1 ⟨rfl, ⟨E1, a1, a2, a3⟩, a4⟩
      have W1 := hide a1
      have K1 := hide (HK.out.trans a4)
      have N1 := hide (HP.out.next (E' := E1) (by rw [← EA.out]; exact hlt) (by rw [← EA.out]; exact a2) (by rw [← EA.out]; exact a3))
      clear a1 a2 a3 a4 CI
      go_wp2_with fail
      go_roundw
      case rel => exact ⟨k + 1, E1, by have := EA.out; omega, by have := EA.out; go_num, by have := EA.out; go_num, W1.out, N1.out, K1.out⟩
      case measure => simp [intOf]; omega
    · have hltI : decide ((a : Int) + 20 ≤ r) = false := decide_eq_false (by omega)
      have CI := hide (insF g r c N E a r F cs K Z wv HW.out ha (Nat.le_refl _) hr (HC.out.kept HK.out) DE.out (fun s t s1 s2 s3 => HP.out.inc HO.out s t (by rw [← EA.out]; exact s1) s2 s3))
      go_wp2_with fail
      refine CI.out.mono ?_
      rintro ed w1 ⟨rfl, ⟨E1, a1, a2, a3⟩, a4⟩
      have W1 := hide a1
      have K1 := hide (HK.out.trans a4)
      have N1 := hide (HP.out.last (E' := E1) (by rw [← EA.out]; exact ha) (by rw [← EA.out]; omega) (by rw [← EA.out]; exact a2) (by rw [← EA.out]; exact a3))
      clear a1 a2 a3 a4 CI e1 hltI
      go_wp2_with fail
      go_loopw [6] (fun vs wx => ∃ (s : Nat) (E : Nat → Int), 20 ≤ s ∧ s ≤ 2 * r + 20 ∧ vs = .int .i64 s ∧ Rw wx g r E ∧ Per D E 0 r ∧ Blk K E r s ∧ Kept (· = g) w wx) (fun vs _ => r - (intOf vs).toNat)
      case atStart => exact ⟨20, E1, by omega, by omega, rfl, W1.out, N1.out.1, N1.out.2, K1.out⟩
      case round =>
        obtain ⟨s, E2, hs, hs2, rfl, hw, hp, hb, hkk⟩ := hrel
        rename World => wy
        have HW2 := hide hw
        have HP2 := hide hp
        have HB2 := hide hb
        have HK2 := hide hkk
        clear hw hp hb hkk
        by_cases hq : s < r
        case neg =>
          have hqI : decide ((s : Int) < r) = false := decide_eq_false (by omega)
          have SS := hide (HB2.out.all (by omega))
          go_wp2_with fail
          exact bodyPost_end (results_none rfl _ _ _) rfl ⟨rfl, ⟨E2, HW2.out, HP2.out, SS.out⟩, HK2.out⟩
        have hqI : (s : Int) < r := by omega
        obtain ⟨d, ed⟩ : ∃ d : Nat, d = 2 * s := ⟨_, rfl⟩
        have e1 : 2 * (s : Int) = d := by omega
        have e2 : (s : Int) * 2 = d := by omega
        have ED := hide ed
        have hd : d ≤ 2 * r := by omega
        have hsd : s < d := by omega
        clear ed
        go_wp2_with fail
        go_loopw [7, 8] (fun va vb wx => ∃ (k a : Nat) (E : Nat → Int), a ≤ r ∧ va = .int .i64 a ∧ vb = .int .i64 ((a : Int) + d) ∧ Rw wx g r E ∧ P2 K E2 E r s k a ∧ Kept (· = g) w wx) (fun va vb _ => r - (intOf va).toNat)
        case atStart => exact ⟨0, 0, E2, by omega, by go_num, by go_num, HW2.out, p2_zero HB2.out, HK2.out⟩
        case round =>
          obtain ⟨k', a', E3, ha', rfl, rfl, hw, hp, hkk⟩ := hrel
          rename World => wz
          have HW3 := hide hw
          have HP3 := hide hp
          have HK3 := hide hkk
          have DE3 := hide (hp.per.rng (r := r) (N := N) ha' (HP2.out.rng (Nat.le_refl _) HD.out))
          clear hw hp hkk
          by_cases hlt' : a' + d ≤ r
          · have hltI : (a' : Int) + d ≤ r := by omega
            have CS := hide (HS.out (r + 1) a' (a' + s) (a' + d) E3 wz (by omega) (by omega) (by omega) hlt' HW3.out DE3.out ((HP3.out.one HB2.out).sub (Nat.le_refl _) (by omega)) ((HP3.out.two HB2.out).sub (Nat.le_refl _) (by have := ED.out; omega)) (HP3.out.both HB2.out hlt') HK3.out)
            rw [show ((a' + s : Nat) : Int) = (a' : Int) + s by omega, show ((a' + d : Nat) : Int) = (a' : Int) + d by omega] at CS
            go_wp2_with fail
            refine CS.out.mono ?_
            rintro ed w4 ⟨rfl, ⟨E4, a1, a2, a3⟩, a4⟩
            have W4 := hide a1
            have K4 := hide (HK3.out.trans a4)
            have N4 := hide (HP3.out.next (E' := E4) (by rw [← ED.out]; exact hlt') (by rw [← ED.out]; exact a2) (by rw [← ED.out]; exact a3))
            clear a1 a2 a3 a4 CS
            go_wp2_with fail
            go_roundw
            case rel => exact ⟨k' + 1, a' + d, E4, by omega, by go_num, by go_num, W4.out, by rw [ED.out]; exact N4.out, K4.out⟩
            case measure => simp [intOf]; omega
          · have hltI : decide ((a' : Int) + d ≤ r) = false := decide_eq_false (by omega)
            by_cases hm : a' + s < r
            · have hmI : (a' : Int) + s < r := by omega
              have CS := hide (HS.out (r + 1) a' (a' + s) r E3 wz (by omega) (by omega) hm (Nat.le_refl _) HW3.out DE3.out ((HP3.out.one HB2.out).sub (Nat.le_refl _) (by omega)) ((HP3.out.two HB2.out).sub (Nat.le_refl _) (by have := ED.out; omega)) (HP3.out.both HB2.out (Nat.le_refl _)) HK3.out)
              rw [show ((a' + s : Nat) : Int) = (a' : Int) + s by omega] at CS
              go_wp2_with fail
              refine CS.out.mono ?_
              rintro ed w4 ⟨rfl, ⟨E4, a1, a2, a3⟩, a4⟩
              have W4 := hide a1
              have K4 := hide (HK3.out.trans a4)
              have N4 := hide (HP3.out.last (E' := E4) ha' (by rw [← ED.out]; omega) a2 a3)
              clear a1 a2 a3 a4 CS
              go_wp2_with fail
              go_roundw
              case rel => exact ⟨d, E4, by omega, by omega, by go_num, W4.out, HP2.out.trans N4.out.1, by rw [ED.out]; exact N4.out.2, K4.out⟩
              case measure => simp [intOf]; omega
            · have hmI : decide ((a' : Int) + s < r) = false := decide_eq_false (by omega)
              have N4 := hide (HP3.out.last (E' := E3) ha' (by rw [← ED.out]; omega) (Per.refl _ _ _) ((HP3.out.one HB2.out).sub (Nat.le_refl _) (by omega)))
              go_wp2_with fail
              go_roundw
              case rel => exact ⟨d, E3, by omega, by omega, by go_num, HW3.out, HP2.out.trans N4.out.1, by rw [ED.out]; exact N4.out.2, HK3.out⟩
              case measure => simp [intOf]; omega
theorem sortF (g r c N : Nat) (D : Nat → Int) (F : Nat) (cs : Array Value) (K : Int → Int) (Z : Int → Int → Int) (w : World) (h : Rw w g r D) (hr : (r : Int) ≤ 1048576) (hc : Cmp F cs K Z N g w)
    (hD : ∀ t, t < r → 0 ≤ D t ∧ D t < N) (hO : ∀ s t, s < t → t < r → D s < D t) :
    Calls Try.prog 33 #[.slice (some ⟨g, 0, none⟩) r c, .func (.func F) #[] cs] w fun e w' => e = .returned (.tuple #[]) ∧ (∃ E, Rw w' g r E ∧ Per D E 0 r ∧ Srt K E 0 r) ∧ Kept (· = g) w w' := by
  have CS := hide (stableF g r c N D F cs K Z w h hr hc hD hO)
  clear h hc hD hO
  go_enter Try.func33, Try.ntmps33
  go_wp2_with fail
  refine CS.out.mono ?_
  rintro ed w4 ⟨rfl, ⟨E4, a1, a2, a3⟩, a4⟩
  have R := hide (And.intro a1 (And.intro a2 a3))
  have K4 := hide a4
  clear a1 a2 a3 a4 CS
  go_wp2_with fail
  exact bodyPost_end (results_none rfl _ _ _) rfl ⟨rfl, ⟨E4, R.out⟩, K4.out⟩
end So
end Go.Proofs.Ytbdcbanbnbaoiaa
