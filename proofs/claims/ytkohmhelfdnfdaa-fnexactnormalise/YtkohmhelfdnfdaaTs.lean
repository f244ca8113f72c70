/- Normalise, the program's pieces: sumOf, dot, the closure. -/
import Derived.Test.YtkohmhelfdnfdaaTi
import Derived.Test.YtkohmhelfdnfdaaPow
namespace Go.Proofs.Ytkohmhelfdnfdaa
namespace Vo
open Go.ChangeShapes Go.WideShapes Go.ChangeAt Go.RowKit Go.Joins Go.Sort
open Vl Vp Vr
set_option linter.unusedVariables false
set_option linter.unusedSimpArgs false

/-- a over b -/
def ov (a b : Int) : Int := (a % 2147483647 * Num.pw (b % 2147483647) 2147483645) % 2147483647
theorem ov_rng (a b : Int) : 0 ≤ ov a b ∧ ov a b < 2147483647 := by unfold ov; omega
/-- the sum of the squares of the first ones -/
def sqS (M : Nat → Int) : Nat → Int | 0 => 0 | n + 1 => (sqS M n + (M n % 2147483647 * (M n % 2147483647)) % 2147483647) % 2147483647
theorem sqS_rng (M : Nat → Int) (n : Nat) : 0 ≤ sqS M n ∧ sqS M n < 2147483647 := by
  cases n with
  | zero => simp [sqS]
  | succ n => unfold sqS; omega
theorem sqS_same {M K : Nat → Int} {n : Nat} (h : ∀ j, j < n → M j = K j) : sqS M n = sqS K n := by
  induction n with
  | zero => rfl
  | succ n ih => unfold sqS; rw [ih (fun j hj => h j (by omega)), h n (by omega)]
def nmM (len : Nat) (L : Nat → Int) : Int := ov (scanS L len) len
def nmD (len : Nat) (L : Nat → Int) (k : Nat) : Int := (L k - nmM len L) % 2147483647
def nmV (len : Nat) (low : Int) (L : Nat → Int) : Int := (ov (sqS (nmD len L) len) len + low) % 2147483647
def nrmG (len : Nat) (low : Int) (L : Nat → Int) (k : Nat) : Int := ov (nmD len L k) (nmV len low L)
theorem nmD_rng (len : Nat) (L : Nat → Int) (k : Nat) : 0 ≤ nmD len L k ∧ nmD len L k < 2147483647 := by unfold nmD; omega
theorem nmV_rng (len : Nat) (low : Int) (L : Nat → Int) : 0 ≤ nmV len low L ∧ nmV len low L < 2147483647 := by unfold nmV; omega
theorem sumOf (g len : Nat) (L : Nat → Int) (w : World) (hr : Rw w g len L) (hL : WI len L 2147483647) (hlen : (len : Int) ≤ 4096) :
    Calls Try.prog 51 #[.slice (some ⟨g, 0, none⟩) len len] w fun e w' => e = .returned (.int .i64 (scanS L len)) ∧ w' = w := by
  have HL := hide hL
  have RL := hide hr
  clear hL hr
  go_enter Try.func51, Try.ntmps51
  go_wp2_with fail
  go_loopw [3, 8] (fun v i wx => ∃ t : Nat, t ≤ len ∧ i = .int .i64 t ∧ v = .int .i64 (scanS L t) ∧ wx = w) (fun _ i _ => len - (intOf i).toNat)
  case atStart => exact ⟨0, Nat.zero_le _, rfl, rfl, rfl⟩
  case round =>
    obtain ⟨t, ht, rfl, rfl, hw⟩ := hrel
    subst hw
    by_cases hlt : t < len
    · have tI : (t : Int) < len := by omega
      obtain ⟨c1, f1, _⟩ := RL.out t hlt
      have b1 := HL.out t hlt
      have b2 := scanS_rng L t
      go_wp2_with fail
      refine (Base.implPlus (scanS L t) (L t) _ (by omega) (by omega) (by omega) (by omega)).mono ?_
      rintro e w1 ⟨rfl, rfl⟩
      go_wp2_with fail
      go_roundw
      case rel => exact ⟨t + 1, by omega, by go_num, rfl, by first | rfl | trivial⟩
      case measure => simp [intOf]; omega
    · obtain rfl : t = len := by omega
      go_wp2_with fail
      go_ret
      exact ⟨rfl, by first | rfl | trivial⟩
theorem dotSelf (g len : Nat) (L : Nat → Int) (w : World) (hr : Rw w g len L) (hL : WI len L 2147483647) (hlen : (len : Int) ≤ 4096) :
    Calls Try.prog 54 #[.slice (some ⟨g, 0, none⟩) len len, .slice (some ⟨g, 0, none⟩) len len] w fun e w' => e = .returned (.int .i64 (sqS L len)) ∧ w' = w := by
  have HL := hide hL
  have RL := hide hr
  clear hL hr
  go_enter Try.func54, Try.ntmps54
  go_wp2_with fail
  go_loopw [5, 10] (fun v i wx => ∃ t : Nat, t ≤ len ∧ i = .int .i64 t ∧ v = .int .i64 (sqS L t) ∧ wx = w) (fun _ i _ => len - (intOf i).toNat)
  case atStart => exact ⟨0, Nat.zero_le _, rfl, rfl, rfl⟩
  case round =>
    obtain ⟨t, ht, rfl, rfl, hw⟩ := hrel
    subst hw
    by_cases hlt : t < len
    · have tI : (t : Int) < len := by omega
      obtain ⟨c1, f1, _⟩ := RL.out t hlt
      have b1 := HL.out t hlt
      have b2 := sqS_rng L t
      obtain ⟨p, hp⟩ : ∃ p, (L t % 2147483647 * (L t % 2147483647)) % 2147483647 = p := ⟨_, rfl⟩
      have p0 : 0 ≤ p ∧ p < 2147483647 := by rw [← hp]; omega
      have TS := hide (show sqS L (t + 1) = (sqS L t + p) % 2147483647 by rw [← hp]; rfl)
      have CT := hide (fun (W : World) => Base.implTimes (L t) (L t) W (by omega) (by omega) (by omega) (by omega))
      rw [hp] at CT
      clear hp
      go_wp2_with fail
      refine (CT.out _).mono ?_
      rintro e w1 ⟨rfl, rfl⟩
      go_wp2_with fail
      refine (Base.implPlus (sqS L t) p _ (by omega) (by omega) (by omega) (by omega)).mono ?_
      rintro e w1 ⟨rfl, rfl⟩
      rw [← TS.out]
      go_wp2_with fail
      go_roundw
      case rel => exact ⟨t + 1, by omega, by go_num, rfl, by first | rfl | trivial⟩
      case measure => simp [intOf]; omega
    · obtain rfl : t = len := by omega
      go_wp2_with fail
      go_ret
      exact ⟨rfl, by first | rfl | trivial⟩
set_option maxHeartbeats 2000000 in
theorem norm1 (P : Nat) (low : Int) (len : Nat) (l1 : 1 ≤ len) (hlen : (len : Int) ≤ 4096) (w : World) (hlow : bd low) (hP : w.cell? ⟨P, 0, none⟩ = some (.int .i64 low)) (lP : P < w.heap.size) :
    LineF 49 #[.pointer (some ⟨P, 0, none⟩)] len len (nrmG len low) w := by
  intro W g m L hb hg hm hgm hL rl rm
  show Calls Try.prog 49 #[.slice (some ⟨g, 0, none⟩) len len, .slice (some ⟨m, 0, none⟩) len len, .pointer (some ⟨P, 0, none⟩)] W _
  have HL := hide hL
  have RL := hide rl
  have RM := hide rm
  have PC := hide ((hb.cell (p := ⟨P, 0, none⟩) lP).trans hP)
  have zb : w.heap.size ≤ W.heap.size := hb.size
  have HLO := hide hlow
  have sr := scanS_rng L len
  obtain ⟨mean, hmean⟩ : ∃ mean, nmM len L = mean := ⟨_, rfl⟩
  have mr : 0 ≤ mean ∧ mean < 2147483647 := by rw [← hmean]; exact ov_rng _ _
  have CO := hide (fun (X : World) => Base.implOver (scanS L len) len X (by omega) (by omega) (by omega) (by omega))
  rw [show (scanS L len % 2147483647 * Num.pw ((len : Int) % 2147483647) 2147483645) % 2147483647 = mean from hmean] at CO
  have HD := hide (show ∀ k, nmD len L k = (L k - mean) % 2147483647 from fun k => by unfold nmD; rw [hmean])
  clear hL rl rm hb hP hlow hmean
  go_enter Try.func49, Try.ntmps49
  go_wp2_with fail
  refine (sumOf g len L _ RL.out HL.out hlen).mono ?_
  rintro e w1 ⟨rfl, hw⟩
  have hw := hw.symm
  subst hw
  go_wp2_with fail
  refine (CO.out _).mono ?_
  rintro e w1 ⟨rfl, hw⟩
  have hw := hw.symm
  subst hw
  go_wp2_with fail
  go_loopw [18] (fun i wx => ∃ t : Nat, t ≤ len ∧ i = .int .i64 t ∧ Rw wx g len L ∧ Rw wx m len (fun u => if u < t then nmD len L u else 0) ∧ Kept (· = m) W wx) (fun i _ => len - (intOf i).toNat)
  case atStart => exact ⟨0, Nat.zero_le _, rfl, RL.out, RM.out.same (fun u hu => by simp), Kept.refl _ _⟩
  case round =>
    obtain ⟨X, rfl⟩ : ∃ X, X = wr := ⟨_, rfl⟩
    obtain ⟨t, ht, rfl, hrl, hrm, hkp⟩ := hrel
    have HRL := hide hrl
    have HRM := hide hrm
    have HKP := hide hkp
    clear hrl hrm hkp
    by_cases hlt : t < len
    · have tI : (t : Int) < len := by omega
      obtain ⟨c1, f1, _⟩ := HRL.out t hlt
      obtain ⟨c2, f2, _⟩ := HRM.out t hlt
      have b1 := HL.out t hlt
      have b2 := nmD_rng len L t
      have CM := hide (fun (X : World) => Base.implMinus (L t) mean X (by omega) (by omega) (by omega) (by omega))
      rw [← HD.out t] at CM
      go_wp2_with fail
      refine (CM.out _).mono ?_
      rintro e w1 ⟨rfl, hw⟩
      have hw := hw.symm
      subst hw
      go_wp2_with fail
      go_roundw
      case rel => exact ⟨t + 1, by omega, by go_num, HRL.out.kept (Kept.setCell _ ⟨m, t, none⟩ _) (by show ¬ g = m; exact hgm), (HRM.out.set t (nmD len L t) (by unfold bd; omega)).same (fun u hu => by
        by_cases c : u = t
        · subst c; simp
        · by_cases c2 : u < t <;> simp [c, c2] <;> omega), HKP.out.trans (Kept.setCell _ ⟨m, t, none⟩ _)⟩
      case measure => simp [intOf]; omega
    · obtain rfl : t = len := by omega
      have RD := hide (HRM.out.same (E := nmD t L) (fun u hu => by simp [hu]))
      have dr := sqS_rng (nmD t L) t
      obtain ⟨q, hq⟩ : ∃ q, ov (sqS (nmD t L) t) t = q := ⟨_, rfl⟩
      have qr : 0 ≤ q ∧ q < 2147483647 := by rw [← hq]; exact ov_rng _ _
      obtain ⟨v, hv⟩ : ∃ v, nmV t low L = v := ⟨_, rfl⟩
      have vr : 0 ≤ v ∧ v < 2147483647 := by rw [← hv]; exact nmV_rng _ _ _
      obtain ⟨sh, hsh⟩ : ∃ sh, Num.pw (v % 2147483647) 2147483645 = sh := ⟨_, rfl⟩
      have shr : 0 ≤ sh ∧ sh < 2147483647 := by rw [← hsh]; exact Num.pw_bd _ _
      have C1 := hide (fun (X' : World) (k : Rw X' m t (nmD t L)) => dotSelf m t (nmD t L) X' k (fun j hj => nmD_rng t L j) hlen)
      have C2 := hide (fun (X' : World) => Base.implOver (sqS (nmD t L) t) t X' (by omega) (by omega) (by omega) (by omega))
      rw [show (sqS (nmD t L) t % 2147483647 * Num.pw ((t : Int) % 2147483647) 2147483645) % 2147483647 = q from hq] at C2
      have bl := HLO.out
      have C3 := hide (fun (X' : World) => Base.implPlus q low X' (by omega) (by omega) bl.1 bl.2)
      rw [show (q + low) % 2147483647 = v by rw [← hv]; unfold nmV; rw [hq]] at C3
      have C4 := hide (fun (X' : World) => Base.implInverse v X' (by omega) (by omega))
      rw [hsh] at C4
      have GE := hide (show ∀ k, nrmG t low L k = (nmD t L k % 2147483647 * (sh % 2147483647)) % 2147483647 from fun k => by
        unfold nrmG ov
        rw [hv, hsh, Int.emod_eq_of_lt shr.1 shr.2])
      have pc := (World.cell?_of_block (w := W) (a := ⟨P, 0, none⟩) (HKP.out.block P (by omega) (by show ¬ P = m; omega))).trans PC.out
      clear hq hv hsh bl
      go_upto_region 6 with fail
      go_cut [8] (fun y wx => y = .int .i64 sh ∧ wx = X.drew)
      case first =>
        go_region_with (first
          | (go_at_call 54; refine (C1.out _ (rw_drew RD.out)).mono ?_; rintro e w1 ⟨rfl, rfl⟩)
          | (go_at_call 50; refine (C2.out _).mono ?_; rintro e w1 ⟨rfl, rfl⟩)
          | (go_at_call 43; refine (C3.out _).mono ?_; rintro e w1 ⟨rfl, rfl⟩)
          | (go_at_call 53; refine (C4.out _).mono ?_; rintro e w1 ⟨rfl, rfl⟩))
        all_goals (go_wp2_with fail)
        all_goals go_meet
        all_goals exact ⟨rfl, rfl⟩
      case rest =>
      obtain ⟨rfl, hw⟩ := hcut
      subst hw
      clear pc
      go_wp2_with fail
      go_loopw [41] (fun i wx => ∃ u : Nat, u ≤ t ∧ i = .int .i64 u ∧ Rw wx m t (fun y => if y < u then nrmG t low L y else nmD t L y) ∧ Kept (· = m) X wx) (fun i _ => t - (intOf i).toNat)
      case atStart => exact ⟨0, Nat.zero_le _, rfl, RD.out.same (fun y hy => by simp), kept_drew (Kept.refl _ _)⟩
      case round =>
        obtain ⟨u, hu, rfl, hrm, hkp⟩ := hrel
        have HRM2 := hide hrm
        have HKP2 := hide hkp
        clear hrm hkp
        by_cases hlu : u < t
        · have uI : (u : Int) < t := by omega
          obtain ⟨c2, f2, _⟩ := HRM2.out u hlu
          have c2 : wr.cell? ⟨m, u, none⟩ = some (.int .i64 (nmD t L u)) := by rw [c2]; simp
          have b2 := nmD_rng t L u
          have CT := hide (fun (X' : World) => Base.implTimes (nmD t L u) sh X' (by omega) (by omega) (by omega) (by omega))
          rw [← GE.out u] at CT
          have gr : 0 ≤ nrmG t low L u ∧ nrmG t low L u < 2147483647 := ov_rng _ _
          go_wp2_with fail
          refine (CT.out _).mono ?_
          rintro e w1 ⟨rfl, hw⟩
          have hw := hw.symm
          subst hw
          go_wp2_with fail
          go_roundw
          case rel => exact ⟨u + 1, by omega, by go_num, (HRM2.out.set u (nrmG t low L u) (by unfold bd; omega)).same (fun y hy => by
            by_cases c : y = u
            · subst c; simp
            · by_cases c2 : y < u
              · simp [c, c2]; omega
              · simp [c, c2]; omega), HKP2.out.trans (Kept.setCell _ ⟨m, u, none⟩ _)⟩
          case measure => simp [intOf]; omega
        · obtain rfl : u = t := by omega
          go_wp2_with fail
          exact bodyPost_end (results_none rfl _ _ _) rfl ⟨⟨_, rfl⟩, HRM2.out.same (fun y hy => by simp [hy]), HKP.out.trans HKP2.out⟩
end Vo
end Go.Proofs.Ytkohmhelfdnfdaa
