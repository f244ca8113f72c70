/- The stable sort walked: two blocks in order merged. -/
import Derived.Test.YtbdcbanbnbaoiaaSq
namespace Go.Proofs.Ytbdcbanbnbaoiaa
namespace So
open Go.ChangeShapes Go.WideShapes Go.ChangeAt Go.RowKit Go.Joins
open Vl
set_option linter.unusedVariables false
set_option linter.unusedSimpArgs false
/-- what stands at a moved up to k -/
def upw (E : Nat → Int) (a k : Nat) : Nat → Int := fun t => if t = k then E a else if a ≤ t ∧ t < k then E (t + 1) else E t
theorem upw_self (E : Nat → Int) (a : Nat) : upw E a a = E := by
  funext t
  unfold upw
  repeat' split
  all_goals first | rfl | omega | (congr 1; omega)
theorem upw_step (E : Nat → Int) {a k : Nat} (h : a ≤ k) : (fun t => if t = k + 1 then upw E a k k else if t = k then upw E a k (k + 1) else upw E a k t) = upw E a (k + 1) := by
  funext t
  unfold upw
  repeat' split
  all_goals first | rfl | omega | (congr 1; omega)
theorem upw_per (E : Nat → Int) {a k b : Nat} (h1 : a ≤ k) (h2 : k < b) : Per E (upw E a k) a b := by
  refine ⟨fun t => if t = k then a else if a ≤ t ∧ t < k then t + 1 else t, fun t => if t = a then k else if a < t ∧ t ≤ k then t - 1 else t, fun t => ?_, fun t => ?_, fun t ht => ?_, fun t => ?_⟩
  · dsimp only
    repeat' split
    all_goals omega
  · dsimp only
    repeat' split
    all_goals omega
  · dsimp only
    repeat' split
    all_goals omega
  · unfold upw
    dsimp only
    repeat' split
    all_goals rfl
theorem upw_srt {K : Int → Int} {E : Nat → Int} {a k b : Nat} (hs : Srt K E (a + 1) b) (hb : ∀ t, a < t → t < b → E a < E t) (h1 : a ≤ k) (h2 : k < b) (hl : ∀ t, a < t → t ≤ k → K (E t) < K (E a)) (hu : ∀ t, k < t → t < b → K (E a) ≤ K (E t)) : Srt K (upw E a k) a b := by
  have A : ∀ t, a ≤ t → t < k → upw E a k t = E (t + 1) := fun t g1 g2 => by unfold upw; rw [if_neg (by omega), if_pos ⟨g1, g2⟩]
  have B : upw E a k k = E a := by unfold upw; rw [if_pos rfl]
  have C : ∀ t, k < t → upw E a k t = E t := fun t g1 => by unfold upw; rw [if_neg (by omega), if_neg (by omega)]
  have low : ∀ t, a < t → t ≤ k → lt K (E t) (E a) := fun t g1 g2 => by have := hl t g1 g2; unfold lt; omega
  have up : ∀ t, k < t → t < b → lt K (E a) (E t) := fun t g1 g2 => by have := hu t g1 g2; have := hb t (by omega) g2; unfold lt; omega
  intro x y g1 g2 g3
  rcases Nat.lt_trichotomy x k with c | c | c
  · rw [A x g1 c]
    rcases Nat.lt_trichotomy y k with d | d | d
    · rw [A y (by omega) d]; exact hs (x + 1) (y + 1) (by omega) (by omega) (by omega)
    · rw [d, B]; exact low (x + 1) (by omega) (by omega)
    · rw [C y d]; exact hs (x + 1) y (by omega) (by omega) g3
  · rw [c, B, C y (by omega)]; exact up y (by omega) g3
  · rw [C x c, C y (by omega)]; exact hs x y (by omega) g2 g3
set_option maxHeartbeats 1000000 in
set_option maxRecDepth 100000 in
/-- the first block has one -/
theorem symA (g r c N : Nat) (D : Nat → Int) (a b F : Nat) (cs : Array Value) (K : Int → Int) (Z : Int → Int → Int) (w : World) (h : Rw w g r D) (h1 : a + 1 < b) (h2 : b ≤ r) (hr : (r : Int) ≤ 1048576) (hc : Cmp F cs K Z N g w)
    (hD : ∀ t, t < r → 0 ≤ D t ∧ D t < N) (hR : Srt K D (a + 1) b) (hB : Bef D a (a + 1) b) :
    Calls Try.prog 50 #[.slice (some ⟨g, 0, none⟩) r c, .int .i64 a, .int .i64 ((a : Int) + 1), .int .i64 b, .func (.func F) #[] cs] w fun e w' => e = .returned (.tuple #[]) ∧ (∃ E, Rw w' g r E ∧ Per D E a b ∧ Srt K E a b) ∧ Kept (· = g) w w' := by
  have H := hide h
  have HC := hide hc
  have HD := hide hD
  have HR := hide hR
  have HB := hide hB
  have eF := hc.enter
  have t1 : ((a : Int) + 1 - a) = 1 := by omega
  clear h hc hD hR hB
  go_enter Try.func50, Try.ntmps50
  go_wp2_with fail
  go_loopw [10, 11] (fun vi vj wx => ∃ i j : Nat, a + 1 ≤ i ∧ i ≤ j ∧ j ≤ b ∧ vi = .int .i64 i ∧ vj = .int .i64 j ∧ Rw wx g r D ∧ (∀ t, a < t → t < i → K (D t) < K (D a)) ∧ (∀ t, j ≤ t → t < b → K (D a) ≤ K (D t)) ∧ Kept (· = g) w wx) (fun vi vj _ => (intOf vj).toNat - (intOf vi).toNat)
  case atStart => exact ⟨a + 1, b, by omega, by omega, by omega, by go_num, rfl, H.out, fun t q1 q2 => by omega, fun t q1 q2 => by omega, Kept.refl _ _⟩
  case round =>
    obtain ⟨i, j, hi, hij, hj, rfl, rfl, hw, hl, hu, hk⟩ := hrel
    rename World => wv
    have HW := hide hw
    have HL := hide hl
    have HU := hide hu
    have HK := hide hk
    clear hw hl hu hk
    by_cases hlt : i < j
    · have hltI : (i : Int) < j := by omega
      obtain ⟨h, eh, h3, h4⟩ : ∃ h : Nat, ((i : Int) + j) / 2 = h ∧ i ≤ h ∧ h < j := ⟨(i + j) / 2, by omega, by omega, by omega⟩
      obtain ⟨c1, f1, b1⟩ := HW.out h (by omega)
      obtain ⟨c2, f2, b2⟩ := HW.out a (by omega)
      obtain ⟨n1, n2⟩ := HD.out h (by omega)
      obtain ⟨n3, n4⟩ := HD.out a (by omega)
      obtain ⟨x, hx⟩ : ∃ x, D h = x := ⟨_, rfl⟩
      obtain ⟨y, hy⟩ : ∃ y, D a = y := ⟨_, rfl⟩
      obtain ⟨z, hz⟩ : ∃ z, Z x y = z := ⟨_, rfl⟩
      have zz : z < 0 ↔ K x < K y := by rw [← hz]; exact HC.out.neg x y
      rw [hx] at c1 n1 n2
      rw [hy] at c2 n3 n4
      have jr : (h : Int) < r := by omega
      have jr1 : (a : Int) < r := by omega
      have cm := hide (fun (q1 : Nat) (os : Array Obj) => show Calls Try.prog F (#[.int .i64 x, .int .i64 y] ++ cs) (Sort.grow (redrawn wv q1) os) (fun e w'' => e = .returned (.int .i64 z) ∧ ∃ p : Regrown, w'' = Sort.grow (redrawn wv p.d) p.os) from Calls.regrown_of (hz ▸ HC.out.does x y _ n1 n2 n3 n4 (HK.out.trans (Kept.of_below (below_regrown wv q1 os)))))
      have k1 := cell_regrown c1
      have k2 := cell_regrown c2
      clear n1 n2 n3 n4 b1 b2 c1 c2 f1 f2
      by_cases z0 : z < 0
      · have z1 : decide (z < 0) = true := decide_eq_true z0
        have ZK := hide (show ∀ t, a < t → t < h + 1 → K (D t) < K (D a) from fun t q1 q2 => by
          have q := zz.mp z0
          rw [hy]
          by_cases e : t = h
          · rw [e, hx]; exact q
          · have := HR.out t h (by omega) (by omega) (by omega)
            unfold lt at this
            rw [hx] at this
            omega)
        clear zz z0
        go_wp2_with fail
        refine wp_region_quiet_below (by kernel_rfl) (by kernel_rfl) ?_
        repeat (go_big_quiet_step (first | exact cm.out _ _))
        refine wpQuiet_nil ?_
        intro _ hw'
        obtain ⟨⟨dq, osq⟩, hw''⟩ := hw'
        subst hw''
        have bl := below_regrown wv dq osq
        have HV2 := hide (HW.out.below bl (HW.out.lt (by omega)))
        have HL2 := hide (HK.out.trans (Kept.of_below bl))
        clear k1 k2 cm bl
        generalize Sort.grow (redrawn wv dq) osq = wy at HV2 HL2 ⊢
        go_wp2_with fail
        go_roundw
        case rel => exact ⟨h + 1, j, by omega, by omega, by omega, by go_num, by go_num, HV2.out, ZK.out, HU.out, HL2.out⟩
        case measure => simp [intOf]; omega
      · have z1 : decide (z < 0) = false := decide_eq_false z0
        have ZK := hide (show ∀ t, h ≤ t → t < b → K (D a) ≤ K (D t) from fun t q1 q2 => by
          have q : ¬ K x < K y := fun e => z0 (zz.mpr e)
          rw [hy]
          by_cases e : t = h
          · rw [e, hx]; omega
          · have := HR.out h t (by omega) (by omega) q2
            unfold lt at this
            rw [hx] at this
            omega)
        clear zz z0
        go_wp2_with fail
        refine wp_region_quiet_below (by kernel_rfl) (by kernel_rfl) ?_
        repeat (go_big_quiet_step (first | exact cm.out _ _))
        refine wpQuiet_nil ?_
        intro _ hw'
        obtain ⟨⟨dq, osq⟩, hw''⟩ := hw'
        subst hw''
        have bl := below_regrown wv dq osq
        have HV2 := hide (HW.out.below bl (HW.out.lt (by omega)))
        have HL2 := hide (HK.out.trans (Kept.of_below bl))
        clear k1 k2 cm bl
        generalize Sort.grow (redrawn wv dq) osq = wy at HV2 HL2 ⊢
        go_wp2_with fail
        go_roundw
        case rel => exact ⟨i, h, by omega, by omega, by omega, by go_num, by go_num, HV2.out, HL.out, ZK.out, HL2.out⟩
        case measure => simp [intOf]; omega
    · have t2 : decide ((i : Int) < j) = false := decide_eq_false (by omega)
      go_wp2_with fail
      go_loopw [13] (fun vk wx => ∃ k : Nat, a ≤ k ∧ k + 1 ≤ i ∧ vk = .int .i64 k ∧ Rw wx g r (upw D a k) ∧ Kept (· = g) w wx) (fun vk _ => i - (intOf vk).toNat)
      case atStart => exact ⟨a, Nat.le_refl _, by omega, rfl, by rw [upw_self]; exact HW.out, HK.out⟩
      case round =>
        obtain ⟨k, hk1, hk2, rfl, hw, hk⟩ := hrel
        rename World => wy
        have HV := hide hw
        have HL2 := hide hk
        clear hw hk
        by_cases hq : k + 1 < i
        · have hqI : (k : Int) < i - 1 := by omega
          obtain ⟨c1, f1, b1⟩ := HV.out k (by omega)
          obtain ⟨c2, f2, b2⟩ := HV.out (k + 1) (by omega)
          obtain ⟨x, hx⟩ : ∃ x, upw D a k k = x := ⟨_, rfl⟩
          obtain ⟨y, hy⟩ : ∃ y, upw D a k (k + 1) = y := ⟨_, rfl⟩
          rw [hx] at c1
          rw [hy] at c2
          have kr : (k : Int) < r := by omega
          have kr1 : (k : Int) + 1 < r := by omega
          have ne : ¬ k = k + 1 := by omega
          clear b1 b2
          go_wp2_with fail
          go_region
          go_wp2_with fail
          go_roundw
          case rel => exact ⟨k + 1, by omega, by omega, by go_num, rw_cast ((rw_swap HV.out (p := k) (q := k + 1) (by omega) (by omega)).same (E := upw D a (k + 1)) (fun t ht => by rw [← upw_step D hk1])) (by rw [hx, hy]), HL2.out.trans (kept_swap _ _ _ _ _ _)⟩
          case measure => simp [intOf]; omega
        · have hqI : decide ((k : Int) < i - 1) = false := decide_eq_false (by omega)
          have S2 := hide (upw_srt (K := K) (E := D) (a := a) (k := k) (b := b) HR.out (fun t q1 q2 => HB.out a t (Nat.le_refl _) (by omega) (by omega) q2) hk1 (by omega) (fun t q1 q2 => HL.out t q1 (by omega)) (fun t q1 q2 => HU.out t (by omega) q2))
          go_wp2_with fail
          exact bodyPost_ret (results_none rfl _ _ _) rfl ⟨rfl, ⟨_, HV.out, upw_per D hk1 (by omega), S2.out⟩, HL2.out⟩
end So
end Go.Proofs.Ytbdcbanbnbaoiaa
