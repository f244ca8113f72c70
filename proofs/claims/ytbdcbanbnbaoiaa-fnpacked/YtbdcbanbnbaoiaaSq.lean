/- The stable sort walked: a block sorted by putting each among those ahead. -/
import Derived.Test.YtbdcbanbnbaoiaaSp
import Derived.Lib.QuietBelow
namespace Go.Proofs.Ytbdcbanbnbaoiaa
namespace So
open Go.ChangeShapes Go.WideShapes Go.ChangeAt Go.RowKit Go.Joins
open Vl
set_option linter.unusedVariables false
set_option linter.unusedSimpArgs false
/-- what stands at i moved down to j -/
def ins (E : Nat → Int) (i j : Nat) : Nat → Int := fun t => if t = j then E i else if j < t ∧ t ≤ i then E (t - 1) else E t
theorem ins_self (E : Nat → Int) (i : Nat) : ins E i i = E := by
  funext t
  unfold ins
  repeat' split
  all_goals first | rfl | omega | (congr 1; omega)
theorem ins_step (E : Nat → Int) {i j : Nat} (h1 : 0 < j) (h2 : j ≤ i) : (fun t => if t = j - 1 then ins E i j j else if t = j then ins E i j (j - 1) else ins E i j t) = ins E i (j - 1) := by
  funext t
  unfold ins
  repeat' split
  all_goals first | rfl | omega | (congr 1; omega)
theorem ins_per (E : Nat → Int) {a i j : Nat} (h1 : a ≤ j) (h2 : j ≤ i) : Per E (ins E i j) a (i + 1) := by
  refine ⟨fun t => if t = j then i else if j < t ∧ t ≤ i then t - 1 else t, fun t => if t = i then j else if j ≤ t ∧ t < i then t + 1 else t, fun t => ?_, fun t => ?_, fun t ht => ?_, fun t => ?_⟩
  · dsimp only
    repeat' split
    all_goals omega
  · dsimp only
    repeat' split
    all_goals omega
  · dsimp only
    repeat' split
    all_goals omega
  · unfold ins
    dsimp only
    repeat' split
    all_goals rfl
theorem ins_srt {K : Int → Int} {E : Nat → Int} {a i j : Nat} (hs : Srt K E a i) (hb : ∀ t, a ≤ t → t < i → E t < E i) (h1 : a ≤ j) (h2 : j ≤ i) (hj : ∀ t, j ≤ t → t < i → K (E i) < K (E t)) (hp : j = a ∨ K (E (j - 1)) ≤ K (E i)) : Srt K (ins E i j) a (i + 1) := by
  have low : ∀ t, a ≤ t → t < j → lt K (E t) (E i) := fun t g1 g2 => by
    have q : K (E (j - 1)) ≤ K (E i) := by rcases hp with c | c; omega; exact c
    have q1 : K (E t) ≤ K (E (j - 1)) := by
      by_cases c : t = j - 1
      · rw [c]; omega
      · have := hs t (j - 1) g1 (by omega) (by omega); unfold lt at this; omega
    have q2 := hb t g1 (by omega)
    unfold lt; omega
  have up : ∀ t, j ≤ t → t < i → lt K (E i) (E t) := fun t g1 g2 => by have := hj t g1 g2; unfold lt; omega
  have A : ∀ t, t < j → ins E i j t = E t := fun t ht => by unfold ins; rw [if_neg (by omega), if_neg (by omega)]
  have B : ins E i j j = E i := by unfold ins; rw [if_pos rfl]
  have C : ∀ t, j < t → t ≤ i → ins E i j t = E (t - 1) := fun t g1 g2 => by unfold ins; rw [if_neg (by omega), if_pos ⟨g1, g2⟩]
  intro x y g1 g2 g3
  rcases Nat.lt_trichotomy x j with c | c | c
  · rw [A x c]
    rcases Nat.lt_trichotomy y j with d | d | d
    · rw [A y d]; exact hs x y g1 g2 (by omega)
    · rw [d, B]; exact low x g1 c
    · rw [C y d (by omega)]; exact hs x (y - 1) g1 (by omega) (by omega)
  · rw [c, B, C y (by omega) (by omega)]; exact up (y - 1) (by omega) (by omega)
  · rw [C x c (by omega), C y (by omega) (by omega)]; exact hs (x - 1) (y - 1) (by omega) (by omega) (by omega)
/-- what compares: it lays memory at most, and tells by the key which comes first -/
structure Cmp (F : Nat) (cs : Array Value) (K : Int → Int) (Z : Int → Int → Int) (N g : Nat) (w : World) : Prop where
  enter : ∀ args W, (callFunc F args).run Try.prog W = .ok (.enter F args) W
  does : ∀ (p q : Int) (W : World), 0 ≤ p → p < N → 0 ≤ q → q < N → Kept (· = g) w W → Calls Try.prog F (#[.int .i64 p, .int .i64 q] ++ cs) W fun e W' => e = .returned (.int .i64 (Z p q)) ∧ Below W.heap.size W W'
  neg : ∀ p q, Z p q < 0 ↔ K p < K q
set_option maxHeartbeats 1000000 in
theorem insF (g r c N : Nat) (D : Nat → Int) (a b F : Nat) (cs : Array Value) (K : Int → Int) (Z : Int → Int → Int) (w : World) (h : Rw w g r D) (h1 : a ≤ b) (h2 : b ≤ r) (hr : (r : Int) ≤ 1048576) (hc : Cmp F cs K Z N g w)
    (hD : ∀ t, t < r → 0 ≤ D t ∧ D t < N) (hO : ∀ s t, a ≤ s → s < t → t < b → D s < D t) :
    Calls Try.prog 49 #[.slice (some ⟨g, 0, none⟩) r c, .int .i64 a, .int .i64 b, .func (.func F) #[] cs] w fun e w' => e = .returned (.tuple #[]) ∧ (∃ E, Rw w' g r E ∧ Per D E a b ∧ Srt K E a b) ∧ Kept (· = g) w w' := by
  have H := hide h
  have HC := hide hc
  have HD := hide hD
  have HO := hide hO
  have eF := hc.enter
  clear h hc hD hO
  go_enter Try.func49, Try.ntmps49
  go_wp2_with fail
  go_loopw [8] (fun vi wx => ∃ (i : Nat) (E : Nat → Int), a < i ∧ (i ≤ b ∨ i = a + 1) ∧ vi = .int .i64 i ∧ Rw wx g r E ∧ Per D E a (min i b) ∧ Srt K E a (min i b) ∧ Kept (· = g) w wx) (fun vi _ => b + 1 - (intOf vi).toNat)
  case atStart => exact ⟨a + 1, D, by omega, .inr rfl, by go_num, H.out, Per.refl _ _ _, fun i j q1 q2 q3 => by omega, Kept.refl _ _⟩
  case round =>
    obtain ⟨i, E, hi, hib, rfl, hw, hp, hs, hk⟩ := hrel
    have HW := hide hw
    have HP := hide hp
    have HS := hide hs
    have HK := hide hk
    clear hw hp hs hk
    by_cases hlt : i < b
    · have hltI : (i : Int) < b := by omega
      have EN := hide (show ∀ t, t < r → 0 ≤ E t ∧ E t < N from fun t ht => by
        by_cases q : a ≤ t ∧ t < min i b
        · obtain ⟨s, s1, s2, s3⟩ := HP.out.at q.1 q.2
          rw [s3]; exact HD.out s (by omega)
        · rw [HP.out.out (t := t) (by omega)]; exact HD.out t ht)
      have EO := hide (show ∀ t, a ≤ t → t < i → E t < E i from fun t q1 q2 => by
        obtain ⟨s, s1, s2, s3⟩ := HP.out.at (t := t) q1 (by omega)
        rw [s3, HP.out.out (t := i) (by omega)]
        exact HO.out s i s1 (by omega) hlt)
      go_wp2_with fail
      go_loopw [9] (fun vj wx => ∃ j : Nat, a ≤ j ∧ j ≤ i ∧ vj = .int .i64 j ∧ Rw wx g r (ins E i j) ∧ (∀ t, j ≤ t → t < i → K (E i) < K (E t)) ∧ Kept (· = g) w wx) (fun vj _ => (intOf vj).toNat)
      case atStart => exact ⟨i, by omega, Nat.le_refl _, rfl, by rw [ins_self]; exact HW.out, fun t q1 q2 => by omega, HK.out⟩
      case round =>
        obtain ⟨j, hj1, hj2, rfl, hw, hu, hk⟩ := hrel
        have HV := hide hw
        have HU := hide hu
        have HL := hide hk
        clear hw hu hk
        by_cases hj : a < j
        · have hjI : (a : Int) < j := by omega
          obtain ⟨c1, f1, b1⟩ := HV.out j (by omega)
          obtain ⟨c2, f2, b2⟩ := HV.out (j - 1) (by omega)
          have e1 : ins E i j j = E i := by unfold ins; rw [if_pos rfl]
          have e2 : ins E i j (j - 1) = E (j - 1) := by unfold ins; rw [if_neg (by omega), if_neg (by omega)]
          rw [e1] at c1
          rw [e2] at c2
          obtain ⟨x, hx⟩ : ∃ x, E i = x := ⟨_, rfl⟩
          obtain ⟨y, hy⟩ : ∃ y, E (j - 1) = y := ⟨_, rfl⟩
          obtain ⟨z, hz⟩ : ∃ z, Z x y = z := ⟨_, rfl⟩
          have zz : z < 0 ↔ K x < K y := by rw [← hz]; exact HC.out.neg x y
          obtain ⟨n1, n2⟩ := EN.out i (by omega)
          obtain ⟨n3, n4⟩ := EN.out (j - 1) (by omega)
          rw [hx] at c1 n1 n2
          rw [hy] at c2 n3 n4
          have jr : (j : Int) < r := by omega
          have jr1 : (j : Int) - 1 < r := by omega
          have jt : ((j : Int) - 1).toNat = j - 1 := by omega
          rename World => wv
          have cm := hide (fun (q1 : Nat) (os : Array Obj) => show Calls Try.prog F (#[.int .i64 x, .int .i64 y] ++ cs) (Sort.grow (redrawn wv q1) os) (fun e w'' => e = .returned (.int .i64 z) ∧ ∃ p : Regrown, w'' = Sort.grow (redrawn wv p.d) p.os) from Calls.regrown_of (hz ▸ HC.out.does x y _ n1 n2 n3 n4 (HL.out.trans (Kept.of_below (below_regrown wv q1 os)))))
          clear n1 n2 n3 n4 b1 b2
          have k1 := cell_regrown c1
          have k2 := cell_regrown c2
          by_cases z0 : z < 0
          · have z1 : decide (z < 0) = true := decide_eq_true z0
            have ZK := hide (zz.mp z0)
            clear zz z0
            go_wp2_with fail
            refine wp_region_quiet_below (by kernel_rfl) (by kernel_rfl) ?_
            repeat (go_big_quiet_step (first | exact cm.out _ _))
            refine wpQuiet_nil ?_
            intro _ hw'
            obtain ⟨⟨dq, osq⟩, hw''⟩ := hw'
            subst hw''
            have bl := below_regrown wv dq osq
            have HV2 := hide (HV.out.below bl (HV.out.lt (by omega)))
            have HL2 := hide (HL.out.trans (Kept.of_below bl))
            clear k1 k2 c1 c2 f1 f2 cm bl
            generalize Sort.grow (redrawn wv dq) osq = wy at HV2 HL2 ⊢
            obtain ⟨c1, f1, b1⟩ := HV2.out j (by omega)
            obtain ⟨c2, f2, b2⟩ := HV2.out (j - 1) (by omega)
            rw [e1, hx] at c1
            rw [e2, hy] at c2
            have ne : ¬ j = j - 1 := by omega
            clear b1 b2
            go_wp2_with fail
            go_region
            go_wp2_with fail
            go_roundw
            case rel =>
              refine ⟨j - 1, by omega, by omega, by go_num, rw_cast ((rw_swap HV2.out (p := j) (q := j - 1) (by omega) (by omega)).same (E := ins E i (j - 1)) (fun t ht => by rw [← ins_step E (by omega) hj2])) (by rw [e1, e2, hx, hy]), fun t q1 q2 => ?_, HL2.out.trans (kept_swap _ _ _ _ _ _)⟩
              by_cases q : t = j - 1
              · rw [q, hx, hy]; exact ZK.out
              · exact HU.out t (by omega) q2
            case measure => simp [intOf]; omega
          · have z1 : decide (z < 0) = false := decide_eq_false z0
            have ZK := hide (show K y ≤ K x by omega)
            clear zz z0
            go_wp2_with fail
            refine wp_region_quiet_below (by kernel_rfl) (by kernel_rfl) ?_
            repeat (go_big_quiet_step (first | exact cm.out _ _))
            refine wpQuiet_nil ?_
            intro _ hw'
            obtain ⟨⟨dq, osq⟩, hw''⟩ := hw'
            subst hw''
            have bl := below_regrown wv dq osq
            have HV2 := hide (HV.out.below bl (HV.out.lt (by omega)))
            have HL2 := hide (HL.out.trans (Kept.of_below bl))
            clear k1 k2 c1 c2 f1 f2 cm bl
            generalize Sort.grow (redrawn wv dq) osq = wy at HV2 HL2 ⊢
            have S2 := hide (ins_srt (K := K) (E := E) (a := a) (i := i) (j := j) (HS.out.sub (Nat.le_refl _) (by omega)) EO.out hj1 hj2 HU.out (.inr (by rw [hx, hy]; exact ZK.out)))
            go_wp2_with fail
            go_roundw
            case rel => exact ⟨i + 1, ins E i j, by omega, .inl (by omega), by go_num, HV2.out, (HP.out.wide (Nat.le_refl _) (by omega)).trans ((ins_per E hj1 hj2).wide (Nat.le_refl _) (by omega)), S2.out.sub (Nat.le_refl _) (by omega), HL2.out⟩
            case measure => simp [intOf]; omega
        · have hjI : decide ((a : Int) < j) = false := decide_eq_false (by omega)
          rename World => wv
          have S2 := hide (ins_srt (K := K) (E := E) (a := a) (i := i) (j := j) (HS.out.sub (Nat.le_refl _) (by omega)) EO.out hj1 hj2 HU.out (.inl (by omega)))
          go_wp2_with fail
          refine wp_region_quiet_below (by kernel_rfl) (by kernel_rfl) ?_
          repeat (go_big_quiet_step (fail))
          refine wpQuiet_nil ?_
          intro _ hw'
          obtain ⟨⟨dq, osq⟩, hw''⟩ := hw'
          subst hw''
          have bl := below_regrown wv dq osq
          have HV2 := hide (HV.out.below bl (HV.out.lt (by omega)))
          have HL2 := hide (HL.out.trans (Kept.of_below bl))
          clear bl
          generalize Sort.grow (redrawn wv dq) osq = wy at HV2 HL2 ⊢
          go_wp2_with fail
          go_roundw
          case rel => exact ⟨i + 1, ins E i j, by omega, .inl (by omega), by go_num, HV2.out, (HP.out.wide (Nat.le_refl _) (by omega)).trans ((ins_per E hj1 hj2).wide (Nat.le_refl _) (by omega)), S2.out.sub (Nat.le_refl _) (by omega), HL2.out⟩
          case measure => simp [intOf]; omega
    · have t1 : decide ((i : Int) < b) = false := decide_eq_false (by omega)
      go_wp2_with fail
      exact bodyPost_end (results_none rfl _ _ _) rfl ⟨rfl, ⟨E, HW.out, by have := HP.out; rwa [show min i b = b by omega] at this, by have := HS.out; rwa [show min i b = b by omega] at this⟩, HK.out⟩
end So
end Go.Proofs.Ytbdcbanbnbaoiaa
