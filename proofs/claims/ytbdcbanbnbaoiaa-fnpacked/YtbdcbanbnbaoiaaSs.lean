/- The stable sort walked: two blocks in order merged, the second of one. -/
import Derived.Test.YtbdcbanbnbaoiaaSr
namespace Go.Proofs.Ytbdcbanbnbaoiaa
namespace So
open Go.ChangeShapes Go.WideShapes Go.ChangeAt Go.RowKit Go.Joins
open Vl
set_option linter.unusedVariables false
set_option linter.unusedSimpArgs false
set_option maxHeartbeats 1000000 in
set_option maxRecDepth 100000 in
/-- the second block has one -/
theorem symB (g r c N : Nat) (D : Nat → Int) (a m F : Nat) (cs : Array Value) (K : Int → Int) (Z : Int → Int → Int) (w : World) (h : Rw w g r D) (h1 : a + 1 < m) (h2 : m + 1 ≤ r) (hr : (r : Int) ≤ 1048576) (hc : Cmp F cs K Z N g w)
    (hD : ∀ t, t < r → 0 ≤ D t ∧ D t < N) (hR : Srt K D a m) (hB : Bef D a m (m + 1)) :
    Calls Try.prog 50 #[.slice (some ⟨g, 0, none⟩) r c, .int .i64 a, .int .i64 m, .int .i64 ((m : Int) + 1), .func (.func F) #[] cs] w fun e w' => e = .returned (.tuple #[]) ∧ (∃ E, Rw w' g r E ∧ Per D E a (m + 1) ∧ Srt K E a (m + 1)) ∧ Kept (· = g) w w' := by
  have H := hide h
  have HC := hide hc
  have HD := hide hD
  have HR := hide hR
  have HB := hide hB
  have eF := hc.enter
  have t1 : decide ((m : Int) - a = 1) = false := decide_eq_false (by omega)
  have t2 : ((m : Int) + 1 - m) = 1 := by omega
  clear h hc hD hR hB
  go_enter Try.func50, Try.ntmps50
  go_wp2_with fail
  go_loopw [14, 15] (fun vi vj wx => ∃ i j : Nat, a ≤ i ∧ i ≤ j ∧ j ≤ m ∧ vi = .int .i64 i ∧ vj = .int .i64 j ∧ Rw wx g r D ∧ (∀ t, a ≤ t → t < i → K (D t) ≤ K (D m)) ∧ (∀ t, j ≤ t → t < m → K (D m) < K (D t)) ∧ Kept (· = g) w wx) (fun vi vj _ => (intOf vj).toNat - (intOf vi).toNat)
  case atStart => exact ⟨a, m, by omega, by omega, by omega, by go_num, rfl, H.out, fun t q1 q2 => by omega, fun t q1 q2 => by omega, Kept.refl _ _⟩
  case round =>
    obtain ⟨i, j, hi, hij, hj, rfl, rfl, hw, hl, hu, hk⟩ := hrel
    rename World => wv
    have HW := hide hw
    have HL := hide hl
    have HU := hide hu
    have HK := hide hk
    clear hw hl hu hk
    by_cases hlt : i < j
    · have hltI : (i : Int) < j := by omega
      obtain ⟨h, eh, h3, h4⟩ : ∃ h : Nat, ((i : Int) + j) / 2 = h ∧ i ≤ h ∧ h < j := ⟨(i + j) / 2, by omega, by omega, by omega⟩
      obtain ⟨c1, f1, b1⟩ := HW.out m (by omega)
      obtain ⟨c2, f2, b2⟩ := HW.out h (by omega)
      obtain ⟨n1, n2⟩ := HD.out m (by omega)
      obtain ⟨n3, n4⟩ := HD.out h (by omega)
      obtain ⟨x, hx⟩ : ∃ x, D m = x := ⟨_, rfl⟩
      obtain ⟨y, hy⟩ : ∃ y, D h = y := ⟨_, rfl⟩
      obtain ⟨z, hz⟩ : ∃ z, Z x y = z := ⟨_, rfl⟩
      have zz : z < 0 ↔ K x < K y := by rw [← hz]; exact HC.out.neg x y
      rw [hx] at c1 n1 n2
      rw [hy] at c2 n3 n4
      have jr : (h : Int) < r := by omega
      have jr1 : (m : Int) < r := by omega
      have cm := hide (fun (q1 : Nat) (os : Array Obj) => show Calls Try.prog F (#[.int .i64 x, .int .i64 y] ++ cs) (Sort.grow (redrawn wv q1) os) (fun e w'' => e = .returned (.int .i64 z) ∧ ∃ p : Regrown, w'' = Sort.grow (redrawn wv p.d) p.os) from Calls.regrown_of (hz ▸ HC.out.does x y _ n1 n2 n3 n4 (HK.out.trans (Kept.of_below (below_regrown wv q1 os)))))
      have k1 := cell_regrown c1
      have k2 := cell_regrown c2
      clear n1 n2 n3 n4 b1 b2 c1 c2 f1 f2
      by_cases z0 : z < 0
      · have z1 : decide (z < 0) = true := decide_eq_true z0
        have ZK := hide (show ∀ t, h ≤ t → t < m → K (D m) < K (D t) from fun t q1 q2 => by
          have q := zz.mp z0
          rw [hx]
          by_cases e : t = h
          · rw [e, hy]; exact q
          · have := HR.out h t (by omega) (by omega) (by omega)
            unfold lt at this
            rw [hy] at this
            omega)
        clear zz z0
        go_wp2_with fail
        refine wp_region_quiet_below (by kernel_rfl) (by kernel_rfl) ?_
        repeat (go_big_quiet_step (first | exact cm.out _ _))
        refine wpQuiet_nil ?_
        intro _ hw'
        obtain ⟨⟨dq, osq⟩, hw''⟩ := hw'
        subst hw''
        have bl := below_regrown wv dq osq
        have HV2 := hide (HW.out.below bl (HW.out.lt (by omega)))
        have HL2 := hide (HK.out.trans (Kept.of_below bl))
        clear k1 k2 cm bl
        generalize Sort.grow (redrawn wv dq) osq = wy at HV2 HL2 ⊢
        go_wp2_with fail
        go_roundw
        case rel => exact ⟨i, h, by omega, by omega, by omega, by go_num, by go_num, HV2.out, HL.out, ZK.out, HL2.out⟩
        case measure => simp [intOf]; omega
      · have z1 : decide (z < 0) = false := decide_eq_false z0
        have ZK := hide (show ∀ t, a ≤ t → t < h + 1 → K (D t) ≤ K (D m) from fun t q1 q2 => by
          have q : ¬ K x < K y := fun e => z0 (zz.mpr e)
          rw [hx]
          by_cases e : t = h
          · rw [e, hy]; omega
          · have := HR.out t h q1 (by omega) (by omega)
            unfold lt at this
            rw [hy] at this
            omega)
        clear zz z0
        go_wp2_with fail
        refine wp_region_quiet_below (by kernel_rfl) (by kernel_rfl) ?_
        repeat (go_big_quiet_step (first | exact cm.out _ _))
        refine wpQuiet_nil ?_
        intro _ hw'
        obtain ⟨⟨dq, osq⟩, hw''⟩ := hw'
        subst hw''
        have bl := below_regrown wv dq osq
        have HV2 := hide (HW.out.below bl (HW.out.lt (by omega)))
        have HL2 := hide (HK.out.trans (Kept.of_below bl))
        clear k1 k2 cm bl
        generalize Sort.grow (redrawn wv dq) osq = wy at HV2 HL2 ⊢
        go_wp2_with fail
        go_roundw
        case rel => exact ⟨h + 1, j, by omega, by omega, by omega, by go_num, by go_num, HV2.out, ZK.out, HU.out, HL2.out⟩
        case measure => simp [intOf]; omega
    · have t3 : decide ((i : Int) < j) = false := decide_eq_false (by omega)
      go_wp2_with fail
      go_loopw [17] (fun vk wx => ∃ k : Nat, i ≤ k ∧ k ≤ m ∧ vk = .int .i64 k ∧ Rw wx g r (ins D m k) ∧ Kept (· = g) w wx) (fun vk _ => (intOf vk).toNat)
      case atStart => exact ⟨m, by omega, by omega, rfl, by rw [ins_self]; exact HW.out, HK.out⟩
      case round =>
        obtain ⟨k, hk1, hk2, rfl, hw, hk⟩ := hrel
        rename World => wy
        have HV := hide hw
        have HL2 := hide hk
        clear hw hk
        by_cases hq : i < k
        · have hqI : (i : Int) < k := by omega
          obtain ⟨c1, f1, b1⟩ := HV.out k (by omega)
          obtain ⟨c2, f2, b2⟩ := HV.out (k - 1) (by omega)
          obtain ⟨x, hx⟩ : ∃ x, ins D m k k = x := ⟨_, rfl⟩
          obtain ⟨y, hy⟩ : ∃ y, ins D m k (k - 1) = y := ⟨_, rfl⟩
          rw [hx] at c1
          rw [hy] at c2
          have kr : (k : Int) < r := by omega
          have kr1 : (k : Int) - 1 < r := by omega
          have kt : ((k : Int) - 1).toNat = k - 1 := by omega
          have ne : ¬ k = k - 1 := by omega
          clear b1 b2
          go_wp2_with fail
          go_region
          go_wp2_with fail
          go_roundw
          case rel => exact ⟨k - 1, by omega, by omega, by go_num, rw_cast ((rw_swap HV.out (p := k) (q := k - 1) (by omega) (by omega)).same (E := ins D m (k - 1)) (fun t ht => by rw [← ins_step D (by omega) hk2])) (by rw [hx, hy]), HL2.out.trans (kept_swap _ _ _ _ _ _)⟩
          case measure => simp [intOf]; omega
        · have hqI : decide ((i : Int) < k) = false := decide_eq_false (by omega)
          have S2 := hide (ins_srt (K := K) (E := D) (a := a) (i := m) (j := k) HR.out (fun t q1 q2 => HB.out t m q1 q2 (Nat.le_refl _) (by omega)) (by omega) hk2 (fun t q1 q2 => HU.out t (by omega) q2) (by
            by_cases q : k = a
            · exact .inl q
            · exact .inr (HL.out (k - 1) (by omega) (by omega))))
          go_wp2_with fail
          exact bodyPost_ret (results_none rfl _ _ _) rfl ⟨rfl, ⟨_, HV.out, ins_per D (by omega) hk2, S2.out⟩, HL2.out⟩
end So
end Go.Proofs.Ytbdcbanbnbaoiaa
