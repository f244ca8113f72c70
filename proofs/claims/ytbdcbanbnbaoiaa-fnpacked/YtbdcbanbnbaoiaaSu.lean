/- The stable sort walked: two blocks in order merged, by halves. -/
import Derived.Test.YtbdcbanbnbaoiaaSs
import Derived.Test.YtbdcbanbnbaoiaaSt
import Derived.Deep.DeepCutAuto
namespace Go.Proofs.Ytbdcbanbnbaoiaa
namespace So
open Go.ChangeShapes Go.WideShapes Go.ChangeAt Go.RowKit Go.Joins
open Vl
set_option linter.unusedVariables false
set_option linter.unusedSimpArgs false
/-- what a merge of [a, b) does -/
def Mrg (K : Int → Int) (D : Nat → Int) (g r a b : Nat) (w : World) (e : Ending) (w' : World) : Prop := e = .returned (.tuple #[]) ∧ (∃ E, Rw w' g r E ∧ Per D E a b ∧ Srt K E a b) ∧ Kept (· = g) w w'
/-- lesser merges -/
def Less (F : Nat) (cs : Array Value) (K : Int → Int) (N g r c l : Nat) (w : World) : Prop := ∀ (a m b : Nat) (D : Nat → Int) (W : World), b - a < l → a < m → m < b → b ≤ r → Rw W g r D → (∀ t, t < r → 0 ≤ D t ∧ D t < N) → Srt K D a m → Srt K D m b → Bef D a m b → Kept (· = g) w W →
  Calls Try.prog 50 #[.slice (some ⟨g, 0, none⟩) r c, .int .i64 a, .int .i64 m, .int .i64 b, .func (.func F) #[] cs] W (Mrg K D g r a b W)
theorem Per.rng {D E : Nat → Int} {a b r N : Nat} (h : Per D E a b) (hb : b ≤ r) (hD : ∀ t, t < r → 0 ≤ D t ∧ D t < N) : ∀ t, t < r → 0 ≤ E t ∧ E t < N := fun t ht => by
  by_cases q : a ≤ t ∧ t < b
  · obtain ⟨s, s1, s2, s3⟩ := h.at q.1 q.2
    rw [s3]; exact hD s (by omega)
  · rw [h.out (t := t) (by omega)]; exact hD t ht
set_option maxHeartbeats 4000000 in
set_option maxRecDepth 100000 in
theorem symC (g r c N : Nat) (D : Nat → Int) (a m b F : Nat) (cs : Array Value) (K : Int → Int) (Z : Int → Int → Int) (w : World) (h : Rw w g r D) (h1 : a + 1 < m) (h2 : m + 1 < b) (h3 : b ≤ r) (hr : (r : Int) ≤ 1048576) (hc : Cmp F cs K Z N g w)
    (hD : ∀ t, t < r → 0 ≤ D t ∧ D t < N) (hL : Srt K D a m) (hR : Srt K D m b) (hB : Bef D a m b) (hI : Less F cs K N g r c (b - a) w) :
    Calls Try.prog 50 #[.slice (some ⟨g, 0, none⟩) r c, .int .i64 a, .int .i64 m, .int .i64 b, .func (.func F) #[] cs] w (Mrg K D g r a b w) := by
  have H := hide h
  have HC := hide hc
  have HD := hide hD
  have SL := hide hL
  have SR := hide hR
  have HB := hide hB
  have HI := hide hI
  have eF := hc.enter
  have t1 : decide ((m : Int) - a = 1) = false := decide_eq_false (by omega)
  have t2 : decide ((b : Int) - m = 1) = false := decide_eq_false (by omega)
  clear h hc hD hL hR hB hI
  obtain ⟨mid, dm'⟩ : ∃ mid : Nat, (a + b) / 2 = mid := ⟨_, rfl⟩
  obtain ⟨n, dn'⟩ : ∃ n : Nat, mid + m = n := ⟨_, rfl⟩
  have em : ((a : Int) + b) / 2 = mid := by omega
  have en : (mid : Int) + m = n := by omega
  obtain ⟨p, dp'⟩ : ∃ p : Nat, n - 1 = p := ⟨_, rfl⟩
  have ep : (n : Int) - 1 = p := by omega
  have DM := hide dm'
  have DN := hide dn'
  have DP := hide dp'
  clear dm' dn' dp'
  go_enter Try.func50, Try.ntmps50
  go_upto_if 140 with fail
  go_cut [20, 21] (fun vi vj wx => ∃ S R : Nat, vi = .int .i64 S ∧ vj = .int .i64 R ∧ Lim a m b mid n S R ∧ wx = w)
  case first =>
    by_cases hm : mid < m
    · have hmI : (mid : Int) < m := by omega
      have LM := hide (lim_hi (a := a) (m := m) (b := b) (by omega) (by omega) (by rw [DM.out]; exact hm))
      rw [DM.out, DN.out] at LM
      obtain ⟨S, dS⟩ : ∃ S : Nat, n - b = S := ⟨_, rfl⟩
      rw [dS] at LM
      have eS : (n : Int) - b = S := by have := LM.out.nb; have := LM.out.s0; have := DN.out; have := DM.out; omega
      clear dS
      go_wp2_with fail
      go_meet
      exact ⟨S, mid, rfl, rfl, LM.out, rfl⟩
    · have hmI : decide ((mid : Int) < m) = false := decide_eq_false (by omega)
      have LM := hide (lim_lo (a := a) (m := m) (b := b) (by omega) (by omega) (by rw [DM.out]; omega))
      rw [DM.out, DN.out] at LM
      go_wp2_with fail
      go_meet
      exact ⟨a, m, rfl, rfl, LM.out, rfl⟩
  case rest =>
  obtain ⟨S, R, rfl, rfl, hLM, hw⟩ := hcut
  have hw := hw.symm
  subst hw
  have LM := hide hLM
  clear hLM
  go_wp2_with fail
  go_loopw [20, 21] (fun vi vj wx => ∃ s u : Nat, S ≤ s ∧ s ≤ u ∧ u ≤ R ∧ vi = .int .i64 s ∧ vj = .int .i64 u ∧ Rw wx g r D ∧ (∀ t, S ≤ t → t < s → K (D t) ≤ K (D (n - 1 - t))) ∧ (∀ t, u ≤ t → t < R → K (D (n - 1 - t)) < K (D t)) ∧ Kept (· = g) w wx) (fun vi vj _ => (intOf vj).toNat - (intOf vi).toNat)
  case atStart => exact ⟨S, R, by omega, LM.out.SR, by omega, by go_num, by go_num, H.out, fun t q1 q2 => by omega, fun t q1 q2 => by omega, Kept.refl _ _⟩
  case round =>
    obtain ⟨s, u, hi, hij, hj, rfl, rfl, hw, hl, hu, hk⟩ := hrel
    rename World => wv
    have HW := hide hw
    have HL := hide hl
    have HU := hide hu
    have HK := hide hk
    clear hw hl hu hk
    have dn := DN.out; have dm := DM.out; have dp := DP.out
    have V0 := hide (And.intro dn (And.intro dm dp))
    have v1 := LM.out.aS; have v2 := LM.out.Rm; have v3 := LM.out.Rd; have v4 := LM.out.nb
    by_cases hlt : s < u
    · have hltI : (s : Int) < u := by omega
      obtain ⟨k, ek, k3, k4⟩ : ∃ k : Nat, ((s : Int) + u) / 2 = k ∧ s ≤ k ∧ k < u := ⟨(s + u) / 2, by omega, by omega, by omega⟩
      obtain ⟨d, dd⟩ : ∃ d : Nat, n - 1 - k = d := ⟨_, rfl⟩
      have ed : (p : Int) - k = d := by omega
      have DDh := hide dd
      obtain ⟨c1, f1, b1⟩ := HW.out d (by omega)
      obtain ⟨c2, f2, b2⟩ := HW.out k (by omega)
      obtain ⟨n1, n2⟩ := HD.out d (by omega)
      obtain ⟨n3, n4⟩ := HD.out k (by omega)
      obtain ⟨x, hx⟩ : ∃ x, D d = x := ⟨_, rfl⟩
      obtain ⟨y, hy⟩ : ∃ y, D k = y := ⟨_, rfl⟩
      obtain ⟨z, hz⟩ : ∃ z, Z x y = z := ⟨_, rfl⟩
      have zz : z < 0 ↔ K x < K y := by rw [← hz]; exact HC.out.neg x y
      rw [hx] at c1 n1 n2
      rw [hy] at c2 n3 n4
      have jr : (d : Int) < r := by omega
      have jr1 : (k : Int) < r := by omega
      have cm := hide (fun (q1 : Nat) (os : Array Obj) => show Calls Try.prog F (#[.int .i64 x, .int .i64 y] ++ cs) (Sort.grow (redrawn wv q1) os) (fun e w'' => e = .returned (.int .i64 z) ∧ ∃ p : Regrown, w'' = Sort.grow (redrawn wv p.d) p.os) from Calls.regrown_of (hz ▸ HC.out.does x y _ n1 n2 n3 n4 (HK.out.trans (Kept.of_below (below_regrown wv q1 os)))))
      have k1 := cell_regrown c1
      have k2 := cell_regrown c2
      clear n1 n2 n3 n4 b1 b2 c1 c2 f1 f2 dn dm dp dd
      by_cases z0 : z < 0
      · have z1 : decide (z < 0) = true := decide_eq_true z0
        have ZK := hide (step_no LM.out SL.out SR.out (c := k) (by omega) (by omega) (by rw [DDh.out, hx, hy]; exact zz.mp z0))
        clear zz z0
        go_wp2_with fail
        refine wp_region_quiet_below (by kernel_rfl) (by kernel_rfl) ?_
        repeat (go_big_quiet_step (first | exact cm.out _ _))
        refine wpQuiet_nil ?_
        intro _ hw'
        obtain ⟨⟨dq, osq⟩, hw''⟩ := hw'
        subst hw''
        have bl := below_regrown wv dq osq
        have HV2 := hide (HW.out.below bl (HW.out.lt (by omega)))
        have HL2 := hide (HK.out.trans (Kept.of_below bl))
        clear k1 k2 cm bl
        generalize Sort.grow (redrawn wv dq) osq = wy at HV2 HL2 ⊢
        go_wp2_with fail
        go_roundw
        case rel => exact ⟨s, k, by omega, by omega, by omega, by go_num, by go_num, HV2.out, HL.out, ZK.out, HL2.out⟩
        case measure => simp [intOf]; omega
      · have z1 : decide (z < 0) = false := decide_eq_false z0
        have ZK := hide (step_yes LM.out SL.out SR.out (c := k) (by omega) (by omega) (by rw [DDh.out, hx, hy]; exact fun e => z0 (zz.mpr e)))
        clear zz z0
        go_wp2_with fail
        refine wp_region_quiet_below (by kernel_rfl) (by kernel_rfl) ?_
        repeat (go_big_quiet_step (first | exact cm.out _ _))
        refine wpQuiet_nil ?_
        intro _ hw'
        obtain ⟨⟨dq, osq⟩, hw''⟩ := hw'
        subst hw''
        have bl := below_regrown wv dq osq
        have HV2 := hide (HW.out.below bl (HW.out.lt (by omega)))
        have HL2 := hide (HK.out.trans (Kept.of_below bl))
        clear k1 k2 cm bl
        generalize Sort.grow (redrawn wv dq) osq = wy at HV2 HL2 ⊢
        go_wp2_with fail
        go_roundw
        case rel => exact ⟨k + 1, u, by omega, by omega, by omega, by go_num, by go_num, HV2.out, ZK.out, HU.out, HL2.out⟩
        case measure => simp [intOf]; omega
    · have t3 : decide ((s : Int) < u) = false := decide_eq_false (by omega)
      obtain ⟨e, de⟩ : ∃ e : Nat, e = n - s := ⟨_, rfl⟩
      have ee : (n : Int) - s = e := by omega
      have su : s = u := by omega
      obtain ⟨y1, y2, y3, y4, y5, y6, HF'⟩ := found LM.out SL.out SR.out HB.out (s := s) (e := e) hi (by omega) de HL.out (by rw [su]; exact HU.out)
      have HF := hide HF'
      have P1 := hide ((rot_per D y2 y4).wide (a' := a) (b' := b) y1 y6)
      have D1 := hide (P1.out.rng h3 HD.out)
      have ne := hide (show e + s = mid + m by omega)
      have nb := hide (show a + 3 < b by omega)
      clear HF' de su dn dm dp
      have ne' := ne.out
      have nb' := nb.out
      by_cases q1 : s < m
      case neg =>
        by_cases q2 : s < mid
        case pos =>
          have i_s_m : decide ((s : Int) < m) = false := decide_eq_false (by omega)
          have j_s_m : decide (s < m) = false := decide_eq_false (by omega)
          have i_a_s : (a : Int) < s := by omega
          have i_s_mid : (s : Int) < mid := by omega
          have i_mid_e : decide ((mid : Int) < e) = false := decide_eq_false (by omega)
          have j_mid_e : decide (mid < e) = false := decide_eq_false (by omega)
          have W1 := hide (show Rw wv g r (rot D s m e) by rw [rot_none D (by omega) y2 y4]; exact HW.out)
          have K1 := HK
          have lf := hide (show a < s ∧ s < mid from ⟨by omega, by omega⟩)
          have rf := hide (HF.out.right (by omega) y5 y6)
          clear q1 ne'
          have CL := hide (HI.out a s mid (rot D s m e) wv (by omega) lf.out.1 lf.out.2 (by omega) W1.out D1.out HF.out.l1 HF.out.l2 HF.out.lb K1.out)
          go_wp2_with fail
          refine CL.out.mono ?_
          rintro ed w2 ⟨rfl, ⟨E2, a1, a2, a3⟩, a4⟩
          have W2 := hide a1
          have P2 := hide a2
          have S2 := hide a3
          have K2 := hide (K1.out.trans a4)
          have D2 := hide (a2.rng (by omega) D1.out)
          clear a1 a2 a3 a4 CL
          have RD := hide (show ∀ t, mid ≤ t → E2 t = rot D s m e t from fun t ht => P2.out.out (.inr ht))
          have S3 := hide (rf.out.same (E := E2) (fun t i1 i2 => RD.out t i1))
          have P3 := hide (Per.refl E2 mid b)
          have W3 := W2
          have K3 := K2
          go_wp2_with fail
          exact bodyPost_end (results_none rfl _ _ _) rfl ⟨rfl, ⟨_, W3.out, (P1.out.trans (P2.out.wide (Nat.le_refl _) (by omega))).trans (P3.out.wide (by omega) (Nat.le_refl _)), joined (by omega) (by omega) HF.out.x P2.out S2.out P3.out S3.out⟩, K3.out⟩
        case neg =>
          have i_s_m : decide ((s : Int) < m) = false := decide_eq_false (by omega)
          have j_s_m : decide (s < m) = false := decide_eq_false (by omega)
          have i_a_s : (a : Int) < s := by omega
          have i_s_mid : decide ((s : Int) < mid) = false := decide_eq_false (by omega)
          have j_s_mid : decide (s < mid) = false := decide_eq_false (by omega)
          have i_mid_e : decide ((mid : Int) < e) = false := decide_eq_false (by omega)
          have j_mid_e : decide (mid < e) = false := decide_eq_false (by omega)
          have W1 := hide (show Rw wv g r (rot D s m e) by rw [rot_none D (by omega) y2 y4]; exact HW.out)
          have K1 := HK
          have lf := hide (HF.out.left (by omega) y1 y3)
          have rf := hide (HF.out.right (by omega) y5 y6)
          clear q1 q2 ne'
          have W2 := W1
          have K2 := K1
          have S2 := lf
          have P2 := hide (Per.refl (rot D s m e) a mid)
          have D2 := D1
          have RD := hide (show ∀ t, mid ≤ t → (rot D s m e) t = rot D s m e t from fun t ht => P2.out.out (.inr ht))
          have S3 := hide (rf.out.same (E := (rot D s m e)) (fun t i1 i2 => RD.out t i1))
          have P3 := hide (Per.refl (rot D s m e) mid b)
          have W3 := W2
          have K3 := K2
          go_wp2_with fail
          exact bodyPost_end (results_none rfl _ _ _) rfl ⟨rfl, ⟨_, W3.out, (P1.out.trans (P2.out.wide (Nat.le_refl _) (by omega))).trans (P3.out.wide (by omega) (Nat.le_refl _)), joined (by omega) (by omega) HF.out.x P2.out S2.out P3.out S3.out⟩, K3.out⟩
      by_cases q2 : s < mid
      case neg =>
        have i_s_m : (s : Int) < m := by omega
        have i_m_e : decide ((m : Int) < e) = false := decide_eq_false (by omega)
        have j_m_e : decide (m < e) = false := decide_eq_false (by omega)
        have i_a_s : (a : Int) < s := by omega
        have i_s_mid : decide ((s : Int) < mid) = false := decide_eq_false (by omega)
        have j_s_mid : decide (s < mid) = false := decide_eq_false (by omega)
        have i_mid_e : (mid : Int) < e := by omega
        have i_e_b : (e : Int) < b := by omega
        have W1 := hide (show Rw wv g r (rot D s m e) by rw [rot_none D (by omega) y2 y4]; exact HW.out)
        have K1 := HK
        have lf := hide (HF.out.left (by omega) y1 y3)
        have rf := hide (show mid < e ∧ e < b from ⟨by omega, by omega⟩)
        clear q1 q2 ne'
        have W2 := W1
        have K2 := K1
        have S2 := lf
        have P2 := hide (Per.refl (rot D s m e) a mid)
        have D2 := D1
        have RD := hide (show ∀ t, mid ≤ t → (rot D s m e) t = rot D s m e t from fun t ht => P2.out.out (.inr ht))
        have CR := hide (HI.out mid e b (rot D s m e) wv (by omega) rf.out.1 rf.out.2 h3 W2.out D2.out (HF.out.r1.same (fun t i1 i2 => RD.out t i1)) (HF.out.r2.same (fun t i1 i2 => RD.out t (by omega))) (fun i j i1 i2 i3 i4 => by rw [RD.out i i1, RD.out j (by omega)]; exact HF.out.rb i j i1 i2 i3 i4) K2.out)
        go_wp2_with fail
        refine CR.out.mono ?_
        rintro ed w3 ⟨rfl, ⟨E3, a1, a2, a3⟩, a4⟩
        have W3 := hide a1
        have P3 := hide a2
        have S3 := hide a3
        have K3 := hide (K2.out.trans a4)
        clear a1 a2 a3 a4 CR
        go_wp2_with fail
        exact bodyPost_end (results_none rfl _ _ _) rfl ⟨rfl, ⟨_, W3.out, (P1.out.trans (P2.out.wide (Nat.le_refl _) (by omega))).trans (P3.out.wide (by omega) (Nat.le_refl _)), joined (by omega) (by omega) HF.out.x P2.out S2.out P3.out S3.out⟩, K3.out⟩
      by_cases q3 : a < s
      case pos =>
        by_cases q4 : e < b
        case pos =>
          have i_s_m : (s : Int) < m := by omega
          have i_m_e : (m : Int) < e := by omega
          have i_a_s : (a : Int) < s := by omega
          have i_s_mid : (s : Int) < mid := by omega
          have i_mid_e : (mid : Int) < e := by omega
          have i_e_b : (e : Int) < b := by omega
          have CO := hide (rotF g r c D s m e (.func (.func F) #[] cs) wv HW.out (by omega) (by omega) (by omega) hr)
          have lf := hide (show a < s ∧ s < mid from ⟨by omega, by omega⟩)
          have rf := hide (show mid < e ∧ e < b from ⟨by omega, by omega⟩)
          clear ne'
          go_wp2_with fail
          refine CO.out.mono ?_
          rintro ed w1 ⟨rfl, a1, a2⟩
          have W1 := hide a1
          have K1 := hide (HK.out.trans a2)
          clear a1 a2 CO
          have CL := hide (HI.out a s mid (rot D s m e) w1 (by omega) lf.out.1 lf.out.2 (by omega) W1.out D1.out HF.out.l1 HF.out.l2 HF.out.lb K1.out)
          go_wp2_with fail
          refine CL.out.mono ?_
          rintro ed w2 ⟨rfl, ⟨E2, a1, a2, a3⟩, a4⟩
          have W2 := hide a1
          have P2 := hide a2
          have S2 := hide a3
          have K2 := hide (K1.out.trans a4)
          have D2 := hide (a2.rng (by omega) D1.out)
          clear a1 a2 a3 a4 CL
          have RD := hide (show ∀ t, mid ≤ t → E2 t = rot D s m e t from fun t ht => P2.out.out (.inr ht))
          have CR := hide (HI.out mid e b E2 w2 (by omega) rf.out.1 rf.out.2 h3 W2.out D2.out (HF.out.r1.same (fun t i1 i2 => RD.out t i1)) (HF.out.r2.same (fun t i1 i2 => RD.out t (by omega))) (fun i j i1 i2 i3 i4 => by rw [RD.out i i1, RD.out j (by omega)]; exact HF.out.rb i j i1 i2 i3 i4) K2.out)
          go_wp2_with fail
          refine CR.out.mono ?_
          rintro ed w3 ⟨rfl, ⟨E3, a1, a2, a3⟩, a4⟩
          have W3 := hide a1
          have P3 := hide a2
          have S3 := hide a3
          have K3 := hide (K2.out.trans a4)
          clear a1 a2 a3 a4 CR
          go_wp2_with fail
          exact bodyPost_end (results_none rfl _ _ _) rfl ⟨rfl, ⟨_, W3.out, (P1.out.trans (P2.out.wide (Nat.le_refl _) (by omega))).trans (P3.out.wide (by omega) (Nat.le_refl _)), joined (by omega) (by omega) HF.out.x P2.out S2.out P3.out S3.out⟩, K3.out⟩
        case neg =>
          have i_s_m : (s : Int) < m := by omega
          have i_m_e : (m : Int) < e := by omega
          have i_a_s : (a : Int) < s := by omega
          have i_s_mid : (s : Int) < mid := by omega
          have i_mid_e : (mid : Int) < e := by omega
          have i_e_b : decide ((e : Int) < b) = false := decide_eq_false (by omega)
          have j_e_b : decide (e < b) = false := decide_eq_false (by omega)
          have CO := hide (rotF g r c D s m e (.func (.func F) #[] cs) wv HW.out (by omega) (by omega) (by omega) hr)
          have lf := hide (show a < s ∧ s < mid from ⟨by omega, by omega⟩)
          have rf := hide (HF.out.right (by omega) y5 y6)
          clear ne'
          go_wp2_with fail
          refine CO.out.mono ?_
          rintro ed w1 ⟨rfl, a1, a2⟩
          have W1 := hide a1
          have K1 := hide (HK.out.trans a2)
          clear a1 a2 CO
          have CL := hide (HI.out a s mid (rot D s m e) w1 (by omega) lf.out.1 lf.out.2 (by omega) W1.out D1.out HF.out.l1 HF.out.l2 HF.out.lb K1.out)
          go_wp2_with fail
          refine CL.out.mono ?_
          rintro ed w2 ⟨rfl, ⟨E2, a1, a2, a3⟩, a4⟩
          have W2 := hide a1
          have P2 := hide a2
          have S2 := hide a3
          have K2 := hide (K1.out.trans a4)
          have D2 := hide (a2.rng (by omega) D1.out)
          clear a1 a2 a3 a4 CL
          have RD := hide (show ∀ t, mid ≤ t → E2 t = rot D s m e t from fun t ht => P2.out.out (.inr ht))
          have S3 := hide (rf.out.same (E := E2) (fun t i1 i2 => RD.out t i1))
          have P3 := hide (Per.refl E2 mid b)
          have W3 := W2
          have K3 := K2
          go_wp2_with fail
          exact bodyPost_end (results_none rfl _ _ _) rfl ⟨rfl, ⟨_, W3.out, (P1.out.trans (P2.out.wide (Nat.le_refl _) (by omega))).trans (P3.out.wide (by omega) (Nat.le_refl _)), joined (by omega) (by omega) HF.out.x P2.out S2.out P3.out S3.out⟩, K3.out⟩
      case neg =>
        by_cases q4 : e < b
        case pos =>
          have i_s_m : (s : Int) < m := by omega
          have i_m_e : (m : Int) < e := by omega
          have i_a_s : decide ((a : Int) < s) = false := decide_eq_false (by omega)
          have j_a_s : decide (a < s) = false := decide_eq_false (by omega)
          have i_mid_e : (mid : Int) < e := by omega
          have i_e_b : (e : Int) < b := by omega
          have CO := hide (rotF g r c D s m e (.func (.func F) #[] cs) wv HW.out (by omega) (by omega) (by omega) hr)
          have lf := hide (HF.out.left (by omega) y1 y3)
          have rf := hide (show mid < e ∧ e < b from ⟨by omega, by omega⟩)
          clear ne'
          go_wp2_with fail
          refine CO.out.mono ?_
          rintro ed w1 ⟨rfl, a1, a2⟩
          have W1 := hide a1
          have K1 := hide (HK.out.trans a2)
          clear a1 a2 CO
          have W2 := W1
          have K2 := K1
          have S2 := lf
          have P2 := hide (Per.refl (rot D s m e) a mid)
          have D2 := D1
          have RD := hide (show ∀ t, mid ≤ t → (rot D s m e) t = rot D s m e t from fun t ht => P2.out.out (.inr ht))
          have CR := hide (HI.out mid e b (rot D s m e) w1 (by omega) rf.out.1 rf.out.2 h3 W2.out D2.out (HF.out.r1.same (fun t i1 i2 => RD.out t i1)) (HF.out.r2.same (fun t i1 i2 => RD.out t (by omega))) (fun i j i1 i2 i3 i4 => by rw [RD.out i i1, RD.out j (by omega)]; exact HF.out.rb i j i1 i2 i3 i4) K2.out)
          go_wp2_with fail
          refine CR.out.mono ?_
          rintro ed w3 ⟨rfl, ⟨E3, a1, a2, a3⟩, a4⟩
          have W3 := hide a1
          have P3 := hide a2
          have S3 := hide a3
          have K3 := hide (K2.out.trans a4)
          clear a1 a2 a3 a4 CR
          go_wp2_with fail
          exact bodyPost_end (results_none rfl _ _ _) rfl ⟨rfl, ⟨_, W3.out, (P1.out.trans (P2.out.wide (Nat.le_refl _) (by omega))).trans (P3.out.wide (by omega) (Nat.le_refl _)), joined (by omega) (by omega) HF.out.x P2.out S2.out P3.out S3.out⟩, K3.out⟩
        case neg =>
          have i_s_m : (s : Int) < m := by omega
          have i_m_e : (m : Int) < e := by omega
          have i_a_s : decide ((a : Int) < s) = false := decide_eq_false (by omega)
          have j_a_s : decide (a < s) = false := decide_eq_false (by omega)
          have i_mid_e : (mid : Int) < e := by omega
          have i_e_b : decide ((e : Int) < b) = false := decide_eq_false (by omega)
          have j_e_b : decide (e < b) = false := decide_eq_false (by omega)
          have CO := hide (rotF g r c D s m e (.func (.func F) #[] cs) wv HW.out (by omega) (by omega) (by omega) hr)
          have lf := hide (HF.out.left (by omega) y1 y3)
          have rf := hide (HF.out.right (by omega) y5 y6)
          clear ne'
          go_wp2_with fail
          refine CO.out.mono ?_
          rintro ed w1 ⟨rfl, a1, a2⟩
          have W1 := hide a1
          have K1 := hide (HK.out.trans a2)
          clear a1 a2 CO
          have W2 := W1
          have K2 := K1
          have S2 := lf
          have P2 := hide (Per.refl (rot D s m e) a mid)
          have D2 := D1
          have RD := hide (show ∀ t, mid ≤ t → (rot D s m e) t = rot D s m e t from fun t ht => P2.out.out (.inr ht))
          have S3 := hide (rf.out.same (E := (rot D s m e)) (fun t i1 i2 => RD.out t i1))
          have P3 := hide (Per.refl (rot D s m e) mid b)
          have W3 := W2
          have K3 := K2
          go_wp2_with fail
          exact bodyPost_end (results_none rfl _ _ _) rfl ⟨rfl, ⟨_, W3.out, (P1.out.trans (P2.out.wide (Nat.le_refl _) (by omega))).trans (P3.out.wide (by omega) (Nat.le_refl _)), joined (by omega) (by omega) HF.out.x P2.out S2.out P3.out S3.out⟩, K3.out⟩
end So
end Go.Proofs.Ytbdcbanbnbaoiaa
