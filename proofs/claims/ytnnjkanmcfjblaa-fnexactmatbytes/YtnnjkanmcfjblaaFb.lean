/- Factor of the program. -/
import Derived.Test.YtnnjkanmcfjblaaFa
namespace Go.Proofs.Ytnnjkanmcfjblaa
namespace Vo
open Go.ChangeShapes Go.WideShapes Go.ChangeAt Go.RowKit Go.Joins Go.Sort
open Vl
set_option linter.unusedVariables false
set_option linter.unusedSimpArgs false
/-- the fraction moved up by k bits is small enough -/
def fit (P d : Nat) (k : Nat) : Prop := nea d (P * 2 ^ k : Nat) ≤ 2147483648
theorem fit_mono {P d : Nat} (hd : 0 < d) {j k : Nat} (h : j ≤ k) (hf : fit P d k) : fit P d j := by
  have h1 : ((P * 2 ^ j : Nat) : Int) ≤ ((P * 2 ^ k : Nat) : Int) := Int.ofNat_le.2 (Nat.mul_le_mul_left P (Nat.pow_le_pow_right (by omega) h))
  have h2 := nea_mono (d := (d : Int)) (by omega) h1
  unfold fit at *
  omega
/-- what Factor answers -/
def FacR (P d : Nat) (m s : Int) (b : Bool) : Prop :=
  (∃ k : Nat, k ≤ 62 ∧ s = k ∧ m = nea d (P * 2 ^ k : Nat) ∧ b = true ∧ fit P d k ∧ ∀ j, k < j → j ≤ 62 → ¬ fit P d j) ∨ (m = 0 ∧ s = 0 ∧ b = false ∧ ¬ fit P d 0)
theorem FacR.one {P d : Nat} (hd : 0 < d) {m s m' s' : Int} {b b' : Bool} (h : FacR P d m s b) (h' : FacR P d m' s' b') : m = m' ∧ s = s' ∧ b = b' := by
  rcases h with ⟨k, k1, rfl, rfl, rfl, hf, hn⟩ | ⟨rfl, rfl, rfl, hn⟩
  · rcases h' with ⟨k', k1', rfl, rfl, rfl, hf', hn'⟩ | ⟨rfl, rfl, rfl, hn'⟩
    · have e : k = k' := by
        by_cases c : k < k'
        · exact absurd hf' (hn k' c k1')
        · by_cases c' : k' < k
          · exact absurd hf (hn' k c' k1)
          · omega
      subst e
      exact ⟨rfl, rfl, rfl⟩
    · exact absurd (fit_mono hd (Nat.zero_le k) hf) hn'
  · rcases h' with ⟨k', k1', rfl, rfl, rfl, hf', hn'⟩ | ⟨rfl, rfl, rfl, hn'⟩
    · exact absurd (fit_mono hd (Nat.zero_le k') hf') hn
    · exact ⟨rfl, rfl, rfl⟩
theorem shl_fits (P k : Nat) (hP : P < 18446744073709551616) (hk : k ≤ 62) : 2 ^ k < 18446744073709551616 ∧ P * 2 ^ k / 18446744073709551616 < 18446744073709551616 := by
  have h1 : 2 ^ k ≤ 2 ^ 62 := Nat.pow_le_pow_right (by omega) hk
  refine ⟨by omega, Nat.div_lt_of_lt_mul ?_⟩
  exact Nat.lt_of_lt_of_le (Nat.mul_lt_mul_of_pos_right hP (Nat.two_pow_pos k)) (Nat.mul_le_mul_left _ (by omega))
/-- what is tried at a shift -/
theorem tried (P d k : Nat) (hP : P < 18446744073709551616) (hk : k ≤ 62) (d0 : 0 < d) (d1 : d < 9223372036854775808) :
    ∃ a b : Int, (∀ w, Calls Try.prog 17 #[.int .u64 P, .int .u64 ((2 ^ k : Nat) : Int)] w fun e w' => e = .returned (.agg #[.int .u64 a, .int .u64 b]) ∧ Below w.heap.size w w') ∧
      (∀ w, Calls Try.prog 18 #[.agg #[.int .u64 a, .int .u64 b], .int .u64 d] w fun e w' => e = .returned (nmV d (P * 2 ^ k : Nat)) ∧ Below w.heap.size w w') := by
  obtain ⟨h1, h2⟩ := shl_fits P k hP hk
  refine ⟨_, _, fun w => wideTimesF P (2 ^ k) w hP h1, fun w => ?_⟩
  have h := nearMultF (P * 2 ^ k / 18446744073709551616) (P * 2 ^ k % 18446744073709551616) d w (Nat.mod_lt _ (by decide)) h2 d0 d1
  have e : (((P * 2 ^ k / 18446744073709551616 : Nat) : Int) * 18446744073709551616 + ((P * 2 ^ k % 18446744073709551616 : Nat) : Int)) = ((P * 2 ^ k : Nat) : Int) := by
    generalize P * 2 ^ k = z
    omega
  rw [e] at h
  exact h
set_option maxHeartbeats 1000000 in
theorem iFac_no (sa za sb zb sc zc : Int) (w : World) (ha : bd sa) (ha' : bd za) (hb : bd sb) (hb' : bd zb) (hc : bd sc) (hc' : bd zc) (g : sht3 sa za sb zb sc zc = false) :
    Calls Try.prog 7 #[.agg #[.int .i64 sa, .int .i64 za], .agg #[.int .i64 sb, .int .i64 zb], .agg #[.int .i64 sc, .int .i64 zc]] w fun e w' => e = .returned (.tuple #[.int .i64 0, .int .i64 0, .bool false]) ∧ Below w.heap.size w w' := by
  have C := hide (fun (P : Nat) (w : World) (hP : P = w.heap.size) => short3 sa za sb zb sc zc false P w ha ha' hb hb' hc hc' g hP)
  clear ha ha' hb hb' hc hc' g
  go_enter Try.func7, Try.ntmps7
  go_wp2_with fail
  refine (C.out _ _ (by simp)).mono ?_; rintro e1 w1 ⟨rfl, b1⟩
  go_wp2_with fail
  exact bodyPost_ret (v := .tuple #[.int .i64 0, .int .i64 0, .bool false]) (by simp [results, Try.results7, go_sem]) rfl ⟨rfl, ((((Below.refl _ _).alloc (Nat.le_refl _) _).alloc (by simp) _).alloc (by simp; omega) _).trans (b1.mono (by simp; omega))⟩
set_option maxHeartbeats 2000000 in
theorem iFac_yes (sa za sb zb sc zc : Int) (P d : Nat) (w : World) (ha : bd sa) (ha' : bd za) (hb : bd sb) (hb' : bd zb) (hc : bd sc) (hc' : bd zc) (g : sht3 sa za sb zb sc zc = true) (hP : sa * sb = (P : Int)) (hd : 65536 * sc = (d : Int)) (P1 : P ≤ 281474976710656) (d0 : 0 < d) (d1 : d ≤ 1099511627776) :
    Calls Try.prog 7 #[.agg #[.int .i64 sa, .int .i64 za], .agg #[.int .i64 sb, .int .i64 zb], .agg #[.int .i64 sc, .int .i64 zc]] w fun e w' => ∃ m s b, e = .returned (.tuple #[.int .i64 m, .int .i64 s, .bool b]) ∧ FacR P d m s b ∧ Below w.heap.size w w' := by
  obtain ⟨WA, hWA⟩ : ∃ WA, w.alloc (.cells #[.int .i64 sa, .int .i64 za] 26) = WA := ⟨_, rfl⟩
  have nA : Below w.heap.size w WA := hWA ▸ (Below.refl _ _).alloc (Nat.le_refl _) _
  obtain ⟨WB, hWB⟩ : ∃ WB, WA.alloc (.cells #[.int .i64 sb, .int .i64 zb] 26) = WB := ⟨_, rfl⟩
  have nB : Below WA.heap.size WA WB := hWB ▸ (Below.refl _ _).alloc (Nat.le_refl _) _
  obtain ⟨WC, hWC⟩ : ∃ WC, WB.alloc (.cells #[.int .i64 sc, .int .i64 zc] 26) = WC := ⟨_, rfl⟩
  have nC : Below WB.heap.size WB WC := hWC ▸ (Below.refl _ _).alloc (Nat.le_refl _) _
  have KA := hide (((show Box2 WA w.heap.size sa za from hWA ▸ box2_new _ _ _ _).below nB).below nC)
  have KB := hide ((show Box2 WB WA.heap.size sb zb from hWB ▸ box2_new _ _ _ _).below nC)
  have KC' := hide (show Box2 WC WB.heap.size sc zc from hWC ▸ box2_new _ _ _ _)
  have BL := hide ((nA.trans (nB.mono nA.size)).trans (nC.mono (Nat.le_trans nA.size nB.size)))
  have C := hide (fun (Q : Nat) (w : World) (hQ : Q = w.heap.size) => short3 sa za sb zb sc zc true Q w ha ha' hb hb' hc hc' g hQ)
  have CT := hide (fun (k : Nat) (hk : k ≤ 62) => tried P d k (by omega) hk d0 (by omega))
  have e1 : wrap64 (sa * sb) = (P : Int) := by rw [hP]; simp only [wrap64]; omega
  have e2 : IntKind.i64.wrap (sa * sb) = (P : Int) := by rw [hP, IntKind.wrap_i64]; omega
  have e3 : wrap64 (65536 * sc) = (d : Int) := by rw [hd]; simp only [wrap64]; omega
  have e4 : IntKind.i64.wrap (65536 * sc) = (d : Int) := by rw [hd, IntKind.wrap_i64]; omega
  have e5 : IntKind.u64.wrap (P : Int) = (P : Int) := by rw [IntKind.wrap_u64]; omega
  have e6 : IntKind.u64.wrap (d : Int) = (d : Int) := by rw [IntKind.wrap_u64]; omega
  clear ha ha' hb hb' hc hc' g hP hd nA nB nC
  obtain ⟨-, cA0, cA1⟩ := KA.out
  obtain ⟨-, cB0, cB1⟩ := KB.out
  obtain ⟨-, cC0, cC1⟩ := KC'.out
  go_enter Try.func7, Try.ntmps7
  go_wp2_with fail
  refine (C.out _ _ rfl).mono ?_; rintro e1' w1 ⟨rfl, b1⟩
  have B1 := hide (BL.out.trans (b1.mono BL.out.size))
  clear cA0 cA1 cB0 cB1 cC0 cC1
  obtain ⟨-, cA0, -⟩ := KA.out.below b1
  obtain ⟨-, cB0, -⟩ := KB.out.below b1
  obtain ⟨-, cC0, -⟩ := KC'.out.below b1
  replace cA0 := cell_regrown cA0
  replace cB0 := cell_regrown cB0
  replace cC0 := cell_regrown cC0
  clear b1 C KA KB KC' BL
  go_wp2_with fail
  refine wp_region_quiet_below (by kernel_rfl) (by kernel_rfl) ?_
  repeat (go_big_quiet_step (fail))
  refine wpQuiet_nil ?_
  intro _ hw'
  obtain ⟨⟨dq, osq⟩, hw''⟩ := hw'
  subst hw''
  have B2 := hide (B1.out.trans ((below_regrown w1 dq osq).mono B1.out.size))
  clear cA0 cB0 cC0 e1 e2 e3 e4 e5 e6
  go_wp2_with fail
  go_loopw [11] (fun i wx => ∃ k : Nat, k ≤ 63 ∧ i = .int .i64 ((k : Int) - 1) ∧ (∀ j, k ≤ j → j ≤ 62 → ¬ fit P d j) ∧ Below w.heap.size w wx) (fun i _ => (intOf i + 1).toNat)
  case atStart => exact ⟨63, by omega, rfl, fun j h1 h2 => by omega, B2.out⟩
  case round =>
    obtain ⟨k, hk, rfl, hn, hb⟩ := hrel
    have HN := hide hn
    have HB := hide hb
    clear hn hb
    rcases k with _ | k
    · have fr := hide (show FacR P d 0 0 false from .inr ⟨rfl, rfl, rfl, HN.out 0 (Nat.le_refl _) (by omega)⟩)
      go_wp2_with fail
      exact bodyPost_ret (v := .tuple #[.int .i64 0, .int .i64 0, .bool false]) (by simp [results, Try.results7, go_sem]) rfl ⟨_, _, _, rfl, fr.out, HB.out⟩
    · rw [show ((k + 1 : Nat) : Int) - 1 = (k : Int) by omega]
      obtain ⟨a, b, hT, hM⟩ := CT.out k (by omega)
      have HT := hide hT
      have HM := hide hM
      have k0 : (0 : Int) ≤ (k : Int) := Int.natCast_nonneg _
      have k1 : (k : Int) ≤ 62 := by omega
      have km : min k 64 = k := by omega
      have pw := (shl_fits 1 k (by decide) (by omega)).1
      have wr : IntKind.u64.wrap ((2 : Int) ^ k) = ((2 ^ k : Nat) : Int) := by
        have e : ((2 : Int) ^ k) = ((2 ^ k : Nat) : Int) := by rw [Int.natCast_pow]; rfl
        rw [e, IntKind.wrap_u64]
        generalize 2 ^ k = z at *
        omega
      obtain ⟨p2, hp2⟩ : ∃ p2 : Int, ((2 ^ k : Nat) : Int) = p2 := ⟨_, rfl⟩
      rw [hp2] at wr HT
      clear hT hM pw hp2
      by_cases c : fit P d k
      · have e := hide (nm_yes c)
        rw [e.out] at HM
        have fr := hide (show FacR P d (nea d (P * 2 ^ k : Nat)) k true from .inl ⟨k, by omega, rfl, rfl, rfl, c, fun j h1 h2 => HN.out j (by omega) h2⟩)
        obtain ⟨m, hm⟩ : ∃ m, nea d (P * 2 ^ k : Nat) = m := ⟨_, rfl⟩
        rw [hm] at HM fr
        clear c hm e
        go_wp2_with fail
        refine (HT.out _).mono ?_; rintro e1' w2 ⟨rfl, b2⟩
        have B3 := hide (HB.out.trans (b2.mono HB.out.size))
        clear b2
        go_wp2_with fail
        refine (HM.out _).mono ?_; rintro e1' w3 ⟨rfl, b3⟩
        have B4 := hide (B3.out.trans (b3.mono B3.out.size))
        clear b3
        go_wp2_with fail
        exact bodyPost_ret (v := .tuple #[.int .i64 m, .int .i64 (k : Int), .bool true]) (by simp [results, Try.results7, go_sem]) rfl ⟨_, _, _, rfl, fr.out, B4.out⟩
      · have e := hide (nm_no (d := (d : Int)) (n := ((P * 2 ^ k : Nat) : Int)) (by unfold fit at c; omega))
        rw [e.out] at HM
        have nx := hide (show ∀ j, k ≤ j → j ≤ 62 → ¬ fit P d j from fun j h1 h2 => by
          by_cases ej : j = k
          · subst ej; exact c
          · exact HN.out j (by omega) h2)
        clear c e
        go_wp2_with fail
        refine (HT.out _).mono ?_; rintro e1' w2 ⟨rfl, b2⟩
        have B3 := hide (HB.out.trans (b2.mono HB.out.size))
        clear b2
        go_wp2_with fail
        refine (HM.out _).mono ?_; rintro e1' w3 ⟨rfl, b3⟩
        have B4 := hide (B3.out.trans (b3.mono B3.out.size))
        clear b3
        go_wp2_with fail
        go_roundw
        case rel => exact ⟨k, by omega, by go_num, nx.out, B4.out⟩
        case measure => simp [intOf]
end Vo
end Go.Proofs.Ytnnjkanmcfjblaa
