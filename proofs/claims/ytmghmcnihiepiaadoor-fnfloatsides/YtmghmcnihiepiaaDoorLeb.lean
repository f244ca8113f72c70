/- Sums of five words rounded: the program's leading and round, in numbers. -/
import Derived.Test.YtmghmcnihiepiaaDoorLea
import Derived.Test.YtmghmcnihiepiaaDoorFlQ
import Derived.Test.YtmghmcnihiepiaaDoorWo
namespace Go.Proofs.YtmghmcnihiepiaaDoor
namespace Wid
open Go.ChangeShapes Go.WideShapes Go.ChangeAt Go.RowKit Go.Joins
open Flo (hide ret_int ret_bool)
set_option linter.unusedVariables false
theorem topF_zero (X : Nat → Nat) (j : Nat) (h : ∀ s, s < j → X s = 0) : topF X j = 0 := by
  induction j with
  | zero => rfl
  | succ j ih =>
    show (if X j = 0 then topF X j else j) = 0
    rw [if_pos (h j (by omega))]; exact ih (fun s hs => h s (by omega))
theorem wrap_u64 (n : Nat) : IntKind.u64.wrap (n : Int) = ((n % 18446744073709551616 : Nat) : Int) := by
  simp [IntKind.wrap, IntKind.bits, IntKind.signed]
theorem lead (X : Nat → Nat) (hX : ∀ t, X t < 2 ^ 64) : ∃ M E : Int,
    (∀ w, FlV.SV w → Calls Tryd.prog 46 #[.agg #[.int .u64 (X 0), .int .u64 (X 1), .int .u64 (X 2), .int .u64 (X 3), .int .u64 (X 4)]] w fun e w' => e = .returned (.tuple #[.int .u64 M, .int .i64 E]) ∧ Below w.heap.size w w') ∧
    (∀ s w, 0 ≤ s → s ≤ 1 → Calls Tryd.prog 29 #[.agg #[.int .u8 8, .int .u8 23], .int .u8 s, .int .u64 M, .int .i64 E] w fun e w' => e = .returned (.int .i64 (s * 2147483648 + (Rnd.fl 23 255 (val X 5) 1 : Nat))) ∧ Below w.heap.size w w') := by
  have ht : topF X 5 < 5 := by have : topF X 5 ≤ 4 := topF_lt X 4; omega
  have hT : ∀ t, topF X (t + 1) = if X t = 0 then topF X t else t := fun t => rfl
  by_cases hn : X (topF X 5) = 0
  · have hz : ∀ s, s < 5 → X s = 0 := by
      rcases topF_at X 5 with h | h
      · exact absurd hn h
      · exact h
    have ht0 := topF_zero X 5 hz
    have hV : val X 5 = 0 := (val_zero X 5).2 hz
    refine ⟨0, -213, fun w hv => ?_, fun s w s0 s1 => ?_⟩
    · refine leadWalk X (topF X) 64 0 (fun _ => 0) (fun _ => 0) 0 (-213) false w hv hX rfl hT ht ?_ (by decide) (by decide) ?_ rfl rfl (fun j hj => by omega) (fun j hj => by omega) (by decide) rfl (by rw [ht0]; rfl)
      · rw [hn]; rfl
      · rw [hn]; rfl
    · rw [hV, Rnd.fl_zero]
      exact (FlR.roundZeroS s (-213) w s0 s1).mono fun e w' ⟨h1, h2⟩ => ⟨h1.trans (ret_int (by simp)), h2⟩
  · obtain ⟨g, hg⟩ : ∃ g, g = 64 - Rnd.bl (X (topF X 5)) := ⟨_, rfl⟩
    obtain ⟨hbV, hi64, b1, b0, hf64, hm64, hm0, hm⟩ := lead_is X hX (topF X 5) g (val X 5) ht (fun s h1 h2 => topF_above X 5 s h1 h2) hn hg rfl
    have hLib := Rnd.bl_lib (X (topF X 5)) (hX _)
    obtain ⟨t, hte⟩ : ∃ t, topF X 5 = t := ⟨_, rfl⟩
    refine ⟨(leadM X g t : Nat), 64 * (t : Int) - (g : Int) + -149, fun w hv => ?_, fun s w s0 s1 => ?_⟩
    · refine leadWalk X (topF X) (g : Int) ((X t * 2 ^ g : Nat) : Int) (fun j => (hiF X g t j : Nat)) (fun j => (orF X g t j : Nat)) _ _ (decide (orF X g t t ≠ 0)) w hv hX rfl hT ht ?_ (by omega) (by omega) ?_ ?_ ?_ ?_ ?_ ?_ ?_ ?_
      · rw [hLib]; omega
      · rw [hte, Int.toNat_natCast]
        rw [hte] at hi64
        have e : ((X t : Int) * 2 ^ g) = ((X t * 2 ^ g : Nat) : Int) := by simp
        rw [e, wrap_u64, Nat.mod_eq_of_lt hi64]
      · show ((hiF X g t 0 : Nat) : Int) = _
        unfold hiF; rw [if_neg (by simp)]
      · rfl
      · intro j hj
        rw [hte] at hj
        refine ⟨?_, ?_⟩
        · show ((hiF X g t (j + 1) : Nat) : Int) = ((hiF X g t j : Nat) : Int)
          unfold hiF; rw [if_neg (by omega), if_neg (by omega)]
        · show bits .or .u64 ((orF X g t j : Nat) : Int) ((X j : Nat) : Int) = ((orF X g t (j + 1) : Nat) : Int)
          rw [or_u64 _ _ (orF_lt X hX g t j) (hX j)]
          show _ = ((orF X g t j ||| (if j + 1 = t then X j * 2 ^ g % 18446744073709551616 else X j) : Nat) : Int)
          rw [if_neg (by omega)]
      · intro j hj
        rw [hte] at hj
        have e1 : ((64 : Int) - (g : Int)).toNat = 64 - g := by omega
        refine ⟨?_, ?_⟩
        · show bits .or .u64 ((hiF X g t j : Nat) : Int) ((X j : Int) / 2 ^ ((64 : Int) - (g : Int)).toNat) = ((hiF X g t (j + 1) : Nat) : Int)
          have e2 : ((X j : Int) / 2 ^ (64 - g)) = ((X j / 2 ^ (64 - g) : Nat) : Int) := by simp
          have e3 : hiF X g t j = X t * 2 ^ g := by unfold hiF; rw [if_neg (by omega)]
          have e4 : hiF X g t (j + 1) = (X t * 2 ^ g ||| X j / 2 ^ (64 - g)) := by unfold hiF; rw [if_pos ⟨by omega, hj⟩]; rfl
          rw [e1, e2, e3, e4]
          rw [hte] at hi64
          exact or_u64 _ _ hi64 (Nat.lt_of_le_of_lt (Nat.div_le_self _ _) (hX j))
        · show bits .or .u64 ((orF X g t j : Nat) : Int) (IntKind.u64.wrap ((X j : Int) * 2 ^ (g : Int).toNat)) = ((orF X g t (j + 1) : Nat) : Int)
          have e : ((X j : Int) * 2 ^ g) = ((X j * 2 ^ g : Nat) : Int) := by simp
          rw [Int.toNat_natCast, e, wrap_u64, or_u64 _ _ (orF_lt X hX g t j) (Nat.mod_lt _ (by decide))]
          show _ = ((orF X g t j ||| (if j + 1 = t then X j * 2 ^ g % 18446744073709551616 else X j) : Nat) : Int)
          rw [if_pos hj]
      · rw [hte]
        show (((orF X g t t : Nat) : Int) != 0) = decide (orF X g t t ≠ 0)
        rw [Bool.eq_iff_iff, bne_iff_ne, decide_eq_true_eq]; omega
      · rw [hte]
        show (if decide (orF X g t t ≠ 0) = true then bits .or .u64 ((hiF X g t t : Nat) : Int) 1 else ((hiF X g t t : Nat) : Int)) = _
        unfold leadM
        rw [hte] at hf64
        by_cases c : orF X g t t = 0
        · rw [if_neg (by simp [c]), if_pos c]
        · rw [if_pos (by simp [c]), if_neg c]
          have := or_u64 (hiF X g t t) 1 hf64 (by decide)
          rw [or_one] at this
          exact this
      · rw [hte]
    · rw [hte] at hbV hm64 hm0 hm b1 b0 hg
      refine FlR.roundS s _ (leadM X g t) (val X 5) 1 64 (Rnd.bl (val X 5)) w s0 s1 (by decide) ?_ hm0 ?_ (by omega) (by omega) hm
      · rw [hbV]; omega
      · have : ((leadM X g t : Nat) : Int) < ((2 ^ 64 : Nat) : Int) := Int.ofNat_lt.2 hm64
        rw [show ((2 ^ 64 : Nat) : Int) = 18446744073709551616 by decide] at this
        omega
theorem minusF (A B : Nat → Nat) (hA : ∀ t, A t < 2 ^ 64) (hB : ∀ t, B t < 2 ^ 64) (w : World) :
    Calls Tryd.prog 44 #[.agg #[.int .u64 (A 0), .int .u64 (A 1), .int .u64 (A 2), .int .u64 (A 3), .int .u64 (A 4)], .agg #[.int .u64 (B 0), .int .u64 (B 1), .int .u64 (B 2), .int .u64 (B 3), .int .u64 (B 4)]] w fun e w' => e = .returned (.agg #[.int .u64 (bS A B 0 : Nat), .int .u64 (bS A B 1 : Nat), .int .u64 (bS A B 2 : Nat), .int .u64 (bS A B 3 : Nat), .int .u64 (bS A B 4 : Nat)]) ∧ Below w.heap.size w w' := by
  refine minusWalk (ii A) (ii B) (ii (bS A B)) (ii (bK A B)) w (fun t => ?_) (fun t => ?_) rfl (fun t => ?_) (fun t => ?_) (fun t => ?_)
  · have := hA t; unfold ii; omega
  · have := hB t; unfold ii; omega
  · have := bK_le A B t; unfold ii; omega
  · have h1 := hA t
    have h2 := hB t
    have h3 := bK_le A B t
    show ((A t : Int) - (B t : Int) - (bK A B t : Int)) % 18446744073709551616 = (((A t + 18446744073709551616 - B t - bK A B t) % 18446744073709551616 : Nat) : Int)
    omega
  · show bor (A t : Int) ((B t : Int) + (bK A B t : Int)) = (((if A t < B t + bK A B t then 1 else 0 : Nat)) : Int)
    unfold bor
    split <;> split <;> omega
theorem plusF (A B : Nat → Nat) (hA : ∀ t, A t < 2 ^ 64) (hB : ∀ t, B t < 2 ^ 64) (w : World) :
    Calls Tryd.prog 27 #[.agg #[.int .u64 (A 0), .int .u64 (A 1), .int .u64 (A 2), .int .u64 (A 3), .int .u64 (A 4)], .agg #[.int .u64 (B 0), .int .u64 (B 1), .int .u64 (B 2), .int .u64 (B 3), .int .u64 (B 4)]] w fun e w' => e = .returned (.agg #[.int .u64 (cS A B 0 : Nat), .int .u64 (cS A B 1 : Nat), .int .u64 (cS A B 2 : Nat), .int .u64 (cS A B 3 : Nat), .int .u64 (cS A B 4 : Nat)]) ∧ Below w.heap.size w w' := by
  refine plusWalk (ii A) (ii B) (ii (cS A B)) (ii (cK A B)) w (fun t => ?_) (fun t => ?_) rfl (fun t => ?_) (fun t => ?_) (fun t => ?_)
  · have := hA t; unfold ii; omega
  · have := hB t; unfold ii; omega
  · have := cK_le A B hA hB t; unfold ii; omega
  · show ((A t : Int) + (B t : Int) + (cK A B t : Int)) % 18446744073709551616 = (((A t + B t + cK A B t) % 18446744073709551616 : Nat) : Int)
    omega
  · show ((A t : Int) + (B t : Int) + (cK A B t : Int)) / 18446744073709551616 = (((A t + B t + cK A B t) / 18446744073709551616 : Nat) : Int)
    omega
/-- a float's words, with its sign -/
theorem wideF (k s e : Int) (m p : Nat) (hs : s = 0 ∨ s = 1) (hp : e + 149 = (p : Int)) (hp2 : p < 256) (hm : m < 16777216) : ∃ W : Nat → Nat, (∀ t, W t < 2 ^ 64) ∧ ((s = 0 ∧ val W 5 = m * 2 ^ p) ∨ (s = 1 ∧ val W 5 = (2135987035920910082395021706169552114602704522356652769947041607822219725780640550022962086936576 - m * 2 ^ p) % 2135987035920910082395021706169552114602704522356652769947041607822219725780640550022962086936576)) ∧
    ∀ w, FlV.SV w → Calls Tryd.prog 26 #[.agg #[.int .u8 k, .int .u8 s, .int .i16 e, .int .u32 m]] w fun e w' => e = .returned (.agg #[.int .u64 (W 0), .int .u64 (W 1), .int .u64 (W 2), .int .u64 (W 3), .int .u64 (W 4)]) ∧ Below w.heap.size w w' := by
  have h1 : IntKind.i64.wrap e = e := by rw [IntKind.wrap_i64]; omega
  have h2 : IntKind.i64.wrap (e + 149) = (p : Int) := by rw [IntKind.wrap_i64]; omega
  have h3 : (p : Int).tdiv 64 = ((p / 64 : Nat) : Int) := by rw [Int.tdiv_eq_ediv_of_nonneg (by omega)]; rfl
  have h4 : (p : Int).tmod 64 = ((p % 64 : Nat) : Int) := by rw [Int.tmod_eq_emod_of_nonneg (by omega)]; rfl
  have h5 : IntKind.u64.wrap ((m : Int) * 2 ^ (((p % 64 : Nat) : Int)).toNat) = ((m * 2 ^ (p % 64) % 18446744073709551616 : Nat) : Int) := by
    rw [Int.toNat_natCast]
    have e : ((m : Int) * 2 ^ (p % 64)) = ((m * 2 ^ (p % 64) : Nat) : Int) := by simp
    rw [e, wrap_u64]
  have h6 : (m : Int) / 2 ^ ((64 : Int) - ((p % 64 : Nat) : Int)).toNat = ((m / 2 ^ (64 - p % 64) : Nat) : Int) := by
    rw [show ((64 : Int) - ((p % 64 : Nat) : Int)).toNat = 64 - p % 64 by omega]; simp
  have h7 : ∀ t, ii (wX m p) t = if t = p / 64 + 1 then ((m / 2 ^ (64 - p % 64) : Nat) : Int) else if t = p / 64 then ((m * 2 ^ (p % 64) % 18446744073709551616 : Nat) : Int) else 0 := by
    intro t; unfold ii wX
    split
    · rfl
    · split <;> rfl
  have hv := val_wX m p hp2
  have hl := wX_lt m p hm
  have hmp : m * 2 ^ p < 2135987035920910082395021706169552114602704522356652769947041607822219725780640550022962086936576 := by rw [← hv]; exact val5_lt _ hl
  rcases hs with rfl | rfl
  · refine ⟨wX m p, hl, .inl ⟨rfl, hv⟩, fun w hw => ?_⟩
    exact wideWalk k 0 e m p _ _ (p / 64) ((p % 64 : Nat) : Int) (ii (wX m p)) (ii (wX m p)) w hw h1 h2 h3 h4 (by omega) (by omega) (by omega) (by omega) (by omega) h5 h6 h7 (.inl ⟨rfl, rfl⟩)
  · refine ⟨bS (fun _ => 0) (wX m p), fun t => Nat.mod_lt _ (by decide), .inr ⟨rfl, ?_⟩, fun w hw => ?_⟩
    · rw [val_minus _ _ (fun t => Nat.two_pow_pos _) hl, hv, show val (fun _ => 0) 5 = 0 from (val_zero _ _).2 (fun s hs => rfl), Nat.zero_add]
    · exact wideWalk k 1 e m p _ _ (p / 64) ((p % 64 : Nat) : Int) (ii (wX m p)) (ii (bS (fun _ => 0) (wX m p))) w hw h1 h2 h3 h4 (by omega) (by omega) (by omega) (by omega) (by omega) h5 h6 h7 (.inr ⟨rfl, fun w => minusF (fun _ => 0) (wX m p) (fun t => Nat.two_pow_pos _) hl w⟩)
theorem roundWide (X : Nat → Nat) (hX : ∀ t, X t < 2 ^ 64) (s : Int) (V : Nat) (w : World) (hv : FlV.SV w)
    (hc : (val X 5 < 1067993517960455041197510853084776057301352261178326384973520803911109862890320275011481043468288 ∧ s = 0 ∧ V = val X 5) ∨ (1067993517960455041197510853084776057301352261178326384973520803911109862890320275011481043468288 ≤ val X 5 ∧ s = 1 ∧ V = 2135987035920910082395021706169552114602704522356652769947041607822219725780640550022962086936576 - val X 5)) :
    Calls Tryd.prog 28 #[.agg #[.int .u64 (X 0), .int .u64 (X 1), .int .u64 (X 2), .int .u64 (X 3), .int .u64 (X 4)]] w fun e w' => e = .returned (.int .i64 (s * 2147483648 + (Rnd.fl 23 255 V 1 : Nat))) ∧ Below w.heap.size w w' := by
  have x0 := hX 0
  have x1 := hX 1
  have x2 := hX 2
  have x3 := hX 3
  have x4 := hX 4
  have e5 := val5 X
  have hlt := val5_lt X hX
  have hb := below_alloc1 w (.cells #[.int .u64 (X 0), .int .u64 (X 1), .int .u64 (X 2), .int .u64 (X 3), .int .u64 (X 4)] 41)
  have HV := hide (hv.below hb)
  rcases hc with ⟨h1, rfl, rfl⟩ | ⟨h1, rfl, rfl⟩
  · have hq : ((X 4 : Int) / 9223372036854775808 == 1) = false := by
      rw [beq_eq_false_iff_ne]
      have : X 4 < 9223372036854775808 := by omega
      omega
    obtain ⟨M, E, hL, hR⟩ := lead X hX
    have HL := hide hL
    have HR := hide hR
    obtain ⟨u0, u1⟩ := HV.out.cells
    clear x0 x1 x2 x3 h1 e5 hlt hL hR hX
    generalize Rnd.fl 23 255 (val X 5) 1 = f at *
    go_enter Tryd.func28, Tryd.ntmps28
    go_wp2_with fail
    refine (HL.out _ HV.out).mono ?_; rintro e' w1 ⟨rfl, b1⟩
    obtain ⟨v0, v1⟩ := (HV.out.below b1).cells
    have bb := hb.trans (b1.mono hb.size)
    clear u0 u1
    go_wp2_with fail
    refine (HR.out _ _ (by decide) (by decide)).mono ?_; rintro e' w2 ⟨rfl, b2⟩
    go_wp2_with fail
    go_ret
    exact ⟨ret_int (by omega), bb.trans (b2.mono bb.size)⟩
  · have hq : ((X 4 : Int) / 9223372036854775808 == 1) = true := by
      rw [beq_iff_eq]
      have : 9223372036854775808 ≤ X 4 := by omega
      omega
    have hZ : ∀ t : Nat, (fun _ => 0 : Nat → Nat) t < 2 ^ 64 := fun t => Nat.two_pow_pos _
    have HM := hide (fun w => minusF (fun _ => 0) X hZ hX w)
    obtain ⟨Y, hY⟩ : ∃ Y, bS (fun _ => 0) X = Y := ⟨_, rfl⟩
    have hvY : val Y 5 = 2135987035920910082395021706169552114602704522356652769947041607822219725780640550022962086936576 - val X 5 := by
      rw [← hY, val_minus _ _ hZ hX, show val (fun _ => 0) 5 = 0 from (val_zero _ _).2 (fun s hs => rfl), Nat.zero_add]
      omega
    have hYl : ∀ t, Y t < 2 ^ 64 := fun t => by rw [← hY]; exact Nat.mod_lt _ (by decide)
    rw [hY] at HM
    obtain ⟨M, E, hL, hR⟩ := lead Y hYl
    rw [hvY] at hR
    have HL := hide hL
    have HR := hide hR
    clear x0 x1 x2 x3 h1 e5 hlt hL hR hX hY hvY hYl hZ
    generalize Rnd.fl 23 255 (2135987035920910082395021706169552114602704522356652769947041607822219725780640550022962086936576 - val X 5) 1 = f at *
    go_enter Tryd.func28, Tryd.ntmps28
    go_wp2_with fail
    refine (HM.out _).mono ?_; rintro e' w1 ⟨rfl, b1⟩
    have bb := hb.trans (b1.mono hb.size)
    have HV1 := hide (HV.out.below b1)
    go_wp2_with fail
    refine (HL.out _ HV1.out).mono ?_; rintro e' w2 ⟨rfl, b2⟩
    have bb2 := bb.trans (b2.mono bb.size)
    obtain ⟨v0, v1⟩ := (HV1.out.below b2).cells
    go_wp2_with fail
    refine (HR.out _ _ (by decide) (by decide)).mono ?_; rintro e' w3 ⟨rfl, b3⟩
    go_wp2_with fail
    go_ret
    exact ⟨ret_int (by omega), bb2.trans (b3.mono bb2.size)⟩
end Wid
end Go.Proofs.YtmghmcnihiepiaaDoor
