/- The 64 bits of five words from the highest on: the program's leading, walked. -/
import Derived.Test.YtmghmcnihiepiaaDoorWid
import Derived.Test.YtmghmcnihiepiaaDoorWpl
import Derived.Test.YtmghmcnihiepiaaDoorShelf
namespace Go.Proofs.YtmghmcnihiepiaaDoor
namespace Wid
open Go.ChangeShapes Go.WideShapes Go.ChangeAt Go.RowKit Go.Joins
open Flo (hide ret_int ret_bool)
set_option linter.unusedVariables false
/-- words in numbers -/
def ii (X : Nat → Nat) (t : Nat) : Int := ((X t : Nat) : Int)
theorem or_u64 (a b : Nat) (ha : a < 2 ^ 64) (hb : b < 2 ^ 64) : bits .or .u64 (a : Int) (b : Int) = ((a ||| b : Nat) : Int) := by
  have hw : ∀ n : Int, 0 ≤ n → n < 2 ^ 64 → IntKind.u64.wrap n = n := by
    intro n h0 h1; simp [IntKind.wrap, IntKind.bits, IntKind.signed]; omega
  exact (bits_nat .u64 64 (by decide) hw a b ha hb).2
theorem or_one (q : Nat) : (q ||| 1) = 2 * (q / 2) + 1 := by
  have h : q = 2 ^ 1 * (q / 2) + q % 2 := by omega
  have h2 : 2 ^ 1 * (q / 2) + q % 2 = 2 ^ 1 * (q / 2) ||| q % 2 := Nat.two_pow_add_eq_or_of_lt (by omega) _
  have h3 : 2 ^ 1 * (q / 2) + 1 = 2 ^ 1 * (q / 2) ||| 1 := Nat.two_pow_add_eq_or_of_lt (by omega) _
  have h4 : (q % 2 ||| 1) = 1 := by
    have : q % 2 = 0 ∨ q % 2 = 1 := by omega
    rcases this with h | h <;> rw [h] <;> rfl
  have h5 : (q ||| 1) = 2 ^ 1 * (q / 2) ||| (q % 2 ||| 1) := by
    rw [← Nat.or_assoc, ← h2, ← h]
  rw [h5, h4, ← h3]
/-- the first loop under way -/
def AtJ (T : Nat → Nat) (a i : Value) : Prop := ∃ j : Nat, j ≤ 5 ∧ a = .int .i64 (T j : Int) ∧ i = .int .i64 (j : Int)
set_option maxHeartbeats 2000000 in
theorem leadWalk (X : Nat → Nat) (T : Nat → Nat) (L hi : Int) (Mf R : Nat → Int) (M E : Int) (st : Bool) (w : World) (hv : FlV.SV w) (hX : ∀ t, X t < 2 ^ 64) (hT0 : T 0 = 0) (hT : ∀ t, T (t + 1) = if X t = 0 then T t else t) (hT5 : T 5 < 5)
    (hL : 64 - (Lib.bitLen (X (T 5)) : Int) = L) (L0 : 0 ≤ L) (L1 : L ≤ 64) (hhi : IntKind.u64.wrap ((X (T 5) : Int) * 2 ^ L.toNat) = hi) (hM0 : Mf 0 = hi) (hR0 : R 0 = 0)
    (hs : ∀ j, j + 1 < T 5 → Mf (j + 1) = Mf j ∧ bits .or .u64 (R j) (X j : Int) = R (j + 1))
    (hl : ∀ j, j + 1 = T 5 → bits .or .u64 (Mf j) ((X j : Int) / 2 ^ (64 - L).toNat) = Mf (j + 1) ∧ bits .or .u64 (R j) (IntKind.u64.wrap ((X j : Int) * 2 ^ L.toNat)) = R (j + 1))
    (hst : (R (T 5) != 0) = st) (hend : (if st then bits .or .u64 (Mf (T 5)) 1 else Mf (T 5)) = M) (hE : 64 * (T 5 : Int) - L + -149 = E) :
    Calls Tryd.prog 46 #[.agg #[.int .u64 (X 0), .int .u64 (X 1), .int .u64 (X 2), .int .u64 (X 3), .int .u64 (X 4)]] w fun e w' => e = .returned (.tuple #[.int .u64 M, .int .i64 E]) ∧ Below w.heap.size w w' := by
  have hal : Tryd.prog.arrayLen 41 = 5 := by kernel_rfl
  have hsl : ∀ (t : Nat) W, t < 5 → (Instr.sliceAt 41 (.pointer (some ⟨w.heap.size, 0, none⟩)) none (some (.int .i64 (t : Int))) none).run Tryd.prog W = .ok (.slice (some ⟨w.heap.size, 0, none⟩) t 5) W := fun t W ht => by
    rw [run_sliceAt_array_h W 41 ⟨w.heap.size, 0, none⟩ (by kernel_rfl) .i64 (t : Int) (by omega) (by rw [hal]; omega)]
    go_simp
  clear hal
  have r1 := row_new w (ii X) 41
  have i0 : ∀ w, (Instr.index 41 (.agg #[.int .u64 (X 0), .int .u64 (X 1), .int .u64 (X 2), .int .u64 (X 3), .int .u64 (X 4)]) (.int .i64 0)).run Tryd.prog w = .ok (.int .u64 (X 0)) w := fun _ => by kernel_rfl
  have i1 : ∀ w, (Instr.index 41 (.agg #[.int .u64 (X 0), .int .u64 (X 1), .int .u64 (X 2), .int .u64 (X 3), .int .u64 (X 4)]) (.int .i64 1)).run Tryd.prog w = .ok (.int .u64 (X 1)) w := fun _ => by kernel_rfl
  have i2 : ∀ w, (Instr.index 41 (.agg #[.int .u64 (X 0), .int .u64 (X 1), .int .u64 (X 2), .int .u64 (X 3), .int .u64 (X 4)]) (.int .i64 2)).run Tryd.prog w = .ok (.int .u64 (X 2)) w := fun _ => by kernel_rfl
  have i3 : ∀ w, (Instr.index 41 (.agg #[.int .u64 (X 0), .int .u64 (X 1), .int .u64 (X 2), .int .u64 (X 3), .int .u64 (X 4)]) (.int .i64 3)).run Tryd.prog w = .ok (.int .u64 (X 3)) w := fun _ => by kernel_rfl
  have i4 : ∀ w, (Instr.index 41 (.agg #[.int .u64 (X 0), .int .u64 (X 1), .int .u64 (X 2), .int .u64 (X 3), .int .u64 (X 4)]) (.int .i64 4)).run Tryd.prog w = .ok (.int .u64 (X 4)) w := fun _ => by kernel_rfl
  have hb := below_alloc1 w (.cells #[.int .u64 (X 0), .int .u64 (X 1), .int .u64 (X 2), .int .u64 (X 3), .int .u64 (X 4)] 41)
  have HV := hide (hv.below hb)
  unfold ii at r1
  have R1 := hide r1
  have HT := hide hT
  have HS := hide hs
  have HL := hide hl
  have HX := hide hX
  have HSL := hide hsl
  have HB := hide hb
  clear r1 hT hs hl hX hb hv hsl
  go_enter Tryd.func46, Tryd.ntmps46
  go_wp2_with fail
  go_loop [4, 13] (fun a i => AtJ T a i) (fun _ i => 5 - (intOf i).toNat)
  case atStart => exact ⟨0, by omega, by rw [hT0]; rfl, rfl⟩
  case round =>
    obtain ⟨j, hj, rfl, rfl⟩ := hrel
    by_cases hlt : j < 5
    · have hj5 : j = 0 ∨ j = 1 ∨ j = 2 ∨ j = 3 ∨ j = 4 := by omega
      have hTj := HT.out j
      clear HT HS HL HX hst hend hE hM0 hR0 hT0 hL hhi R1 HB HV
      by_cases hz : X j = 0
      · have hz' : ((X j : Int) == 0) = true := by rw [beq_iff_eq]; omega
        rw [if_pos hz] at hTj
        clear hz
        generalize T j = a at *
        rcases hj5 with rfl | rfl | rfl | rfl | rfl
        all_goals
          go_wp2_with fail
          go_round
          case rel => exact ⟨_, by decide, by rw [hTj], rfl⟩
          case measure => simp [intOf]
      · have hz' : ((X j : Int) == 0) = false := by rw [beq_eq_false_iff_ne]; omega
        rw [if_neg hz] at hTj
        clear hz
        generalize T j = a at *
        rcases hj5 with rfl | rfl | rfl | rfl | rfl
        all_goals
          go_wp2_with fail
          go_round
          case rel => exact ⟨_, by decide, by rw [hTj], rfl⟩
          case measure => simp [intOf]
    · obtain rfl : j = 5 := by omega
      have cT := (R1.out (T 5) hT5).1
      dsimp only at cT
      have x64 := HX.out (T 5)
      have t5 : (T 5 : Int) < 5 := by omega
      have hLz := hide (fun w => (Tryd.bits_LeadingZeros64 (X (T 5) : Int) w (by omega) (by omega)).mono fun e w' ⟨h1, h2⟩ => (⟨h1.trans (ret_int (by rw [← hL]; simp)), h2⟩ : e = Ending.returned (.int .i64 L) ∧ w' = w))
      clear hT0 HT hL i0 i1 i2 i3 i4
      generalize hTe : T 5 = t at *
      clear hTe
      obtain ⟨xt, hxt⟩ : ∃ xt : Int, (X t : Int) = xt := ⟨_, rfl⟩
      rw [hxt] at cT hLz hhi
      have sl := fun W => HSL.out t W hT5
      clear hxt x64 hlt hj HSL
      go_wp2_with fail
      refine (hLz.out _).mono ?_; rintro e' w' ⟨rfl, rfl⟩
      go_wp2_with fail
      go_loop [8, 9, 33] (fun m r i => ∃ j : Nat, j ≤ t ∧ m = .int .u64 (Mf j) ∧ r = .int .u64 (R j) ∧ i = .int .i64 (j : Int)) (fun _ _ i => t - (intOf i).toNat)
      case atStart => exact ⟨0, by omega, by rw [hM0], by rw [hR0], rfl⟩
      case round =>
        obtain ⟨j, hj, rfl, rfl, rfl⟩ := hrel
        by_cases hlt : j < t
        · have cJ := (R1.out j (by omega)).1
          dsimp only at cJ
          have hltI : (j : Int) < (t : Int) := by omega
          have xj := HX.out j
          by_cases hla : j + 1 = t
          · obtain ⟨e1, e2⟩ := HL.out j hla
            have hq : ((j : Int) == (t : Int) - 1) = true := by rw [beq_iff_eq]; omega
            have xj0 : (0 : Int) ≤ (X j : Int) := Int.natCast_nonneg _
            have xj1 : (X j : Int) < 18446744073709551616 := by omega
            clear HS HL R1 HX hst hend hE hM0 hR0 hhi HB HV hLz cT xj hla
            generalize (X j : Int) = x at *
            generalize hm1 : Mf (j + 1) = m1 at *
            generalize hr1 : R (j + 1) = rr1 at *
            generalize Mf j = m0 at *
            generalize R j = rr0 at *
            go_wp2_with fail
            go_round
            case rel => exact ⟨j + 1, by omega, by rw [hm1], by rw [hr1], by go_num⟩
            case measure => simp [intOf]; omega
          · obtain ⟨e1, e2⟩ := HS.out j (by omega)
            have hq : ((j : Int) == (t : Int) - 1) = false := by rw [beq_eq_false_iff_ne]; omega
            have xj0 : (0 : Int) ≤ (X j : Int) := Int.natCast_nonneg _
            have xj1 : (X j : Int) < 18446744073709551616 := by omega
            clear HS HL R1 HX hst hend hE hM0 hR0 hhi HB HV hLz cT xj hla
            generalize (X j : Int) = x at *
            generalize hm1 : Mf (j + 1) = m1 at *
            generalize hr1 : R (j + 1) = rr1 at *
            generalize Mf j = m0 at *
            generalize R j = rr0 at *
            go_wp2_with fail
            go_round
            case rel => exact ⟨j + 1, by omega, by rw [hm1, e1], by rw [hr1], by go_num⟩
            case measure => simp [intOf]; omega
        · obtain rfl : j = t := by omega
          have hlt' : decide ((j : Int) < (j : Int)) = false := decide_eq_false (by omega)
          obtain ⟨u0, u1⟩ := HV.out.cells
          have hB := HB.out
          have j0 : (0 : Int) ≤ (j : Int) := Int.natCast_nonneg _
          clear HS HL R1 HX hM0 hR0 hhi HB HV hLz cT hlt
          generalize Mf j = m0 at *
          generalize R j = rr0 at *
          cases st
          · have hz : (rr0 == 0) = true := by simpa using hst
            have hM : m0 = M := hend
            clear hst hend
            go_wp2_with fail
            refine (FlP.lowestS _).mono ?_; rintro e' w1 ⟨rfl, b1⟩
            go_wp2_with fail
            go_ret2
            exact ⟨rfl, hB.trans (b1.mono hB.size)⟩
          · have hz : (rr0 == 0) = false := by simpa using hst
            have hM : bits .or .u64 m0 1 = M := hend
            clear hst hend
            go_wp2_with fail
            refine (FlP.lowestS _).mono ?_; rintro e' w1 ⟨rfl, b1⟩
            go_wp2_with fail
            go_ret2
            exact ⟨rfl, hB.trans (b1.mono hB.size)⟩
end Wid
end Go.Proofs.YtmghmcnihiepiaaDoor
