/- Convolutions: whether sizes can be; the program's side. -/
import Derived.Test.YtgcialbchmbgkaaZc
namespace Go.Proofs.Ytgcialbchmbgkaa
namespace Vo
open Go.ChangeShapes Go.WideShapes Go.ChangeAt Go.RowKit Go.Joins Go.Sort
open Vl Vp Vr
set_option linter.unusedVariables false
set_option linter.unusedSimpArgs false
/-- sizes that can be -/
def CzOk (z : Nat → Int) : Prop := (1 ≤ z 8 ∧ z 8 ≤ 4096) ∧ (1 ≤ z 10 ∧ z 10 ≤ 4096) ∧ (1 ≤ z 11 ∧ z 11 ≤ 4096) ∧ (0 ≤ z 9 ∧ z 9 ≤ 4096) ∧ z 1 = z 5 * z 11 ∧ (z 4).tmod (z 11) = 0 ∧ 0 < szR (cvE z) 4 ∧ szR (cvE z) 4 * z 5 * z 6 * z 7 ≤ 65536
theorem CzOk.b {z : Nat → Int} (h : CzOk z) (hp : ∀ i, i < 8 → 1 ≤ z i ∧ z i ≤ 4096) : CzB z := ⟨h.1, h.2.2.2.1, h.2.1, h.2.2.1, hp⟩
def l3z (z : Nat → Int) (j : Nat) : Int := if j = 0 then z 8 else if j = 1 then z 10 else z 11
set_option maxRecDepth 100000 in
set_option maxHeartbeats 4000000 in
theorem okF (z : Nat → Int) (w : World) (hp : ∀ i, i < 8 → 1 ≤ z i ∧ z i ≤ 4096) (b8 : bd (z 8)) (b9 : bd (z 9)) (b10 : bd (z 10)) (b11 : bd (z 11)) (r : Bool) (hr : r = true ↔ CzOk z) :
    Calls Try.prog 40 #[.agg #[.int .i64 (z 0), .int .i64 (z 1), .int .i64 (z 2), .int .i64 (z 3), .int .i64 (z 4), .int .i64 (z 5), .int .i64 (z 6), .int .i64 (z 7), .int .i64 (z 8), .int .i64 (z 9), .int .i64 (z 10), .int .i64 (z 11)]] w fun e w' => e = .returned (.bool r) ∧ Below w.heap.size w w' := by
  obtain ⟨W0, hW0⟩ : ∃ W0, w.alloc (.cells #[.int .i64 (z 0), .int .i64 (z 1), .int .i64 (z 2), .int .i64 (z 3), .int .i64 (z 4), .int .i64 (z 5), .int .i64 (z 6), .int .i64 (z 7), .int .i64 (z 8), .int .i64 (z 9), .int .i64 (z 10), .int .i64 (z 11)] 58) = W0 := ⟨_, rfl⟩
  have c0 : ∀ i, i < 12 → W0.cell? ⟨w.heap.size, i, none⟩ = some (.int .i64 (z i)) := by rw [← hW0]; exact cells12 w z _
  have s0 : W0.heap.size = w.heap.size + 1 := by rw [← hW0]; simp
  have bl : Below w.heap.size w W0 := by rw [← hW0]; exact (Below.refl _ _).alloc (Nat.le_refl _) _
  obtain ⟨W1, hW1⟩ : ∃ W1, W0.alloc (.cells #[.int .i64 (z 8), .int .i64 (z 10), .int .i64 (z 11)] 3) = W1 := ⟨_, rfl⟩
  have b1 : Below W0.heap.size W0 W1 := by rw [← hW1]; exact (Below.refl _ _).alloc (Nat.le_refl _) _
  have s1 : W1.heap.size = w.heap.size + 1 + 1 := by rw [← hW1]; simp; omega
  have cc : ∀ i, i < 12 → W1.cell? ⟨w.heap.size, i, none⟩ = some (.int .i64 (z i)) := fun i hi => (b1.cell (p := ⟨w.heap.size, i, none⟩) (by show w.heap.size < W0.heap.size; omega)).trans (c0 i hi)
  have cl : ∀ j, j < 3 → W1.cell? ⟨w.heap.size + 1, j, none⟩ = some (.int .i64 (l3z z j)) := by
    intro j hj
    rw [← hW1, ← s0]
    have : j = 0 ∨ j = 1 ∨ j = 2 := by omega
    rcases this with rfl | rfl | rfl <;> simp [go_sem, l3z]
  have BL := hide (bl.trans (b1.mono bl.size))
  have CC := hide cc
  have CL := hide cl
  have S1 := hide s1
  have RF := hide (show ¬ CzOk z → r = false from fun h => by
    cases r with
    | false => rfl
    | true => exact absurd (hr.1 rfl) h)
  have RT := hide (show CzOk z → r = true from hr.2)
  have d8 := c0 8 (by decide)
  have d10 := c0 10 (by decide)
  have d11 := c0 11 (by decide)
  unfold bd at b8 b9 b10 b11
  clear cc cl b1 bl s1 hr
  go_enter Try.func40, Try.ntmps40
  go_wp2_with fail
  clear d8 d10 d11 c0
  go_loopw [14] (fun i wx => ∃ j : Nat, j ≤ 3 ∧ i = .int .i64 (j : Int) ∧ (∀ t, t < j → 1 ≤ l3z z t ∧ l3z z t ≤ 4096) ∧ wx = W1) (fun i _ => 3 - (intOf i).toNat)
  case atStart => exact ⟨0, by omega, rfl, fun t ht => by omega, rfl⟩
  case round =>
    clear hW0 hW1
    obtain ⟨j, hj, rfl, hok, rfl⟩ := hrel
    have HOK := hide hok
    clear hok
    by_cases hlt : j < 3
    · have jI : (j : Int) < 3 := by omega
      have cj := CL.out j hlt
      have HL := hide (show l3z z j = l3z z j ∧ (¬ (1 ≤ l3z z j ∧ l3z z j ≤ 4096) → ¬ CzOk z) from ⟨rfl, fun h c => h (by
        have : j = 0 ∨ j = 1 ∨ j = 2 := by omega
        rcases this with rfl | rfl | rfl
        · exact c.1
        · exact c.2.1
        · exact c.2.2.1)⟩)
      have HT := hide (show 1 ≤ l3z z j ∧ l3z z j ≤ 4096 → ∀ t, t < j + 1 → 1 ≤ l3z z t ∧ l3z z t ≤ 4096 from fun h t ht => by
        by_cases e : t = j
        · rw [e]; exact h
        · exact HOK.out t (by omega))
      obtain ⟨v, hv⟩ : ∃ v, l3z z j = v := ⟨_, rfl⟩
      rw [hv] at cj HL HT
      clear hv
      by_cases h1 : v < 1
      · have E := hide (RF.out (HL.out.2 (by omega)))
        go_wp2_with fail
        go_ret
        exact ⟨by rw [E.out]; rfl, BL.out⟩
      have h1' : decide (v < 1) = false := decide_eq_false h1
      by_cases h2 : 4096 < v
      · have E := hide (RF.out (HL.out.2 (by omega)))
        clear h1
        go_wp2_with fail
        go_ret
        exact ⟨by rw [E.out]; rfl, BL.out⟩
      have h2' : decide (4096 < v) = false := decide_eq_false h2
      have HN := hide (HT.out ⟨by omega, by omega⟩)
      clear h1 h2
      go_wp2_with fail
      go_roundw
      case rel => exact ⟨j + 1, by omega, by go_num, HN.out, trivial⟩
      case measure => simp [intOf]; omega
    · obtain rfl : j = 3 := by omega
      have l8 : 1 ≤ z 8 ∧ z 8 ≤ 4096 := HOK.out 0 (by decide)
      have l10 : 1 ≤ z 10 ∧ z 10 ≤ 4096 := HOK.out 1 (by decide)
      have l11 : 1 ≤ z 11 ∧ z 11 ≤ 4096 := HOK.out 2 (by decide)
      have e9 := CC.out 9 (by decide)
      have e1 := CC.out 1 (by decide)
      have e5 := CC.out 5 (by decide)
      have e11 := CC.out 11 (by decide)
      have e4 := CC.out 4 (by decide)
      by_cases h1 : z 9 < 0
      · have E := hide (RF.out (fun c => by have := c.2.2.2.1; omega))
        go_wp2_with fail
        go_ret
        exact ⟨by rw [E.out]; rfl, BL.out⟩
      have h1' : decide (z 9 < 0) = false := decide_eq_false h1
      by_cases h2 : 4096 < z 9
      · have E := hide (RF.out (fun c => by have := c.2.2.2.1; omega))
        clear h1
        go_wp2_with fail
        go_ret
        exact ⟨by rw [E.out]; rfl, BL.out⟩
      have h2' : decide (4096 < z 9) = false := decide_eq_false h2
      have p5 := hp 5 (by decide)
      have m5 := mul_rng (a := z 5) (b := z 11) (m := 4096) (n := 4096) (by omega) p5.2 (by omega) l11.2
      have w1 : IntKind.i64.wrap (z 5 * z 11) = z 5 * z 11 := by rw [IntKind.wrap_i64]; omega
      have g11 : (z 11 == 0) = false := beq_eq_false_iff_ne.2 (by omega)
      have g11' : ¬ (z 11 = 0) := by omega
      by_cases h3 : z 1 = z 5 * z 11
      rotate_left
      · have E := hide (RF.out (fun c => h3 c.2.2.2.2.1))
        have h3' : (z 1 != z 5 * z 11) = true := bne_iff_ne.2 h3
        clear h1 h2 h3
        go_wp2_with fail
        go_ret
        exact ⟨by rw [E.out]; rfl, BL.out⟩
      have h3' : (z 1 != z 5 * z 11) = false := bne_eq_false_iff_eq.2 h3
      by_cases h4 : (z 4).tmod (z 11) = 0
      rotate_left
      · have E := hide (RF.out (fun c => h4 c.2.2.2.2.2.1))
        obtain ⟨v, hv⟩ : ∃ v, (z 4).tmod (z 11) = v := ⟨_, rfl⟩
        rw [hv] at h4
        have h4' : (v != 0) = true := bne_iff_ne.2 h4
        have p4 := hp 4 (by decide)
        have vr : 0 ≤ v ∧ v ≤ 4096 := by rw [← hv, Int.tmod_eq_emod_of_nonneg (by omega)]; exact ⟨Int.emod_nonneg _ (by omega), Int.le_trans (Int.emod_lt_of_pos _ (by omega) |> Int.le_of_lt) l11.2⟩
        have w2 : IntKind.i64.wrap v = v := by rw [IntKind.wrap_i64]; omega
        have H3 := hide h3
        clear h1 h2 h3 h4
        go_wp2_with fail
        go_ret
        exact ⟨by rw [E.out]; rfl, BL.out⟩
      have ZB := hide (show CzB z from ⟨l8, ⟨by omega, by omega⟩, l10, l11, hp⟩)
      have YES := hide (fun (y1 : 0 < szR (cvE z) 4) (y2 : szR (cvE z) 4 * z 5 * z 6 * z 7 ≤ 65536) => RT.out ⟨l8, l10, l11, ⟨by omega, by omega⟩, h3, h4, y1, y2⟩)
      have NO := hide (fun (y : ¬ (0 < szR (cvE z) 4 ∧ szR (cvE z) 4 * z 5 * z 6 * z 7 ≤ 65536)) => RF.out (fun c => y ⟨c.2.2.2.2.2.2.1, c.2.2.2.2.2.2.2⟩))
      have SR := hide (szR_rng (cvE z) 4)
      have p6 := hp 6 (by decide)
      have p7 := hp 7 (by decide)
      have H3 := hide h3
      clear h1 h2 h3 RF RT
      have e0 := CC.out 0 (by decide)
      have e2 := CC.out 2 (by decide)
      have e3 := CC.out 3 (by decide)
      have e6 := CC.out 6 (by decide)
      have e7 := CC.out 7 (by decide)
      have e8 := CC.out 8 (by decide)
      have e10 := CC.out 10 (by decide)
      go_wp2_with fail
      refine (outcomeF z _ ZB.out).mono ?_
      rintro e w2 ⟨g, rfl, hg1, hg2, rw2, b2⟩
      have R2 := hide rw2
      have B2 := hide (BL.out.trans (b2.mono BL.out.size))
      have f5 := (b2.cell (p := ⟨w.heap.size, 5, none⟩) (by have := S1.out; show w.heap.size < wr.heap.size; omega)).trans e5
      have f6 := (b2.cell (p := ⟨w.heap.size, 6, none⟩) (by have := S1.out; show w.heap.size < wr.heap.size; omega)).trans e6
      have f7 := (b2.cell (p := ⟨w.heap.size, 7, none⟩) (by have := S1.out; show w.heap.size < wr.heap.size; omega)).trans e7
      clear rw2 b2 e0 e1 e2 e3 e4 e5 e6 e7 e8 e9 e10 e11 h1' h2' h3' h4 w1 m5
      go_wp2_with fail
      refine (Vs.sizeOf w2.heap.size (some ⟨g, 0, none⟩) 4 4 (cvE z) w2 (R2.out.ints hg2) (by decide)).mono ?_
      rintro e w3 ⟨rfl, hq⟩
      have hq := hq.symm
      subst hq
      have es : sz 4 (cvE z) = szR (cvE z) 4 := by unfold sz; rw [if_neg (by omega)]
      rw [es]
      have sr := SR.out
      obtain ⟨v, hv⟩ : ∃ v, szR (cvE z) 4 = v := ⟨_, rfl⟩
      rw [hv] at sr YES NO ⊢
      clear es hv SR
      by_cases h5 : 0 < v
      rotate_left
      · have E := hide (NO.out (fun c => h5 c.1))
        have h5' : decide (0 < v) = false := decide_eq_false h5
        clear h5
        go_wp2_with fail
        go_ret
        exact ⟨by rw [E.out]; rfl, B2.out⟩
      have m1 := mul_rng (a := v) (b := z 5) (m := 4096) (n := 4096) (by omega) sr.2 (by omega) p5.2
      have m2 := mul_rng (a := v * z 5) (b := z 6) (m := 16777216) (n := 4096) m1.1 (by omega) (by omega) p6.2
      have m3 := mul_rng (a := v * z 5 * z 6) (b := z 7) (m := 68719476736) (n := 4096) m2.1 (by omega) (by omega) p7.2
      obtain ⟨t1, ht1⟩ : ∃ t1, v * z 5 = t1 := ⟨_, rfl⟩
      rw [ht1] at m1 m2 m3 YES NO
      obtain ⟨t2, ht2⟩ : ∃ t2, t1 * z 6 = t2 := ⟨_, rfl⟩
      rw [ht2] at m2 m3 YES NO
      obtain ⟨t3, ht3⟩ : ∃ t3, t2 * z 7 = t3 := ⟨_, rfl⟩
      rw [ht3] at m3 YES NO
      have u1 : IntKind.i64.wrap t1 = t1 := by rw [IntKind.wrap_i64]; omega
      have u2 : IntKind.i64.wrap t2 = t2 := by rw [IntKind.wrap_i64]; omega
      have u3 : IntKind.i64.wrap t3 = t3 := by rw [IntKind.wrap_i64]; omega
      by_cases h6 : t3 ≤ 65536
      · have E := hide (YES.out h5 h6)
        clear m1 m2 m3
        go_wp2_with fail
        go_ret
        exact ⟨by rw [E.out]; rfl, B2.out⟩
      · have E := hide (NO.out (fun c => h6 c.2))
        have h6' : decide (t3 ≤ 65536) = false := decide_eq_false h6
        clear m1 m2 m3 h6
        go_wp2_with fail
        go_ret
        exact ⟨by rw [E.out]; rfl, B2.out⟩
end Vo
end Go.Proofs.Ytgcialbchmbgkaa
