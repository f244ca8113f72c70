/- Places, the model's side: the k-th index, its place, all places, ViewOk. -/
import Derived.Test.YtejfodkobfdelaaVo
import Derived.Deep.RegionHeld3
import Derived.Deep.AppendLies
import Derived.Deep.DeepCutAuto
namespace Go.Proofs.Ytejfodkobfdelaa
namespace Vo
open Go.ChangeShapes Go.WideShapes Go.ChangeAt Go.RowKit Go.Joins
open Vl Vp
set_option linter.unusedVariables false

set_option maxHeartbeats 1000000 in
theorem l3Index (B : Nat) (a : Option Addr) (r cap : Nat) (D : Nat → Int) (k : Int) (w : World) (h : Ints B w a r D) (hB : B ≤ w.heap.size) (hr : (r : Int) ≤ 6) (hd : ∀ j, j < r → 1 ≤ D j ∧ D j ≤ 4096) (k0 : 0 ≤ k) (k1 : k ≤ 4096) :
    Calls Try.prog 34 #[.slice a r cap, .int .i64 k] w fun e w' => e = .returned (.slice (some ⟨w.heap.size, 0, none⟩) r r) ∧ Rw w' w.heap.size r (dg D r k) ∧ w.heap.size < w'.heap.size ∧ Below w.heap.size w w' := by
  have hmk := make_int r (by omega)
  have H := hide h
  have HD := hide hd
  clear h hd
  go_enter Try.func34, Try.ntmps34
  go_wp2_with fail
  go_loopw [1, 6] (fun c i wx => ∃ (m : Nat) (kk : Int) (O : Nat → Int), m ≤ r ∧ i = .int .i64 ((m : Int) - 1) ∧ c = .int .i64 kk ∧ 0 ≤ kk ∧ kk ≤ 4096 ∧ Rw wx w.heap.size r O ∧ (∀ j, j < r → dg D r k j = if j < m then dg D m kk j else O j) ∧ w.heap.size < wx.heap.size ∧ Below w.heap.size w wx) (fun _ i _ => (intOf i + 1).toNat)
  case atStart => exact ⟨r, k, fun _ => 0, Nat.le_refl _, rfl, rfl, k0, k1, rw_new w r _, fun j hj => by rw [if_pos hj], by simp, (Below.refl _ _).alloc (Nat.le_refl _) _⟩
  case round =>
    obtain ⟨m, kk, O, hm, hi, rfl, q0, q1, hw, hO, hs, hb⟩ := hrel
    have HW := hide hw
    have HO := hide hO
    have HB := hide hb
    clear hO hb
    rcases m with _ | m
    · have hi2 : _ = Value.int .i64 (-1) := hi
      subst hi2
      clear hw
      go_wp2_with fail
      go_ret
      exact ⟨rfl, HW.out.same (fun t ht => by have := HO.out t ht; simpa using this), hs, HB.out⟩
    · rw [show (((m + 1 : Nat) : Int) - 1) = (m : Int) by omega] at hi
      subst hi
      rcases H.out with h0 | ⟨b, off, rfl, hbB, hc⟩
      · omega
      have c1 : wr.cell? ⟨b, off + m, none⟩ = some (.int .i64 (D m)) := (HB.out.cell (p := ⟨b, off + m, none⟩) (show b < w.heap.size by omega)).trans (hc m (by omega)).1
      obtain ⟨c2, f2, _⟩ := hw m (by omega)
      obtain ⟨d1, d2⟩ := HD.out m (by omega)
      have z1 : 0 ≤ kk % D m := Int.emod_nonneg _ (by omega)
      have z2 : kk % D m < D m := Int.emod_lt_of_pos _ (by omega)
      have z3 : 0 ≤ kk / D m := Int.ediv_nonneg q0 (by omega)
      have z4 : kk / D m ≤ kk := Int.ediv_le_self _ q0
      have ml : (m : Int) < r := by omega
      have hne : b ≠ w.heap.size := by omega
      clear hw hc
      go_wp2_with fail
      go_roundw
      case rel =>
        refine ⟨m, kk / D m, _, by omega, rfl, rfl, z3, by omega, HW.out.set m (kk % D m) (by unfold bd; omega), fun j hj => ?_, by simpa [World.setCell] using hs, HB.out.setCell (p := ⟨w.heap.size, m, none⟩) (Nat.le_refl _) _⟩
        rw [HO.out j hj]
        by_cases e : j = m
        · subst e; simp [dg]
        · by_cases l : j < m
          · rw [if_pos (by omega), if_pos l]; simp only [dg]; rw [if_neg e]
          · rw [if_neg (by omega), if_neg l, if_neg e]
      case measure => simp [intOf] <;> omega
theorem sm_abs {I S : Nat → Int} (r : Nat) (hi : ∀ j, j < r → 0 ≤ I j ∧ I j ≤ 4095) (hs : ∀ j, j < r → -4096 ≤ S j ∧ S j ≤ 4096) : -16777216 * (r : Int) ≤ sm I S r ∧ sm I S r ≤ 16777216 * (r : Int) := by
  induction r with
  | zero => simp [sm]
  | succ r ih =>
    have h := ih (fun j hj => hi j (by omega)) (fun j hj => hs j (by omega))
    have b := reach_bd (d := I r + 1) (by have := (hi r (by omega)).1; omega) (by have := (hi r (by omega)).2; omega) (hs r (by omega)).1 (hs r (by omega)).2
    rw [Int.add_sub_cancel] at b
    simp only [sm]
    generalize I r * S r = x at *
    omega
set_option maxHeartbeats 1000000 in
theorem l3Place (B : Nat) (a b ia : Option Addr) (r s q cap dap ica : Nat) (D S I : Nat → Int) (o n : Int) (w : World) (hB : B ≤ w.heap.size) (h : Ints B w b s S) (h' : Ints B w ia q I) (hqs : q ≤ s) (hr : (q : Int) ≤ 6)
    (hi : ∀ j, j < q → 0 ≤ I j ∧ I j ≤ 4095) (hs : ∀ j, j < q → -4096 ≤ S j ∧ S j ≤ 4096) (o0 : 0 ≤ o) (o1 : o ≤ 4096) :
    Calls Try.prog 43 #[.agg #[.slice a r cap, .slice b s dap, .int .i64 o, .int .i64 n], .slice ia q ica] w fun e w' => e = .returned (.int .i64 (o + sm I S q)) ∧ Below w.heap.size w w' := by
  have bl : Below w.heap.size w (w.alloc (.cells #[.slice a r cap, .slice b s dap, .int .i64 o, .int .i64 n] 26)) := (Below.refl _ _).alloc (Nat.le_refl _) _
  have nv := box_new w (.slice a r cap) (.slice b s dap) (.int .i64 o) (.int .i64 n) 26
  have H := hide (h.below (bl.mono hB))
  have H' := hide (h'.below (bl.mono hB))
  have BL := hide bl
  have HI := hide hi
  have HS := hide hs
  have NV := hide nv
  clear h h' bl hi hs nv
  go_enter Try.func43, Try.ntmps43
  go_wp2_with fail
  go_loopw [5, 6] (fun p i wx => ∃ k : Nat, k ≤ q ∧ p = .int .i64 (o + sm I S k) ∧ i = .int .i64 k ∧ Box wx w.heap.size (.slice a r cap) (.slice b s dap) (.int .i64 o) (.int .i64 n) ∧ Ints B wx b s S ∧ Ints B wx ia q I ∧ Below w.heap.size w wx) (fun _ i _ => q - (intOf i).toNat)
  case atStart => exact ⟨0, Nat.zero_le _, by simp [sm], rfl, NV.out, H.out, H'.out, BL.out⟩
  case round =>
    obtain ⟨k, hk, rfl, rfl, hbx, ha, hb, bb⟩ := hrel
    have HA := hide ha
    have HB := hide hb
    have HX := hide hbx
    have BB := hide bb
    obtain ⟨x0, x1, x2, x3⟩ := hbx
    obtain ⟨l1, l2⟩ := sm_abs k (fun j hj => HI.out j (by omega)) (fun j hj => HS.out j (by omega))
    clear ha hb bb
    by_cases hlt : k < q
    · rcases HA.out with h0 | ⟨ba, offa, rfl, hbB, hc⟩
      · omega
      rcases HB.out with h0 | ⟨bb', offb, rfl, hbB', hc'⟩
      · omega
      have c1 := (hc k (by omega)).1
      have c2 := (hc' k hlt).1
      obtain ⟨i1, i2⟩ := HI.out k hlt
      obtain ⟨s1, s2⟩ := HS.out k hlt
      have rb := reach_bd (d := I k + 1) (by omega) (by omega) s1 s2
      rw [Int.add_sub_cancel] at rb
      obtain ⟨r1, r2⟩ := rb
      have kI : (k : Int) < q := by omega
      have kS : (k : Int) < s := by omega
      have e := hide (show sm I S (k + 1) = sm I S k + I k * S k from rfl)
      clear hc hc'
      go_wp2_with fail
      go_quiet (fail)
      go_wp2_with fail
      go_roundw
      case rel =>
        exact ⟨k + 1, by omega, congrArg (Value.int .i64) (by rw [e.out]; omega), by go_num, HX.out, HA.out, HB.out, below_drewN BB.out _⟩
      case measure => simp [intOf]; omega
    · obtain rfl : k = q := by omega
      go_wp2_with fail
      go_ret
      exact ⟨rfl, BB.out⟩
end Vo
end Go.Proofs.Ytejfodkobfdelaa
