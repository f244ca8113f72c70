/- Lemmas for the proof of the law. -/
import Derived.Test.YtejfodkobfdelaaMgab
import Derived.Deep.RegionHeld3
import Derived.Deep.AppendLies
import Derived.Deep.DeepCutAuto
/- ViewOk and Place, the program's side. -/
namespace Go.Proofs.Ytejfodkobfdelaa
namespace Vo
open Go.ChangeShapes Go.WideShapes Go.ChangeAt Go.RowKit Go.Joins
open Vl Vp
set_option linter.unusedVariables false

/-- a view's four fields in a variable -/
def Box (wx : World) (p : Nat) (v0 v1 v2 v3 : Value) : Prop := wx.cell? ⟨p, 0, none⟩ = some v0 ∧ wx.cell? ⟨p, 1, none⟩ = some v1 ∧ wx.cell? ⟨p, 2, none⟩ = some v2 ∧ wx.cell? ⟨p, 3, none⟩ = some v3
theorem box_new (w : World) (v0 v1 v2 v3 : Value) (t : TypeId) : Box (w.alloc (.cells #[v0, v1, v2, v3] t)) w.heap.size v0 v1 v2 v3 := by
  unfold Box
  refine ⟨?_, ?_, ?_, ?_⟩ <;> simp [go_sem]
theorem Box.below {B : Nat} {w w' : World} {p : Nat} {v0 v1 v2 v3 : Value} (h : Box w p v0 v1 v2 v3) (hb : Below B w w') (hp : p < B) : Box w' p v0 v1 v2 v3 := by
  unfold Box at *
  rw [hb.cell (p := ⟨p, 0, none⟩) hp, hb.cell (p := ⟨p, 1, none⟩) hp, hb.cell (p := ⟨p, 2, none⟩) hp, hb.cell (p := ⟨p, 3, none⟩) hp]
  exact h

set_option maxHeartbeats 1000000 in
theorem viewOk (B : Nat) (a b : Option Addr) (r s cap dap : Nat) (D S : Nat → Int) (o n : Int) (w : World) (hB : B ≤ w.heap.size) (h : Ints B w a r D) (h' : Ints B w b s S) (hr : (r : Int) ≤ 1048576) (hs : (s : Int) ≤ 1048576) :
    Calls Try.prog 44 #[.agg #[.slice a r cap, .slice b s dap, .int .i64 o, .int .i64 n]] w fun e w' => e = .returned (.bool (vok r s D S o n)) ∧ Below w.heap.size w w' := by
  have bl : Below w.heap.size w (w.alloc (.cells #[.slice a r cap, .slice b s dap, .int .i64 o, .int .i64 n] 26)) := (Below.refl _ _).alloc (Nat.le_refl _) _
  have H := hide (h.below (bl.mono hB))
  have H' := hide (h'.below (bl.mono hB))
  clear h h'
  have BL := hide bl
  clear bl
  by_cases hd0 : dok r D = false
  · have hd' := hd0
    have e := hide (vok_no (r := r) (s := s) (D := D) (S := S) (o := o) (n := n) (fun v => by have := v.1; rw [hd'] at this; exact absurd this (by decide)))
    clear hd0
    go_enter Try.func44, Try.ntmps44
    go_wp2_with fail
    refine (Vs.dimsOk B a r cap D _ H.out hr).mono ?_; rintro e1 w1 ⟨rfl, rfl⟩
    rw [hd']
    go_wp2_with fail
    go_ret
    exact ⟨ret_bool e.out.symm, BL.out⟩
  have hd : dok r D = true := by simpa using hd0
  clear hd0
  have HD := hide hd
  by_cases hsr : s ≠ r
  · have hsr' : ((s : Int) != (r : Int)) = true := by rw [bne_iff_ne]; omega
    have e := hide (vok_no (r := r) (s := s) (D := D) (S := S) (o := o) (n := n) (fun v => hsr v.2.1))
    clear hsr
    go_enter Try.func44, Try.ntmps44
    go_wp2_with fail
    refine (Vs.dimsOk B a r cap D _ H.out hr).mono ?_; rintro e1 w1 ⟨rfl, rfl⟩
    rw [hd]
    clear hd
    go_wp2_with fail
    go_ret
    exact ⟨ret_bool e.out.symm, BL.out⟩
  obtain rfl : s = r := by omega
  clear hsr
  by_cases hn1 : n < 1
  · have e := hide (vok_no (r := s) (s := s) (D := D) (S := S) (o := o) (n := n) (fun v => by have := v.2.2.1; omega))
    go_enter Try.func44, Try.ntmps44
    go_wp2_with fail
    refine (Vs.dimsOk B a s cap D _ H.out hr).mono ?_; rintro e1 w1 ⟨rfl, rfl⟩
    rw [hd]
    clear hd
    go_wp2_with fail
    go_ret
    exact ⟨ret_bool e.out.symm, BL.out⟩
  have hn1' : decide (n < 1) = false := by rw [decide_eq_false_iff_not]; exact hn1
  by_cases hn2 : 4096 < n
  · have e := hide (vok_no (r := s) (s := s) (D := D) (S := S) (o := o) (n := n) (fun v => by have := v.2.2.2.1; omega))
    clear hn1
    go_enter Try.func44, Try.ntmps44
    go_wp2_with fail
    refine (Vs.dimsOk B a s cap D _ H.out hr).mono ?_; rintro e1 w1 ⟨rfl, rfl⟩
    rw [hd]
    clear hd
    go_wp2_with fail
    go_ret
    exact ⟨ret_bool e.out.symm, BL.out⟩
  have hn2' : decide (4096 < n) = false := by rw [decide_eq_false_iff_not]; exact hn2
  by_cases ho1 : o < 0
  · have e := hide (vok_no (r := s) (s := s) (D := D) (S := S) (o := o) (n := n) (fun v => by have := v.2.2.2.2.1; omega))
    clear hn1 hn2
    go_enter Try.func44, Try.ntmps44
    go_wp2_with fail
    refine (Vs.dimsOk B a s cap D _ H.out hr).mono ?_; rintro e1 w1 ⟨rfl, rfl⟩
    rw [hd]
    clear hd
    go_wp2_with fail
    go_ret
    exact ⟨ret_bool e.out.symm, BL.out⟩
  have ho1' : decide (o < 0) = false := by rw [decide_eq_false_iff_not]; exact ho1
  by_cases ho2 : n ≤ o
  · have e := hide (vok_no (r := s) (s := s) (D := D) (S := S) (o := o) (n := n) (fun v => by have := v.2.2.2.2.2.1; omega))
    clear hn1 hn2 ho1
    go_enter Try.func44, Try.ntmps44
    go_wp2_with fail
    refine (Vs.dimsOk B a s cap D _ H.out hr).mono ?_; rintro e1 w1 ⟨rfl, rfl⟩
    rw [hd]
    clear hd
    go_wp2_with fail
    go_ret
    exact ⟨ret_bool e.out.symm, BL.out⟩
  have ho2' : decide (n ≤ o) = false := by rw [decide_eq_false_iff_not]; exact ho2
  have n1 : 1 ≤ n := by omega
  have n2 : n ≤ 4096 := by omega
  have o1 : 0 ≤ o := by omega
  have o2 : o < n := by omega
  have r6 : (s : Int) ≤ 6 := by have := (dok_iff.1 hd).1; omega
  have nv := box_new w (.slice a s cap) (.slice b s dap) (.int .i64 o) (.int .i64 n) 26
  clear hn1 hn2 ho1 ho2
  go_enter Try.func44, Try.ntmps44
  go_wp2_with fail
  refine (Vs.dimsOk B a s cap D _ H.out hr).mono ?_; rintro e1 w1 ⟨rfl, rfl⟩
  rw [hd]
  clear hd
  go_wp2_with fail
  go_quiet (fail)
  go_wp2_with fail
  go_loopw [3, 4, 48] (fun l g i wx => ∃ k : Nat, k ≤ s ∧ l = .int .i64 (o + lo D S k) ∧ g = .int .i64 (o + hi D S k) ∧ i = .int .i64 k ∧ (∀ j, j < k → -4096 ≤ S j ∧ S j ≤ 4096) ∧ Box wx w.heap.size (.slice a s cap) (.slice b s dap) (.int .i64 o) (.int .i64 n) ∧ Ints B wx a s D ∧ Ints B wx b s S ∧ Below w.heap.size w wx) (fun _ _ i _ => s - (intOf i).toNat)
  case atStart => exact ⟨0, Nat.zero_le _, by simp [lo], by simp [hi], rfl, fun _ h => by omega, nv, H.out, H'.out, below_drewN BL.out _⟩
  case round =>
    obtain ⟨k, hk, rfl, rfl, rfl, hst, hbx, ha, hb, bb⟩ := hrel
    have HA := hide ha
    have HB := hide hb
    have HX := hide hbx
    have HT := hide hst
    have BB := hide bb
    have hdl : ∀ j, j < s → 1 ≤ D j ∧ D j ≤ 4096 := fun j hj => dok_len HD.out hj
    obtain ⟨l1, l2, l3, l4⟩ := lohi_bd k (fun j hj => hdl j (by omega)) hst
    obtain ⟨x0, x1, x2, x3⟩ := hbx
    clear ha hb hst bb
    by_cases hlt : k < s
    · rcases HA.out with h0 | ⟨ba, offa, rfl, hbB, hc⟩
      · omega
      rcases HB.out with h0 | ⟨bb', offb, rfl, hbB', hc'⟩
      · omega
      have c1 := (hc k hlt).1
      have c2 := (hc' k hlt).1
      clear hc hc'
      by_cases q1 : S k < -4096
      · have e := hide (vok_no (r := s) (s := s) (D := D) (S := S) (o := o) (n := n) (fun v => by have := (v.2.2.2.2.2.2.1 k hlt).1; omega))
        go_wp2_with fail
        go_ret
        exact ⟨ret_bool e.out.symm, BB.out⟩
      · have q1' : decide (S k < -4096) = false := by rw [decide_eq_false_iff_not]; exact q1
        by_cases q2 : 4096 < S k
        · have e := hide (vok_no (r := s) (s := s) (D := D) (S := S) (o := o) (n := n) (fun v => by have := (v.2.2.2.2.2.2.1 k hlt).2; omega))
          clear q1
          go_wp2_with fail
          go_ret
          exact ⟨ret_bool e.out.symm, BB.out⟩
        · have q2' : decide (4096 < S k) = false := by rw [decide_eq_false_iff_not]; exact q2
          have d1 := (hdl k hlt).1
          have d2 := (hdl k hlt).2
          have s1 : -4096 ≤ S k := by omega
          have s2 : S k ≤ 4096 := by omega
          obtain ⟨r1, r2⟩ := reach_bd d1 d2 s1 s2
          have kI : (k : Int) < s := by omega
          clear q1 q2 hdl
          go_wp2_with fail
          go_roundw
          case rel =>
            refine ⟨k + 1, by omega, ?_, ?_, by go_num, fun j hj => ?_, HX.out, HA.out, HB.out, BB.out⟩
            · exact congrArg (Value.int .i64) (by simp only [lo]; split <;> omega)
            · exact congrArg (Value.int .i64) (by simp only [hi]; split <;> omega)
            · by_cases e : j = k
              · rw [e]; exact ⟨s1, s2⟩
              · exact HT.out j (by omega)
          case measure => simp [intOf]; omega
    · obtain rfl : k = s := by omega
      by_cases q1 : o + lo D S k ≥ 0
      · have q1' : decide (0 ≤ o + lo D S k) = true := by rw [decide_eq_true_iff]; exact q1
        have e := hide (show decide (o + hi D S k < n) = vok k k D S o n by
          rw [Bool.eq_iff_iff, vok_iff, decide_eq_true_iff]
          exact ⟨fun q => ⟨HD.out, rfl, n1, n2, o1, o2, HT.out, q1, q⟩, fun v => v.2.2.2.2.2.2.2.2⟩)
        go_wp2_with fail
        go_ret
        exact ⟨ret_bool e.out, BB.out⟩
      · have q1' : decide (0 ≤ o + lo D S k) = false := by rw [decide_eq_false_iff_not]; exact q1
        have e := hide (vok_no (r := k) (s := k) (D := D) (S := S) (o := o) (n := n) (fun v => by have := v.2.2.2.2.2.2.2.1; omega))
        clear q1
        go_wp2_with fail
        go_ret
        exact ⟨ret_bool e.out.symm, BB.out⟩
end Vo
end Go.Proofs.Ytejfodkobfdelaa

/- Places, the model's side: the k-th index, its place, all places, ViewOk. -/
namespace Go.Proofs.Ytejfodkobfdelaa
namespace Vo
open Go.ChangeShapes Go.WideShapes Go.ChangeAt Go.RowKit Go.Joins
open Vl Vp
set_option linter.unusedVariables false

set_option maxHeartbeats 1000000 in
theorem l3Index (B : Nat) (a : Option Addr) (r cap : Nat) (D : Nat → Int) (k : Int) (w : World) (h : Ints B w a r D) (hB : B ≤ w.heap.size) (hr : (r : Int) ≤ 6) (hd : ∀ j, j < r → 1 ≤ D j ∧ D j ≤ 4096) (k0 : 0 ≤ k) (k1 : k ≤ 4096) :
    Calls Try.prog 34 #[.slice a r cap, .int .i64 k] w fun e w' => e = .returned (.slice (some ⟨w.heap.size, 0, none⟩) r r) ∧ Rw w' w.heap.size r (dg D r k) ∧ w.heap.size < w'.heap.size ∧ Below w.heap.size w w' := by
  have hmk := make_int r (by omega)
  have H := hide h
  have HD := hide hd
  clear h hd
  go_enter Try.func34, Try.ntmps34
  go_wp2_with fail
  go_loopw [1, 6] (fun c i wx => ∃ (m : Nat) (kk : Int) (O : Nat → Int), m ≤ r ∧ i = .int .i64 ((m : Int) - 1) ∧ c = .int .i64 kk ∧ 0 ≤ kk ∧ kk ≤ 4096 ∧ Rw wx w.heap.size r O ∧ (∀ j, j < r → dg D r k j = if j < m then dg D m kk j else O j) ∧ w.heap.size < wx.heap.size ∧ Below w.heap.size w wx) (fun _ i _ => (intOf i + 1).toNat)
  case atStart => exact ⟨r, k, fun _ => 0, Nat.le_refl _, rfl, rfl, k0, k1, rw_new w r _, fun j hj => by rw [if_pos hj], by simp, (Below.refl _ _).alloc (Nat.le_refl _) _⟩
  case round =>
    obtain ⟨m, kk, O, hm, hi, rfl, q0, q1, hw, hO, hs, hb⟩ := hrel
    have HW := hide hw
    have HO := hide hO
    have HB := hide hb
    clear hO hb
    rcases m with _ | m
    · have hi2 : _ = Value.int .i64 (-1) := hi
      subst hi2
      clear hw
      go_wp2_with fail
      go_ret
      exact ⟨rfl, HW.out.same (fun t ht => by have := HO.out t ht; simpa using this), hs, HB.out⟩
    · rw [show (((m + 1 : Nat) : Int) - 1) = (m : Int) by omega] at hi
      subst hi
      rcases H.out with h0 | ⟨b, off, rfl, hbB, hc⟩
      · omega
      have c1 : wr.cell? ⟨b, off + m, none⟩ = some (.int .i64 (D m)) := (HB.out.cell (p := ⟨b, off + m, none⟩) (show b < w.heap.size by omega)).trans (hc m (by omega)).1
      obtain ⟨c2, f2, _⟩ := hw m (by omega)
      obtain ⟨d1, d2⟩ := HD.out m (by omega)
      have z1 : 0 ≤ kk % D m := Int.emod_nonneg _ (by omega)
      have z2 : kk % D m < D m := Int.emod_lt_of_pos _ (by omega)
      have z3 : 0 ≤ kk / D m := Int.ediv_nonneg q0 (by omega)
      have z4 : kk / D m ≤ kk := Int.ediv_le_self _ q0
      have ml : (m : Int) < r := by omega
      have hne : b ≠ w.heap.size := by omega
      clear hw hc
      go_wp2_with fail
      go_roundw
      case rel =>
        refine ⟨m, kk / D m, _, by omega, rfl, rfl, z3, by omega, HW.out.set m (kk % D m) (by unfold bd; omega), fun j hj => ?_, by simpa [World.setCell] using hs, HB.out.setCell (p := ⟨w.heap.size, m, none⟩) (Nat.le_refl _) _⟩
        rw [HO.out j hj]
        by_cases e : j = m
        · subst e; simp [dg]
        · by_cases l : j < m
          · rw [if_pos (by omega), if_pos l]; simp only [dg]; rw [if_neg e]
          · rw [if_neg (by omega), if_neg l, if_neg e]
      case measure => simp [intOf] <;> omega
theorem sm_abs {I S : Nat → Int} (r : Nat) (hi : ∀ j, j < r → 0 ≤ I j ∧ I j ≤ 4095) (hs : ∀ j, j < r → -4096 ≤ S j ∧ S j ≤ 4096) : -16777216 * (r : Int) ≤ sm I S r ∧ sm I S r ≤ 16777216 * (r : Int) := by
  induction r with
  | zero => simp [sm]
  | succ r ih =>
    have h := ih (fun j hj => hi j (by omega)) (fun j hj => hs j (by omega))
    have b := reach_bd (d := I r + 1) (by have := (hi r (by omega)).1; omega) (by have := (hi r (by omega)).2; omega) (hs r (by omega)).1 (hs r (by omega)).2
    rw [Int.add_sub_cancel] at b
    simp only [sm]
    generalize I r * S r = x at *
    omega
set_option maxHeartbeats 1000000 in
theorem l3Place (B : Nat) (a b ia : Option Addr) (r s q cap dap ica : Nat) (D S I : Nat → Int) (o n : Int) (w : World) (hB : B ≤ w.heap.size) (h : Ints B w b s S) (h' : Ints B w ia q I) (hqs : q ≤ s) (hr : (q : Int) ≤ 6)
    (hi : ∀ j, j < q → 0 ≤ I j ∧ I j ≤ 4095) (hs : ∀ j, j < q → -4096 ≤ S j ∧ S j ≤ 4096) (o0 : 0 ≤ o) (o1 : o ≤ 4096) :
    Calls Try.prog 43 #[.agg #[.slice a r cap, .slice b s dap, .int .i64 o, .int .i64 n], .slice ia q ica] w fun e w' => e = .returned (.int .i64 (o + sm I S q)) ∧ Below w.heap.size w w' := by
  have bl : Below w.heap.size w (w.alloc (.cells #[.slice a r cap, .slice b s dap, .int .i64 o, .int .i64 n] 26)) := (Below.refl _ _).alloc (Nat.le_refl _) _
  have nv := box_new w (.slice a r cap) (.slice b s dap) (.int .i64 o) (.int .i64 n) 26
  have H := hide (h.below (bl.mono hB))
  have H' := hide (h'.below (bl.mono hB))
  have BL := hide bl
  have HI := hide hi
  have HS := hide hs
  have NV := hide nv
  clear h h' bl hi hs nv
  go_enter Try.func43, Try.ntmps43
  go_wp2_with fail
  go_loopw [5, 6] (fun p i wx => ∃ k : Nat, k ≤ q ∧ p = .int .i64 (o + sm I S k) ∧ i = .int .i64 k ∧ Box wx w.heap.size (.slice a r cap) (.slice b s dap) (.int .i64 o) (.int .i64 n) ∧ Ints B wx b s S ∧ Ints B wx ia q I ∧ Below w.heap.size w wx) (fun _ i _ => q - (intOf i).toNat)
  case atStart => exact ⟨0, Nat.zero_le _, by simp [sm], rfl, NV.out, H.out, H'.out, BL.out⟩
  case round =>
    obtain ⟨k, hk, rfl, rfl, hbx, ha, hb, bb⟩ := hrel
    have HA := hide ha
    have HB := hide hb
    have HX := hide hbx
    have BB := hide bb
    obtain ⟨x0, x1, x2, x3⟩ := hbx
    obtain ⟨l1, l2⟩ := sm_abs k (fun j hj => HI.out j (by omega)) (fun j hj => HS.out j (by omega))
    clear ha hb bb
    by_cases hlt : k < q
    · rcases HA.out with h0 | ⟨ba, offa, rfl, hbB, hc⟩
      · omega
      rcases HB.out with h0 | ⟨bb', offb, rfl, hbB', hc'⟩
      · omega
      have c1 := (hc k (by omega)).1
      have c2 := (hc' k hlt).1
      obtain ⟨i1, i2⟩ := HI.out k hlt
      obtain ⟨s1, s2⟩ := HS.out k hlt
      have rb := reach_bd (d := I k + 1) (by omega) (by omega) s1 s2
      rw [Int.add_sub_cancel] at rb
      obtain ⟨r1, r2⟩ := rb
      have kI : (k : Int) < q := by omega
      have kS : (k : Int) < s := by omega
      have e := hide (show sm I S (k + 1) = sm I S k + I k * S k from rfl)
      clear hc hc'
      go_wp2_with fail
      go_quiet (fail)
      go_wp2_with fail
      go_roundw
      case rel =>
        exact ⟨k + 1, by omega, congrArg (Value.int .i64) (by rw [e.out]; omega), by go_num, HX.out, HA.out, HB.out, below_drewN BB.out _⟩
      case measure => simp [intOf]; omega
    · obtain rfl : k = q := by omega
      go_wp2_with fail
      go_ret
      exact ⟨rfl, BB.out⟩
end Vo
end Go.Proofs.Ytejfodkobfdelaa
