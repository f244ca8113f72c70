/- Worst on both sides. -/
import Derived.Test.YtabjpemneimljaaIg
namespace Go.Proofs.Ytabjpemneimljaa
namespace Vo
open Go.ChangeShapes Go.WideShapes Go.ChangeAt Go.RowKit Go.Joins Go.Sort
open Vl
set_option linter.unusedVariables false
set_option linter.unusedSimpArgs false
/-- how far -/
def ab (x : Int) : Int := if x < 0 then -x else x
/-- the farthest of the first k -/
def wst (S V : Nat → Int) : Nat → Int
  | 0 => 0
  | k + 1 => if wst S V k < ab (S k - V k) then ab (S k - V k) else wst S V k
theorem wst_bd {S V : Nat → Int} {K : Int} (hK : 0 ≤ K) : ∀ k, (∀ j, j < k → -K ≤ S j - V j ∧ S j - V j ≤ K) → 0 ≤ wst S V k ∧ wst S V k ≤ K
  | 0, _ => ⟨by show (0 : Int) ≤ 0; omega, hK⟩
  | k + 1, h => by
    have ih := wst_bd hK k (fun j hj => h j (by omega))
    have := h k (by omega)
    show 0 ≤ (if wst S V k < ab (S k - V k) then ab (S k - V k) else wst S V k) ∧ (if wst S V k < ab (S k - V k) then ab (S k - V k) else wst S V k) ≤ K
    unfold ab
    split <;> split <;> omega
/-- what a list's reals are as bytes (Q), and what these stand for (V) -/
def QV (F G : Nat) (s z : Int) (r : Nat) (S Q V : Nat → Int) : Prop := ∀ j, j < r → (-280375465082880 ≤ V j ∧ V j ≤ 280375465082880) ∧ (-1099511627776 ≤ S j ∧ S j ≤ 1099511627776) ∧
  (∀ w, Calls Try.prog F #[.agg #[.int .i64 s, .int .i64 z], .int .i64 (S j)] w fun e w' => e = .returned (.int .i64 (Q j)) ∧ Below w.heap.size w w') ∧
  (∀ w, Calls Try.prog G #[.agg #[.int .i64 s, .int .i64 z], .int .i64 (Q j)] w fun e w' => e = .returned (.int .i64 (V j)) ∧ Below w.heap.size w w')
theorem qv_both (s z : Int) (r : Nat) (S : Nat → Int) (hs : bd s) (hz : bd z) (hS : ∀ j, j < r → -1099511627776 ≤ S j ∧ S j ≤ 1099511627776) : ∃ Q V : Nat → Int, QV 18 20 s z r S Q V ∧ QV 11 10 s z r S Q V := by
  have key : ∀ j : Nat, ∃ p : Int × Int, j < r → (-280375465082880 ≤ p.2 ∧ p.2 ≤ 280375465082880) ∧
      ((∀ w, Calls Try.prog 18 #[.agg #[.int .i64 s, .int .i64 z], .int .i64 (S j)] w fun e w' => e = .returned (.int .i64 p.1) ∧ Below w.heap.size w w') ∧
      (∀ w, Calls Try.prog 20 #[.agg #[.int .i64 s, .int .i64 z], .int .i64 p.1] w fun e w' => e = .returned (.int .i64 p.2) ∧ Below w.heap.size w w')) ∧
      ((∀ w, Calls Try.prog 11 #[.agg #[.int .i64 s, .int .i64 z], .int .i64 (S j)] w fun e w' => e = .returned (.int .i64 p.1) ∧ Below w.heap.size w w') ∧
      (∀ w, Calls Try.prog 10 #[.agg #[.int .i64 s, .int .i64 z], .int .i64 p.1] w fun e w' => e = .returned (.int .i64 p.2) ∧ Below w.heap.size w w')) := by
    intro j
    by_cases hj : j < r
    · have hx := hS j hj
      obtain ⟨q, ⟨q0, q1⟩, -, hqs, hqi⟩ := quantBoth s z (S j) hs hz ⟨by omega, by omega⟩
      obtain ⟨v, hv, -, hvs, hvi⟩ := valueBoth s z q hs hz ⟨by omega, by omega⟩
      exact ⟨(q, v), fun _ => ⟨hv, ⟨hqs, hvs⟩, ⟨hqi, hvi⟩⟩⟩
    · exact ⟨(0, 0), fun h => absurd h hj⟩
  obtain ⟨f, hf⟩ := Classical.axiomOfChoice key
  exact ⟨fun j => (f j).1, fun j => (f j).2, fun j hj => ⟨(hf j hj).1, hS j hj, (hf j hj).2.1⟩, fun j hj => ⟨(hf j hj).1, hS j hj, (hf j hj).2.2⟩⟩
theorem absS (x : Int) (w : World) (h0 : -9223372036854775807 ≤ x) (h1 : x ≤ 9223372036854775807) :
    Calls Try.prog 44 #[.int .i64 x] w fun e w' => e = .returned (.int .i64 (ab x)) ∧ Below w.heap.size w w' := by
  by_cases c : x < 0
  · have e := hide (show ab x = -x from if_pos c)
    go_enter Try.func44, Try.ntmps44
    go_wp2_with fail
    go_ret
    exact ⟨ret_int e.out.symm, Below.refl _ _⟩
  · have e := hide (show ab x = x from if_neg c)
    have c' : decide (x < 0) = false := decide_eq_false c
    clear c
    go_enter Try.func44, Try.ntmps44
    go_wp2_with fail
    go_ret
    exact ⟨ret_int e.out.symm, Below.refl _ _⟩
set_option maxHeartbeats 1000000 in
theorem sWor_no0 (s z : Int) (a : Option Addr) (cap : Nat) (w : World) :
    Calls Try.prog 25 #[.agg #[.int .i64 s, .int .i64 z], .slice a 0 cap] w fun e w' => e = .returned (.int .i64 0) ∧ Below w.heap.size w w' := by
  go_enter Try.func25, Try.ntmps25
  go_wp2_with fail
  go_loopw [5, 6] (fun m i wx => m = .int .i64 0 ∧ i = .int .i64 0 ∧ Below w.heap.size w wx) (fun _ _ _ => 0)
  case atStart => exact ⟨rfl, rfl, (Below.refl _ _).alloc (Nat.le_refl _) _⟩
  case round =>
    obtain ⟨rfl, rfl, hb⟩ := hrel
    go_wp2_with fail
    go_ret
    exact ⟨rfl, hb⟩
set_option maxHeartbeats 1000000 in
theorem sWor_no1 (s z : Int) (a : Option Addr) (r cap : Nat) (w : World) (h0 : 0 < r) (g : scOk s z = false) :
    Calls Try.prog 25 #[.agg #[.int .i64 s, .int .i64 z], .slice a r cap] w fun e w' => e = .returned (.int .i64 0) ∧ Below w.heap.size w w' := by
  obtain ⟨W0, hW0⟩ : ∃ W0, w.alloc (.cells #[.int .i64 s, .int .i64 z] 25) = W0 := ⟨_, rfl⟩
  have BL := hide (show Below w.heap.size w W0 from hW0 ▸ (Below.refl _ _).alloc (Nat.le_refl _) _)
  have Y := hide (show Box2 W0 w.heap.size s z from hW0 ▸ box2_new _ _ _ _)
  have C := hide (fun w => gScaleS s z false g w)
  have r0 : (0 : Int) < (r : Int) := by omega
  clear g
  go_enter Try.func25, Try.ntmps25
  go_wp2_with fail
  go_loopw [5, 6] (fun m i wx => m = .int .i64 0 ∧ i = .int .i64 0 ∧ Below W0.heap.size W0 wx) (fun _ _ _ => 0)
  case atStart => exact ⟨rfl, rfl, Below.refl _ _⟩
  case round =>
    obtain ⟨rfl, rfl, hb⟩ := hrel
    have HB := hide hb
    obtain ⟨-, k0, k1⟩ := Y.out.below hb
    clear hb
    go_wp2_with fail
    refine (C.out _).mono ?_; rintro e1 w1 ⟨rfl, b1⟩
    clear k0 k1
    go_wp2_with fail
    go_ret
    exact ⟨rfl, (BL.out.trans (HB.out.mono BL.out.size)).trans (b1.mono (Nat.le_trans BL.out.size HB.out.size))⟩
set_option maxHeartbeats 1000000 in
theorem sWor_no2 (s z : Int) (B : Nat) (a : Option Addr) (r cap : Nat) (S : Nat → Int) (w : World) (hB : B ≤ w.heap.size) (h : Ints B w a r S) (hr : (r : Int) ≤ 1048576) (h0 : 0 < r) (g : scOk s z = true) (g' : rls r S = false) :
    Calls Try.prog 25 #[.agg #[.int .i64 s, .int .i64 z], .slice a r cap] w fun e w' => e = .returned (.int .i64 0) ∧ Below w.heap.size w w' := by
  obtain ⟨W0, hW0⟩ : ∃ W0, w.alloc (.cells #[.int .i64 s, .int .i64 z] 25) = W0 := ⟨_, rfl⟩
  have BL := hide (show Below w.heap.size w W0 from hW0 ▸ (Below.refl _ _).alloc (Nat.le_refl _) _)
  have Y := hide (show Box2 W0 w.heap.size s z from hW0 ▸ box2_new _ _ _ _)
  have C := hide (fun w => gScaleS s z true g w)
  have H := hide (h.below (BL.out.mono hB))
  have CR := hide (fun (X : World) (hX : Below W0.heap.size W0 X) => realsS B a r cap S X (Nat.le_trans hB (Nat.le_trans BL.out.size hX.size)) (H.out.below (hX.mono (Nat.le_trans hB BL.out.size))) hr)
  rw [g'] at CR
  have r0 : (0 : Int) < (r : Int) := by omega
  clear g g' h H
  go_enter Try.func25, Try.ntmps25
  go_wp2_with fail
  go_loopw [5, 6] (fun m i wx => m = .int .i64 0 ∧ i = .int .i64 0 ∧ Below W0.heap.size W0 wx) (fun _ _ _ => 0)
  case atStart => exact ⟨rfl, rfl, Below.refl _ _⟩
  case round =>
    obtain ⟨rfl, rfl, hb⟩ := hrel
    have HB := hide hb
    obtain ⟨-, k0, k1⟩ := Y.out.below hb
    clear hb
    go_wp2_with fail
    refine (C.out _).mono ?_; rintro e1 w1 ⟨rfl, b1⟩
    clear k0 k1
    have H1 := hide (HB.out.trans (b1.mono HB.out.size))
    clear b1
    go_wp2_with fail
    refine (CR.out _ H1.out).mono ?_; rintro e1 w2 ⟨rfl, b2⟩
    have H2 := hide (H1.out.trans (b2.mono H1.out.size))
    clear b2
    go_wp2_with fail
    go_ret
    exact ⟨rfl, BL.out.trans (H2.out.mono BL.out.size)⟩
set_option maxHeartbeats 2000000 in
theorem sWor_yes (s z : Int) (B : Nat) (a : Option Addr) (r cap : Nat) (S Q V : Nat → Int) (w : World) (hB : B ≤ w.heap.size) (h : Ints B w a r S) (hr : (r : Int) ≤ 1048576) (g : scOk s z = true) (g' : rls r S = true) (hq : QV 18 20 s z r S Q V) :
    Calls Try.prog 25 #[.agg #[.int .i64 s, .int .i64 z], .slice a r cap] w fun e w' => e = .returned (.int .i64 (wst S V r)) ∧ Below w.heap.size w w' := by
  obtain ⟨W0, hW0⟩ : ∃ W0, w.alloc (.cells #[.int .i64 s, .int .i64 z] 25) = W0 := ⟨_, rfl⟩
  have BL := hide (show Below w.heap.size w W0 from hW0 ▸ (Below.refl _ _).alloc (Nat.le_refl _) _)
  have Y := hide (show Box2 W0 w.heap.size s z from hW0 ▸ box2_new _ _ _ _)
  have C := hide (fun w => gScaleS s z true g w)
  have H := hide (h.below (BL.out.mono hB))
  have CR := hide (fun (X : World) (hX : Below W0.heap.size W0 X) => realsS B a r cap S X (Nat.le_trans hB (Nat.le_trans BL.out.size hX.size)) (H.out.below (hX.mono (Nat.le_trans hB BL.out.size))) hr)
  rw [g'] at CR
  have HQ := hide hq
  clear g g' h hq
  go_enter Try.func25, Try.ntmps25
  go_wp2_with fail
  go_loopw [5, 6] (fun m i wx => ∃ k : Nat, k ≤ r ∧ i = .int .i64 k ∧ m = .int .i64 (wst S V k) ∧ Below W0.heap.size W0 wx) (fun _ i _ => r - (intOf i).toNat)
  case atStart => exact ⟨0, Nat.zero_le _, rfl, rfl, Below.refl _ _⟩
  case round =>
    obtain ⟨k, hk, rfl, rfl, hb⟩ := hrel
    have HB := hide hb
    by_cases hlt : k < r
    · obtain ⟨-, k0, k1⟩ := Y.out.below hb
      have kI : (k : Int) < (r : Int) := by omega
      clear hb
      go_wp2_with fail
      refine (C.out _).mono ?_; rintro e1 w1 ⟨rfl, b1⟩
      clear k0 k1
      have H1 := hide (HB.out.trans (b1.mono HB.out.size))
      clear b1
      go_wp2_with fail
      refine (CR.out _ H1.out).mono ?_; rintro e1 w2 ⟨rfl, b2⟩
      have H2 := hide (H1.out.trans (b2.mono H1.out.size))
      clear b2 H1
      obtain hz | ⟨b, off, rfl, hb, hc⟩ := H.out.below (H2.out.mono (Nat.le_trans hB BL.out.size))
      · omega
      have c1 := cell_regrown ((hc k hlt).1)
      obtain ⟨-, k0, k1⟩ := Y.out.below H2.out
      replace k0 := cell_regrown k0
      replace k1 := cell_regrown k1
      obtain ⟨⟨v0, v1⟩, ⟨x0, x1⟩, hQ, hV⟩ := HQ.out k hlt
      have CQ := hide (fun d os => Calls.regrown_of (d := d) (os := os) (w := w2) (hQ _))
      have CV := hide (fun d os => Calls.regrown_of (d := d) (os := os) (w := w2) (hV _))
      have CA := hide (fun d os => Calls.regrown_of (d := d) (os := os) (w := w2) (absS (S k - V k) _ (by omega) (by omega)))
      have E1 : Hid (wst S V (k + 1) = if wst S V k < ab (S k - V k) then ab (S k - V k) else wst S V k) := hide rfl
      clear hc hb hQ hV
      go_wp2_with fail
      refine wp_region_quiet_below (by kernel_rfl) (by kernel_rfl) ?_
      repeat (go_big_quiet_step (first | (go_at_call 18; exact CQ.out _ _) | (go_at_call 20; exact CV.out _ _) | (go_at_call 44; exact CA.out _ _)))
      refine wpQuiet_nil ?_
      intro _ hw'
      obtain ⟨⟨dq, osq⟩, hw''⟩ := hw'
      subst hw''
      have H3 := hide (H2.out.trans ((below_regrown w2 dq osq).mono H2.out.size))
      clear c1 k0 k1 CQ CV CA
      obtain ⟨X3, hX3⟩ : ∃ X, Sort.grow (redrawn w2 dq) osq = X := ⟨_, rfl⟩
      rw [hX3] at H3 ⊢
      clear hX3
      obtain ⟨d, hd⟩ : ∃ d, ab (S k - V k) = d := ⟨_, rfl⟩
      rw [hd] at E1 ⊢
      obtain ⟨m, hm⟩ : ∃ m, wst S V k = m := ⟨_, rfl⟩
      rw [hm] at E1 ⊢
      clear hd hm
      by_cases c : m < d
      · have e := hide (show wst S V (k + 1) = d by rw [E1.out, if_pos c])
        go_wp2_with fail
        go_roundw
        case rel => exact ⟨k + 1, by omega, by go_num, by rw [e.out], H3.out⟩
        case measure => simp [intOf]; omega
      · have e := hide (show wst S V (k + 1) = m by rw [E1.out, if_neg c])
        have c' : decide (m < d) = false := decide_eq_false c
        clear c
        go_wp2_with fail
        go_roundw
        case rel => exact ⟨k + 1, by omega, by go_num, by rw [e.out], H3.out⟩
        case measure => simp [intOf]; omega
    · obtain rfl : k = r := by omega
      have lk : decide ((k : Int) < (k : Int)) = false := decide_eq_false (by omega)
      clear hb
      go_wp2_with fail
      go_ret
      exact ⟨rfl, BL.out.trans (HB.out.mono BL.out.size)⟩
end Vo
end Go.Proofs.Ytabjpemneimljaa
