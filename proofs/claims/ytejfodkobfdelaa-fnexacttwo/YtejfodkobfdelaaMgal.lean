/- Lemmas for the proof of the law. -/
import Derived.Test.YtejfodkobfdelaaRows
import Derived.Test.YtejfodkobfdelaaMgak
import Derived.WalkKit
import Derived.ProofKit
import Derived.OpenShut
import Derived.Test.YtejfodkobfdelaaMgai
/- What the small functions of chapter 1 return, on both sides: remainders, sums, differences, products. Each only computes: the world stands. -/
namespace Go.Proofs.Ytejfodkobfdelaa
namespace Base
open Go.ChangeShapes Go.WideShapes Go.ChangeAt Go.RowKit
set_option linter.unusedVariables false

theorem hide {p : Prop} (h : p) : Hid p := h
theorem ret_int {k : IntKind} {a b : Int} (h : a = b) : Ending.returned (.int k a) = .returned (.int k b) := by rw [h]
theorem ret_bool {a b : Bool} (h : a = b) : Ending.returned (.bool a) = .returned (.bool b) := by rw [h]

theorem specMod (x : Int) (w : World) (h0 : -9223372036854775808 ≤ x) (h1 : x ≤ 9223372036854775807) :
    Calls Try.prog 77 #[.int .i64 x] w fun e w' => e = .returned (.int .i64 (x % 2147483647)) ∧ w' = w := by
  have hb := Num.tmod_bd x
  obtain ⟨hb1, hb2⟩ := hb
  by_cases h : x.tmod 2147483647 < 0
  · have e := hide (Num.tmod_neg_iff x h)
    go_enter Try.func77, Try.ntmps77
    go_wp2
    go_ret
    exact ⟨ret_int e.out, rfl⟩
  · have e := hide (Num.tmod_nonneg_iff x (by omega))
    go_enter Try.func77, Try.ntmps77
    go_wp2
    go_ret
    exact ⟨ret_int e.out, rfl⟩

theorem residueOf (x : Int) (w : World) (h0 : -9223372036854775808 ≤ x) (h1 : x ≤ 9223372036854775807) :
    Calls Try.prog 80 #[.int .i64 x] w fun e w' => e = .returned (.int .i64 (x % 2147483647)) ∧ w' = w := by
  have hb := Num.tmod_bd x
  obtain ⟨hb1, hb2⟩ := hb
  by_cases h : x.tmod 2147483647 < 0
  · have e := hide (Num.tmod_neg_iff x h)
    go_enter Try.func80, Try.ntmps80
    go_wp2
    go_ret
    exact ⟨ret_int e.out, rfl⟩
  · have e := hide (Num.tmod_nonneg_iff x (by omega))
    go_enter Try.func80, Try.ntmps80
    go_wp2
    go_ret
    exact ⟨ret_int e.out, rfl⟩

theorem implMod (x : Int) (w : World) (h0 : -9223372036854775808 ≤ x) (h1 : x ≤ 9223372036854775807) :
    Calls Try.prog 59 #[.int .i64 x] w fun e w' => e = .returned (.int .i64 (x % 2147483647)) ∧ w' = w := by
  go_enter Try.func59, Try.ntmps59
  go_wp2_with (go_at_call 80; refine (residueOf _ _ h0 h1).mono ?_; rintro e w' ⟨rfl, rfl⟩)
  go_ret
  exact ⟨rfl, rfl⟩

theorem specPlus (a b : Int) (w : World) (a0 : -9223372036854775808 ≤ a) (a1 : a ≤ 9223372036854775807) (b0 : -9223372036854775808 ≤ b) (b1 : b ≤ 9223372036854775807) :
    Calls Try.prog 49 #[.int .i64 a, .int .i64 b] w fun e w' => e = .returned (.int .i64 ((a + b) % 2147483647)) ∧ w' = w := by
  go_enter Try.func49, Try.ntmps49
  go_wp2_with fail
  refine (specMod _ _ a0 a1).mono ?_; rintro e w' ⟨rfl, rfl⟩
  go_wp2_with fail
  refine (specMod _ _ b0 b1).mono ?_; rintro e w' ⟨rfl, rfl⟩
  go_wp2_with fail
  refine (specMod _ _ (by omega) (by omega)).mono ?_; rintro e w' ⟨rfl, rfl⟩
  go_wp2_with fail
  go_ret
  exact ⟨rfl, rfl⟩

theorem plus (a b : Int) (w : World) (a0 : 0 ≤ a) (a1 : a < 2147483647) (b0 : 0 ≤ b) (b1 : b < 2147483647) :
    Calls Try.prog 81 #[.int .i64 a, .int .i64 b] w fun e w' => e = .returned (.int .i64 ((a + b) % 2147483647)) ∧ w' = w := by
  go_enter Try.func81, Try.ntmps81
  go_wp2
  go_ret
  exact ⟨rfl, rfl⟩

theorem implPlus (a b : Int) (w : World) (a0 : -9223372036854775808 ≤ a) (a1 : a ≤ 9223372036854775807) (b0 : -9223372036854775808 ≤ b) (b1 : b ≤ 9223372036854775807) :
    Calls Try.prog 54 #[.int .i64 a, .int .i64 b] w fun e w' => e = .returned (.int .i64 ((a + b) % 2147483647)) ∧ w' = w := by
  go_enter Try.func54, Try.ntmps54
  go_wp2_with fail
  refine (residueOf _ _ a0 a1).mono ?_; rintro e w' ⟨rfl, rfl⟩
  go_wp2_with fail
  refine (residueOf _ _ b0 b1).mono ?_; rintro e w' ⟨rfl, rfl⟩
  go_wp2_with fail
  refine (plus _ _ _ (by omega) (by omega) (by omega) (by omega)).mono ?_; rintro e w' ⟨rfl, rfl⟩
  go_wp2_with fail
  go_ret
  exact ⟨rfl, rfl⟩

theorem specMinus (a b : Int) (w : World) (a0 : -9223372036854775808 ≤ a) (a1 : a ≤ 9223372036854775807) (b0 : -9223372036854775808 ≤ b) (b1 : b ≤ 9223372036854775807) :
    Calls Try.prog 50 #[.int .i64 a, .int .i64 b] w fun e w' => e = .returned (.int .i64 ((a - b) % 2147483647)) ∧ w' = w := by
  go_enter Try.func50, Try.ntmps50
  go_wp2_with fail
  refine (specMod _ _ a0 a1).mono ?_; rintro e w' ⟨rfl, rfl⟩
  go_wp2_with fail
  refine (specMod _ _ b0 b1).mono ?_; rintro e w' ⟨rfl, rfl⟩
  go_wp2_with fail
  refine (specMod _ _ (by omega) (by omega)).mono ?_; rintro e w' ⟨rfl, rfl⟩
  go_wp2_with fail
  go_ret
  exact ⟨rfl, rfl⟩

theorem minus (a b : Int) (w : World) (a0 : 0 ≤ a) (a1 : a < 2147483647) (b0 : 0 ≤ b) (b1 : b < 2147483647) :
    Calls Try.prog 82 #[.int .i64 a, .int .i64 b] w fun e w' => e = .returned (.int .i64 ((a - b) % 2147483647)) ∧ w' = w := by
  have e : Hid ((a + 2147483647 - b) % 2147483647 = (a - b) % 2147483647) := by show _ = _; omega
  go_enter Try.func82, Try.ntmps82
  go_wp2
  go_ret
  exact ⟨ret_int e.out, rfl⟩

theorem implMinus (a b : Int) (w : World) (a0 : -9223372036854775808 ≤ a) (a1 : a ≤ 9223372036854775807) (b0 : -9223372036854775808 ≤ b) (b1 : b ≤ 9223372036854775807) :
    Calls Try.prog 55 #[.int .i64 a, .int .i64 b] w fun e w' => e = .returned (.int .i64 ((a - b) % 2147483647)) ∧ w' = w := by
  go_enter Try.func55, Try.ntmps55
  go_wp2_with fail
  refine (residueOf _ _ a0 a1).mono ?_; rintro e w' ⟨rfl, rfl⟩
  go_wp2_with fail
  refine (residueOf _ _ b0 b1).mono ?_; rintro e w' ⟨rfl, rfl⟩
  go_wp2_with fail
  refine (minus _ _ _ (by omega) (by omega) (by omega) (by omega)).mono ?_; rintro e w' ⟨rfl, rfl⟩
  go_wp2_with fail
  go_ret
  exact ⟨rfl, rfl⟩

theorem specTimes (a b : Int) (w : World) (a0 : -9223372036854775808 ≤ a) (a1 : a ≤ 9223372036854775807) (b0 : -9223372036854775808 ≤ b) (b1 : b ≤ 9223372036854775807) :
    Calls Try.prog 51 #[.int .i64 a, .int .i64 b] w fun e w' => e = .returned (.int .i64 ((a % 2147483647 * (b % 2147483647)) % 2147483647)) ∧ w' = w := by
  obtain ⟨m0, m1⟩ := Num.mul_bd (a % 2147483647) (b % 2147483647) (by omega) (by omega) (by omega) (by omega)
  go_enter Try.func51, Try.ntmps51
  go_wp2_with fail
  refine (specMod _ _ a0 a1).mono ?_; rintro e w' ⟨rfl, rfl⟩
  go_wp2_with fail
  refine (specMod _ _ b0 b1).mono ?_; rintro e w' ⟨rfl, rfl⟩
  go_wp2_with fail
  refine (specMod _ _ (by omega) (by omega)).mono ?_; rintro e w' ⟨rfl, rfl⟩
  go_wp2_with fail
  go_ret
  exact ⟨rfl, rfl⟩

theorem times (a b : Int) (w : World) (a0 : 0 ≤ a) (a1 : a < 2147483647) (b0 : 0 ≤ b) (b1 : b < 2147483647) :
    Calls Try.prog 83 #[.int .i64 a, .int .i64 b] w fun e w' => e = .returned (.int .i64 ((a * b) % 2147483647)) ∧ w' = w := by
  obtain ⟨m0, m1⟩ := Num.mul_bd a b a0 a1 b0 b1
  go_enter Try.func83, Try.ntmps83
  go_wp2
  go_ret
  exact ⟨rfl, rfl⟩

theorem implTimes (a b : Int) (w : World) (a0 : -9223372036854775808 ≤ a) (a1 : a ≤ 9223372036854775807) (b0 : -9223372036854775808 ≤ b) (b1 : b ≤ 9223372036854775807) :
    Calls Try.prog 56 #[.int .i64 a, .int .i64 b] w fun e w' => e = .returned (.int .i64 ((a % 2147483647 * (b % 2147483647)) % 2147483647)) ∧ w' = w := by
  go_enter Try.func56, Try.ntmps56
  go_wp2_with fail
  refine (residueOf _ _ a0 a1).mono ?_; rintro e w' ⟨rfl, rfl⟩
  go_wp2_with fail
  refine (residueOf _ _ b0 b1).mono ?_; rintro e w' ⟨rfl, rfl⟩
  go_wp2_with fail
  refine (times _ _ _ (by omega) (by omega) (by omega) (by omega)).mono ?_; rintro e w' ⟨rfl, rfl⟩
  go_wp2_with fail
  go_ret
  exact ⟨rfl, rfl⟩

end Base
end Go.Proofs.Ytejfodkobfdelaa

/- elementwise; Fill on both sides. -/
namespace Go.Proofs.Ytejfodkobfdelaa
namespace Vo
open Go.ChangeShapes Go.WideShapes Go.ChangeAt Go.RowKit Go.Joins
open Vl Vp Vr
set_option linter.unusedVariables false
set_option linter.unusedSimpArgs false

/-- a tensor, plain -/
structure PT where
  r : Nat
  s : Nat
  D : Nat → Int
  S : Nat → Int
def PT.zero : PT := ⟨0, 0, fun _ => 0, fun _ => 0⟩
/-- a tensor that is answered: of one's own, from B on -/
def TensR (B : Nat) (v : PT) (w : World) (e : Ending) (w' : World) : Prop :=
  ∃ a b c d, e = .returned (.agg #[.slice a v.r c, .slice b v.s d]) ∧ VOwn B w' a b v.r v.s v.D v.S ∧ Below w.heap.size w w'
theorem tensR_zero {B : Nat} {w w' : World} (hb : Below w.heap.size w w') : TensR B PT.zero w (.returned (.agg #[.slice none 0 0, .slice none 0 0])) w' :=
  ⟨none, none, 0, 0, rfl, ⟨.inl rfl, .inl rfl, fun k h => absurd rfl h.1⟩, hb⟩
theorem kept_sets2 (w : World) (p : Nat) (u0 u1 : Value) : Kept (· = p) w ((w.setCell ⟨p, 0, none⟩ u0).setCell ⟨p, 1, none⟩ u1) :=
  (Kept.setCell w ⟨p, 0, none⟩ u0).trans (Kept.setCell _ ⟨p, 1, none⟩ u1)
theorem kept_drew {S : Nat → Prop} {a b : World} (h : Kept S a b) : Kept S a b.drew := ⟨h.os, h.tape, h.output, h.size, h.block⟩
/-- how many numbers -/
def cntT (r : Nat) (D : Nat → Int) : Nat := (szR D r).toNat
theorem cntT_cast (r : Nat) (D : Nat → Int) : ((cntT r D : Nat) : Int) = szR D r := by unfold cntT; have := szR_rng D r; omega
theorem cntT_le (r : Nat) (D : Nat → Int) : ((cntT r D : Nat) : Int) ≤ 4096 := by rw [cntT_cast]; exact (szR_rng D r).2
def fillP (r : Nat) (D : Nat → Int) (x : Int) : PT := if dok r D = true then ⟨r, cntT r D, D, fun _ => x % 2147483647⟩ else PT.zero
theorem fillP_le (r : Nat) (D : Nat → Int) (x : Int) : (fillP r D x).r ≤ r ∧ (((fillP r D x).s : Nat) : Int) ≤ 4096 := by
  unfold fillP
  split
  · exact ⟨Nat.le_refl _, cntT_le r D⟩
  · exact ⟨Nat.zero_le _, by simp [PT.zero]⟩
set_option maxHeartbeats 1000000 in
theorem elementwise1 (N : Nat) (F : Nat) (c : Value) (G : Nat → Int) (w : World) (hN : (N : Int) ≤ 4194304) (hG : ∀ k, k < N → bd (G k)) (eF : ∀ args w, (callFunc F args).run Try.prog w = .ok (.enter F args) w)
    (hf : ∀ (k : Nat) (W : World), k < N → Below w.heap.size w W → Calls Try.prog F #[.int .i64 k, c] W fun e W' => e = .returned (.int .i64 (G k)) ∧ Below W.heap.size W W') :
    Calls Try.prog 41 #[.int .i64 N, .func (.func F) #[] #[c]] w fun e w' => e = .returned (.slice (some ⟨w.heap.size, 0, none⟩) N N) ∧ Rw w' w.heap.size N G ∧ w.heap.size < w'.heap.size ∧ Below w.heap.size w w' := by
  have hmk := make_int N (by omega)
  have HF := hide hf
  have HG := hide hG
  clear hf hG
  go_enter Try.func41, Try.ntmps41
  go_wp2_with fail
  go_loopw [11] (fun i wx => ∃ k : Nat, k ≤ N ∧ i = .int .i64 k ∧ Rw wx w.heap.size N (fun t => if t < k then G t else 0) ∧ w.heap.size < wx.heap.size ∧ Below w.heap.size w wx) (fun i _ => N - (intOf i).toNat)
  case atStart => exact ⟨0, Nat.zero_le _, rfl, (rw_new w N _).same (fun t ht => by simp), by simp, (Below.refl _ _).alloc (Nat.le_refl _) _⟩
  case round =>
    obtain ⟨k, hk, rfl, hw, hs, hb⟩ := hrel
    have HW := hide hw
    have HB := hide hb
    clear hw hb
    by_cases hlt : k < N
    · have hkI : (k : Int) < N := by omega
      go_wp2_with fail
      refine (HF.out k _ hlt HB.out).mono ?_
      rintro e w1 ⟨rfl, b1⟩
      have HW1 := hide (HW.out.below b1 hs)
      have HB1 := hide (HB.out.trans (b1.mono HB.out.size))
      have hs1 : w.heap.size < w1.heap.size := Nat.lt_of_lt_of_le hs b1.size
      obtain ⟨c2, f2, _⟩ := HW1.out k hlt
      clear b1
      go_wp2_with fail
      go_roundw
      case rel => exact ⟨k + 1, by omega, by go_num, (HW1.out.set k (G k) (HG.out k hlt)).same (fun t ht => by by_cases c : t = k <;> by_cases c2 : t < k <;> simp [c, c2] <;> omega), by simpa [World.setCell] using hs1, HB1.out.setCell (p := ⟨w.heap.size, k, none⟩) (Nat.le_refl _) _⟩
      case measure => simp [intOf]; omega
    · have e : k = N := by omega
      go_wp2_with fail
      go_ret
      exact ⟨rfl, HW.out.same (fun t ht => by simp; intro; omega), hs, HB.out⟩
set_option maxRecDepth 100000 in
set_option maxHeartbeats 1000000 in
theorem l4New (B : Nat) (a : Addr) (r cap N : Nat) (D : Nat → Int) (w : World) (hB : B ≤ w.heap.size) (h : Ints B w (some a) r D) (hr : (r : Int) ≤ 1048576) (hN : szR D r = (N : Int)) (lN : (N : Int) ≤ 4096) :
    Calls Try.prog 33 #[.slice (some a) r cap] w fun e w' => ∃ va vc g, e = .returned (.agg #[.slice va r vc, .slice (some ⟨g, 0, none⟩) N N]) ∧ OwnL (w.heap.size + 1) w' va r D ∧ Rw w' g N (fun _ => 0) ∧ w.heap.size + 1 ≤ g ∧ g < w'.heap.size ∧ (∀ k, Blk va r k → k ≠ g) ∧ Below w.heap.size w w' := by
  have hmk := make_int N (by omega)
  obtain ⟨W0, hW0⟩ : ∃ W0, w.alloc (.cells #[.slice none 0 0, .slice none 0 0] 38) = W0 := ⟨_, rfl⟩
  have hs0 : W0.heap.size = w.heap.size + 1 := by rw [← hW0]; simp
  have bl : Below w.heap.size w W0 := by rw [← hW0]; exact (Below.refl _ _).alloc (Nat.le_refl _) _
  have M0 := hide (show Bx W0 w.heap.size (.slice none 0 0) (.slice none 0 0) by rw [← hW0]; exact bx_new w _ _ _)
  have G0 := hide (show Free W0 w.heap.size by rw [← hW0]; exact free_new w _ _)
  have H := hide (h.below (bl.mono hB))
  have BL := hide bl
  have HS0 := hide hs0
  have EN := hide hN
  clear h bl hs0 hN
  go_enter Try.func33, Try.ntmps33
  go_wp2_with fail
  clear hW0
  refine (l3Ints B a r cap D _ H.out (by have := HS0.out; omega) hr).mono ?_
  rintro e w1 ⟨v, rfl, rv, b1⟩
  obtain ⟨va, vc, rfl, ov⟩ := rv.own
  have zz := HS0.out
  have M1 := hide (M0.out.below b1 (by omega))
  have G1 := hide (G0.out.below b1 (by omega))
  have B1 := hide (BL.out.trans (b1.mono BL.out.size))
  have H1 := hide (H.out.below (b1.mono (by omega)))
  have OV := hide ov
  have s1 : w.heap.size < w1.heap.size := by have := b1.size; omega
  clear rv b1 ov zz
  go_wp2_with fail
  refine (Vs.l3Size B (some a) r cap D _ H1.out hr).mono ?_
  rintro e w2 ⟨rfl, hq⟩
  have hq := hq.symm
  subst hq
  rw [EN.out]
  obtain ⟨W2, hW2⟩ : ∃ W2, w1.alloc (.cells (madeCells #[.int .i64 0] N) 3) = W2 := ⟨_, rfl⟩
  have b2 : Below w1.heap.size w1 W2 := by rw [← hW2]; exact (Below.refl _ _).alloc (Nat.le_refl _) _
  have R2 := hide (show Rw W2 w1.heap.size N (fun _ => 0) by rw [← hW2]; exact rw_new w1 N _)
  have z2 : w1.heap.size < W2.heap.size := by rw [← hW2]; simp
  have M2 := hide (M1.out.below b2 s1)
  have G2 := hide (G1.out.below b2 s1)
  have B2 := hide (B1.out.trans (b2.mono B1.out.size))
  have OV2 := hide (OV.out.below b2)
  clear b2
  obtain ⟨y0, y1⟩ := M2.out
  have gg := G2.out
  unfold Free at gg
  go_wp2_with fail
  refine bodyPost_ret (v := .agg #[.slice va r vc, .slice (some ⟨w1.heap.size, 0, none⟩) N N]) (by simp [results, Try.results33, go_sem, y0, y1]) rfl ?_
  have k2 := kept_sets2 W2 w.heap.size (.slice va r vc) (.slice (some ⟨w1.heap.size, 0, none⟩) N N)
  have zz := HS0.out
  refine ⟨va, vc, w1.heap.size, rfl, (OV2.out.kept k2 (fun b q e => ?_)).mono (by omega), R2.out.kept k2 (by omega), by omega, by exact Nat.lt_of_lt_of_le z2 k2.size, fun k q e => ?_, B2.out.trans (k2.below B2.out.size (fun j e => by have e : j = w.heap.size := e; omega))⟩
  · have := (OV2.out.blk q).1
    have e : b = w.heap.size := e
    omega
  · have := (OV.out.blk q).2
    omega
end Vo
end Go.Proofs.Ytejfodkobfdelaa
