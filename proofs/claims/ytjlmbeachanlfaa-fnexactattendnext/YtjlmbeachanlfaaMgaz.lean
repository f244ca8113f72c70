/- Lemmas for the proof of the law. -/
import Derived.Test.YtjlmbeachanlfaaMgay
import Derived.Maps.AppendAt
import Derived.Test.YtjlmbeachanlfaaMgal
/- push: an axis behind all others. -/
namespace Go.Proofs.Ytjlmbeachanlfaa
namespace Vo
open Go.ChangeShapes Go.WideShapes Go.ChangeAt Go.RowKit Go.Joins
open Vl Vp Vr
set_option linter.unusedVariables false
set_option linter.unusedSimpArgs false

/-- a row of one's own under a store into itself -/
theorem RowV.set {B : Nat} {w : World} {v : Value} {r : Nat} {D : Nat → Int} (h : RowV B w v r D) {g : Nat} (hg : v.ownBlock = some g) (k : Nat) (hk : k < r) (u : Int) (hu : bd u) : RowV B (w.setCell ⟨g, k, none⟩ (.int .i64 u)) v r (upd D k u) := by
  obtain ⟨⟨h1, h2⟩, hb⟩ := h
  refine ⟨⟨by simp [ints], ?_⟩, fun j hj => ?_⟩
  · rcases h2 with ⟨rfl, rfl⟩ | ⟨g', cap, cur, rfl, hg', hh, hc1, hc2, hc3, hc4⟩
    · omega
    · have e : g' = g := by simpa [Value.ownBlock] using hg
      subst e
      refine .inr ⟨g', cap, cur.setIfInBounds k (.int .i64 u), rfl, hg', ?_, hc1, hc2, by simpa using hc3, ?_⟩
      · have hlt := lt_of_block hh
        have h' : w.heap[g'] = .cells cur 3 (0, 0) := by simpa [Array.getElem?_eq_getElem hlt] using hh
        show (w.heap.modify g' _)[g']? = _
        rw [Array.getElem?_eq_getElem (by simpa using hlt), Array.getElem_modify_self, h']
        simp
      · have e : ints r (upd D k u) = (ints r D).set k (.int .i64 u) := by
          refine List.ext_getElem? fun j => ?_
          by_cases hj : j < r
          · rw [ints_get r _ j hj, List.getElem?_set]
            by_cases hjk : k = j
            · subst hjk
              rw [if_pos rfl, if_pos (by rw [ints_len]; exact hj)]
              unfold upd; rw [if_pos rfl]
            · rw [if_neg hjk, ints_get r _ j hj]
              unfold upd; rw [if_neg (fun q => hjk q.symm)]
          · rw [List.getElem?_eq_none (by rw [ints_len]; omega), List.getElem?_eq_none (by rw [List.length_set, ints_len]; omega)]
        rw [e, ← hc4, Array.toList_setIfInBounds, Nat.mul_one, List.take_set]
  · unfold upd
    split
    · exact hu
    · exact hb j hj
theorem own_some {w : World} {B : Nat} {t : TypeId} {v : Value} {r : Nat} {xs : List Value} (h : w.ownsRow B t 1 v (r + 1) xs) : ∃ g c, v = .slice (some ⟨g, 0, none⟩) (r + 1) c := by
  obtain ⟨_, ⟨_, h0⟩ | ⟨g, cap, cur, e, _⟩⟩ := h
  · omega
  · exact ⟨g, cap, e⟩
/-- a list with one more behind -/
theorem ints_snoc (r : Nat) (D : Nat → Int) (x : Int) : ints r D ++ [.int .i64 x] = ints (r + 1) (upd D r x) := by
  rw [← ints_succ]
  have e : ints r D = ints r (upd D r x) := by
    unfold ints
    refine List.map_congr_left fun t ht => ?_
    rw [List.mem_range] at ht
    unfold upd; rw [if_neg (by omega)]
  rw [← e, show upd D r x r = x from upd_at D r x]
theorem bd_snoc {r : Nat} {D : Nat → Int} {x : Int} (h : ∀ j, j < r → bd (D j)) (hx : bd x) : ∀ j, j < r + 1 → bd (upd D r x j) := by
  intro j hj
  unfold upd
  split
  · exact hx
  · exact h j (by omega)
/-- a view in its variable whose two lists are rows of one's own -/
structure PB (B : Nat) (P : Nat) (va vb : Value) (r s : Nat) (D S : Nat → Int) (o n : Int) (X : World) : Prop where
  box : Box X P va vb (.int .i64 o) (.int .i64 n)
  free : Free X P
  ra : RowV B X va r D
  rb : RowV B X vb s S
  ne : ∀ k, va.ownBlock = some k → vb.ownBlock = some k → False
  np : ∀ k, OB va vb k → k ≠ P
  lt : P < X.heap.size
  hB : B ≤ X.heap.size
/-- what push leaves -/
def PushR (B P : Nat) (va vb : Value) (r s : Nat) (D S : Nat → Int) (o n x y : Int) (w w' : World) : Prop :=
  ∃ va' vb', PB B P va' vb' (r + 1) (s + 1) (upd D r x) (upd S s y) o n w' ∧ Kept (fun k => k = P ∨ OB va vb k) w w' ∧ ∀ k, OB va' vb' k → OB va vb k ∨ w.heap.size ≤ k
theorem box_set0 {w : World} {p : Nat} {v0 v1 v2 v3 : Value} (h : Box w p v0 v1 v2 v3) (u : Value) : Box (w.setCell ⟨p, 0, none⟩ u) p u v1 v2 v3 := by
  obtain ⟨a, b, c, d⟩ := h
  refine ⟨World.cell?_setCell_same _ _ _ a, ?_, ?_, ?_⟩
  · rw [World.cell?_setCell_other _ _ _ _ (by intro e; cases e)]; exact b
  · rw [World.cell?_setCell_other _ _ _ _ (by intro e; cases e)]; exact c
  · rw [World.cell?_setCell_other _ _ _ _ (by intro e; cases e)]; exact d
/-- one list of a view that grows -/
theorem grow_one {B P : Nat} {v v' : Value} {r : Nat} {D : Nat → Int} {x : Int} {w w1 : World} (c : Nat) (hr : RowV B w v r D) (hx : bd x) (hP : P < w.heap.size) (hnp : ¬ v.ownBlock = some P) (hown : w1.ownsRow B 3 1 v' (r + 1) (ints r D ++ [.int .i64 x]))
    (hg : (w.alloc (.cells #[.int .i64 x] 3)).grownBy w1 v.ownBlock) (hat : v'.ownBlock = v.ownBlock ∨ v'.ownBlock = some (w.alloc (.cells #[.int .i64 x] 3)).heap.size) (u : Value) :
    RowV B (w1.setCell ⟨P, c, none⟩ u) v' (r + 1) (upd D r x) ∧ Kept (fun k => k = P ∨ v.ownBlock = some k) w (w1.setCell ⟨P, c, none⟩ u) ∧ (∀ k, v'.ownBlock = some k → v.ownBlock = some k ∨ w.heap.size ≤ k) := by
  have K1 : Kept (fun k => v.ownBlock = some k) w w1 := (Kept.of_below ((Below.refl _ w).alloc (Nat.le_refl _) _)).trans ⟨hg.os, hg.tape, hg.output, hg.size, fun j hj hn => hg.block j hj (fun e => hn e.symm)⟩
  have hw : ∀ k, v'.ownBlock = some k → v.ownBlock = some k ∨ w.heap.size ≤ k := by
    intro k q
    rcases hat with e | e
    · exact .inl (e ▸ q)
    · rw [q] at e
      injection e with e
      simp at e
      exact .inr (by omega)
  refine ⟨⟨?_, bd_snoc hr.2 hx⟩, ?_, hw⟩
  · rw [← ints_snoc]
    refine ownsRow_setCell_other hown ?_ _
    intro q
    rcases hw P q with q | q
    · exact hnp q
    · omega
  · exact Kept.then (K1.mono (fun k _ q => .inr q)) (Kept.setCell w1 ⟨P, c, none⟩ u) (fun i e => .inr (.inl e))
end Vo
end Go.Proofs.Ytjlmbeachanlfaa

/- Powers modulo the prime on both sides: the model's halving recursion, the program's squaring loop; inverses, quotients, powers, signs. -/
namespace Go.Proofs.Ytjlmbeachanlfaa
namespace Base
open Go.ChangeShapes Go.WideShapes Go.ChangeAt Go.RowKit
set_option linter.unusedVariables false

theorem emod_self {a : Int} (h0 : 0 ≤ a) (h1 : a < 2147483647) : a % 2147483647 = a := by omega

theorem specTimesR (a b : Int) (w : World) (a0 : 0 ≤ a) (a1 : a < 2147483647) (b0 : 0 ≤ b) (b1 : b < 2147483647) :
    Calls Try.prog 43 #[.int .i64 a, .int .i64 b] w fun e w' => e = .returned (.int .i64 ((a * b) % 2147483647)) ∧ w' = w := by
  have h := specTimes a b w (by omega) (by omega) (by omega) (by omega)
  rw [emod_self a0 a1, emod_self b0 b1] at h
  exact h

theorem raise (k : Nat) : ∀ (a n : Int) (w : World), n ≤ k → 0 ≤ n → n ≤ 2147483647 → 0 ≤ a → a < 2147483647 →
    Calls Try.prog 71 #[.int .i64 a, .int .i64 n] w fun e w' => e = .returned (.int .i64 (Num.pw a n.toNat)) ∧ w' = w := by
  induction k with
  | zero =>
    intro a n w hk n0 n1 a0 a1
    obtain rfl : n = 0 := by omega
    go_enter Try.func71, Try.ntmps71
    go_wp2_with fail
    go_ret
    exact ⟨ret_int (Num.pw_zero a).symm, rfl⟩
  | succ k ih =>
    intro a n w hk n0 n1 a0 a1
    by_cases hn : n = 0
    · subst hn
      go_enter Try.func71, Try.ntmps71
      go_wp2_with fail
      go_ret
      exact ⟨ret_int (Num.pw_zero a).symm, rfl⟩
    · have ih := hide ih
      have b := Num.pw_bd a (n / 2).toNat
      obtain ⟨b0, b1⟩ := b
      have e2 : Hid ((n / 2).toNat = n.toNat / 2) := by show _ = _; omega
      by_cases ho : n % 2 = 1
      · have e : Hid (Num.pw a n.toNat = ((Num.pw a (n / 2).toNat * Num.pw a (n / 2).toNat) % 2147483647 * a) % 2147483647) := by
          show _ = _
          rw [e2.out]; exact Num.pw_odd a n.toNat (by omega)
        have q := Num.mul_bd _ _ b0 b1 b0 b1
        clear e2
        go_enter Try.func71, Try.ntmps71
        go_wp2_with fail
        refine (ih.out a (n / 2) _ (by omega) (by omega) (by omega) a0 a1).mono ?_; rintro e w' ⟨rfl, rfl⟩
        generalize Num.pw a (n / 2).toNat = z at *
        go_wp2_with fail
        refine (specTimesR _ _ _ b0 b1 b0 b1).mono ?_; rintro e w' ⟨rfl, rfl⟩
        go_wp2_with fail
        refine (specTimesR _ _ _ (by omega) (by omega) a0 a1).mono ?_; rintro e w' ⟨rfl, rfl⟩
        go_wp2_with fail
        go_ret
        exact ⟨ret_int e.out.symm, rfl⟩
      · have e : Hid (Num.pw a n.toNat = ((Num.pw a (n / 2).toNat * Num.pw a (n / 2).toNat) % 2147483647)) := by
          show _ = _
          rw [e2.out]; exact Num.pw_even a n.toNat (by omega)
        clear e2
        go_enter Try.func71, Try.ntmps71
        go_wp2_with fail
        refine (ih.out a (n / 2) _ (by omega) (by omega) (by omega) a0 a1).mono ?_; rintro e w' ⟨rfl, rfl⟩
        generalize Num.pw a (n / 2).toNat = z at *
        go_wp2_with fail
        refine (specTimesR _ _ _ b0 b1 b0 b1).mono ?_; rintro e w' ⟨rfl, rfl⟩
        go_wp2_with fail
        go_ret
        exact ⟨ret_int e.out.symm, rfl⟩

/-- the inverse by Fermat's power: both sides reckon the same power -/
theorem specInverse (a : Int) (w : World) (a0 : -9223372036854775808 ≤ a) (a1 : a ≤ 9223372036854775807) :
    Calls Try.prog 62 #[.int .i64 a] w fun e w' => e = .returned (.int .i64 (Num.pw (a % 2147483647) 2147483645)) ∧ w' = w := by
  go_enter Try.func62, Try.ntmps62
  go_wp2_with fail
  refine (specMod _ _ a0 a1).mono ?_; rintro e w' ⟨rfl, rfl⟩
  go_wp2_with fail
  refine (raise 2147483645 _ _ _ (by omega) (by omega) (by omega) (by omega) (by omega)).mono ?_; rintro e w' ⟨rfl, rfl⟩
  go_wp2_with fail
  go_ret
  exact ⟨rfl, rfl⟩

theorem power (a n : Int) (w : World) (a0 : 0 ≤ a) (a1 : a < 2147483647) (n0 : 0 ≤ n) (n1 : n ≤ 2147483647) :
    Calls Try.prog 77 #[.int .i64 a, .int .i64 n] w fun e w' => e = .returned (.int .i64 (Num.pw a n.toNat)) ∧ w' = w := by
  have hs := hide (Num.rest_start a n.toNat)
  go_enter Try.func77, Try.ntmps77
  go_wp2_with fail
  go_loop [0, 1, 5] (fun x m p => ∃ x' m' p' : Int, 0 ≤ x' ∧ x' < 2147483647 ∧ 0 ≤ p' ∧ p' < 2147483647 ∧ 0 ≤ m' ∧ m' ≤ 2147483647 ∧ x = .int .i64 x' ∧ m = .int .i64 m' ∧ p = .int .i64 p' ∧ Hid (Num.rest p' x' m'.toNat = Num.pw a n.toNat)) (fun _ m _ => (intOf m).toNat)
  case atStart => exact ⟨a, n, 1, a0, a1, by omega, by omega, n0, n1, rfl, rfl, rfl, hs⟩
  case round =>
    clear hs
    obtain ⟨x, m, p, x0, x1, p0, p1, m0, m1, rfl, rfl, rfl, hr⟩ := hrel
    by_cases hm : 0 < m
    · have q1 := Num.mul_bd x x x0 x1 x0 x1
      have e2 : Hid ((m / 2).toNat = m.toNat / 2) := by show _ = _; omega
      by_cases ho : m % 2 = 1
      · have hr' : Hid (Num.rest (p * x % 2147483647) (x * x % 2147483647) (m / 2).toNat = Num.pw a n.toNat) := by
          show _ = _
          rw [e2.out, Num.rest_odd p x m.toNat (by omega)]; exact hr
        clear hr e2
        go_wp2_with fail
        refine (times _ _ _ p0 p1 x0 x1).mono ?_; rintro e w' ⟨rfl, rfl⟩
        go_wp2_with fail
        refine (times _ _ _ x0 x1 x0 x1).mono ?_; rintro e w' ⟨rfl, rfl⟩
        go_wp2_with fail
        go_round
        case rel => exact ⟨_, _, _, by omega, by omega, by omega, by omega, by omega, by omega, rfl, rfl, rfl, hr'⟩
        case measure => simp [intOf]; omega
      · have hr' : Hid (Num.rest p (x * x % 2147483647) (m / 2).toNat = Num.pw a n.toNat) := by
          show _ = _
          rw [e2.out, Num.rest_even p x m.toNat (by omega)]; exact hr
        clear hr e2
        go_wp2_with fail
        refine (times _ _ _ x0 x1 x0 x1).mono ?_; rintro e w' ⟨rfl, rfl⟩
        go_wp2_with fail
        go_round
        case rel => exact ⟨_, _, _, by omega, by omega, by omega, by omega, by omega, by omega, rfl, rfl, rfl, hr'⟩
        case measure => simp [intOf]; omega
    · obtain rfl : m = 0 := by omega
      have hr' : Hid (p = Num.pw a n.toNat) := by
        show _ = _
        rw [← hr.out]; exact (Num.rest_end p x p0 p1).symm
      clear hr
      go_wp2_with fail
      go_ret
      exact ⟨ret_int hr'.out, rfl⟩

theorem inverse (a : Int) (w : World) (a0 : 0 ≤ a) (a1 : a < 2147483647) :
    Calls Try.prog 75 #[.int .i64 a] w fun e w' => e = .returned (.int .i64 (Num.pw a 2147483645)) ∧ w' = w := by
  go_enter Try.func75, Try.ntmps75
  go_wp2_with fail
  refine (power _ _ _ a0 a1 (by omega) (by omega)).mono ?_; rintro e w' ⟨rfl, rfl⟩
  go_wp2_with fail
  go_ret
  exact ⟨rfl, rfl⟩

theorem implInverse (a : Int) (w : World) (a0 : -9223372036854775808 ≤ a) (a1 : a ≤ 9223372036854775807) :
    Calls Try.prog 67 #[.int .i64 a] w fun e w' => e = .returned (.int .i64 (Num.pw (a % 2147483647) 2147483645)) ∧ w' = w := by
  go_enter Try.func67, Try.ntmps67
  go_wp2_with fail
  refine (residueOf _ _ a0 a1).mono ?_; rintro e w' ⟨rfl, rfl⟩
  go_wp2_with fail
  refine (inverse _ _ (by omega) (by omega)).mono ?_; rintro e w' ⟨rfl, rfl⟩
  go_wp2_with fail
  go_ret
  exact ⟨rfl, rfl⟩

theorem specOver (a b : Int) (w : World) (a0 : -9223372036854775808 ≤ a) (a1 : a ≤ 9223372036854775807) (b0 : -9223372036854775808 ≤ b) (b1 : b ≤ 9223372036854775807) :
    Calls Try.prog 44 #[.int .i64 a, .int .i64 b] w fun e w' => e = .returned (.int .i64 ((a % 2147483647 * Num.pw (b % 2147483647) 2147483645) % 2147483647)) ∧ w' = w := by
  have q := Num.pw_bd (b % 2147483647) 2147483645
  have e : Hid (a % 2147483647 * (Num.pw (b % 2147483647) 2147483645 % 2147483647) % 2147483647 = (a % 2147483647 * Num.pw (b % 2147483647) 2147483645) % 2147483647) := by
    show _ = _
    rw [emod_self q.1 q.2]
  go_enter Try.func44, Try.ntmps44
  go_wp2_with fail
  refine (specInverse _ _ b0 b1).mono ?_; rintro e w' ⟨rfl, rfl⟩
  go_wp2_with fail
  refine (specTimes _ _ _ a0 a1 (by have := q.1; omega) (by have := q.2; omega)).mono ?_; rintro e w' ⟨rfl, rfl⟩
  go_wp2_with fail
  go_ret
  exact ⟨ret_int e.out, rfl⟩




/-- the number nearest to 0 -/
def sg (a : Int) : Int := if 1073741823 < a then a - 2147483647 else a
theorem sg_hi {a : Int} (h : 1073741823 < a) : a - 2147483647 = sg a := by unfold sg; rw [if_pos h]
theorem sg_lo {a : Int} (h : ¬ 1073741823 < a) : a = sg a := by unfold sg; rw [if_neg h]



end Base
end Go.Proofs.Ytjlmbeachanlfaa
