/- Lemmas for the proof of the law. -/
import Derived.Test.YtjlmbeachanlfaaMgam
import Derived.Test.YtjlmbeachanlfaaMgas
import Derived.BigQuiet
import Derived.Test.YtjlmbeachanlfaaMgaq
/- Rows of tensors and their products, on both sides. -/
namespace Go.Proofs.Ytjlmbeachanlfaa
namespace Vo
open Go.ChangeShapes Go.WideShapes Go.ChangeAt Go.RowKit Go.Joins Go.Sort
open Vl Vp Vr
set_option linter.unusedVariables false
set_option linter.unusedSimpArgs false
/-- the sum of the products of two lists -/
def dotS (A C : Nat → Int) : Nat → Int
  | 0 => 0
  | n + 1 => (dotS A C n + A n % 2147483647 * (C n % 2147483647) % 2147483647) % 2147483647
theorem dotS_rng (A C : Nat → Int) (n : Nat) : 0 ≤ dotS A C n ∧ dotS A C n < 2147483647 := by
  cases n with
  | zero => show (0 : Int) ≤ 0 ∧ (0 : Int) < 2147483647; omega
  | succ n => show 0 ≤ _ % _ ∧ _ % _ < _; omega
theorem dotS_same {A C A' C' : Nat → Int} {n : Nat} (h : ∀ t, t < n → A t = A' t) (h' : ∀ t, t < n → C t = C' t) : dotS A C n = dotS A' C' n := by
  induction n with
  | zero => rfl
  | succ n ih => show (_ + _) % _ = (_ + _) % _; rw [ih (fun t ht => h t (by omega)) (fun t ht => h' t (by omega)), h n (by omega), h' n (by omega)]
theorem dotF (B : Nat) (a b : Option Addr) (n cap dap : Nat) (A C : Nat → Int) (w : World) (h : Ints B w a n A) (h' : Ints B w b n C) (hn : (n : Int) ≤ 1048576) :
    Calls Try.prog 64 #[.slice a n cap, .slice b n dap] w fun e w' => e = .returned (.int .i64 (dotS A C n)) ∧ w' = w := by
  have H := hide h
  have H' := hide h'
  clear h h'
  go_enter Try.func64, Try.ntmps64
  go_wp2_with fail
  go_loop [5, 10] (fun s i => ∃ j : Nat, j ≤ n ∧ s = .int .i64 (dotS A C j) ∧ i = .int .i64 (j : Int)) (fun _ i => n - (intOf i).toNat)
  case atStart => exact ⟨0, by omega, rfl, rfl⟩
  case round =>
    obtain ⟨j, hj, rfl, rfl⟩ := hrel
    by_cases hlt : j < n
    · have jn : (j : Int) < (n : Int) := by omega
      rcases H.out with q | ⟨b1, o1, rfl, _, hc⟩
      · omega
      rcases H'.out with q | ⟨b2, o2, rfl, _, hc'⟩
      · omega
      obtain ⟨c1, d1⟩ := hc j hlt
      obtain ⟨c2, d2⟩ := hc' j hlt
      unfold bd at d1 d2
      have hr := dotS_rng A C j
      have HN := hide (show dotS A C (j + 1) = (dotS A C j + A j % 2147483647 * (C j % 2147483647) % 2147483647) % 2147483647 from rfl)
      clear hc hc' H H'
      generalize dotS A C j = s at *
      generalize A j = x at *
      generalize C j = y at *
      go_wp2_with fail
      refine (Base.implTimes x y _ d1.1 d1.2 d2.1 d2.2).mono ?_; rintro e w1 ⟨rfl, rfl⟩
      obtain ⟨p, hp⟩ : ∃ p, x % 2147483647 * (y % 2147483647) % 2147483647 = p := ⟨_, rfl⟩
      obtain ⟨p0, p1⟩ : 0 ≤ p ∧ p < 2147483647 := by
        rw [← hp]; exact ⟨Int.emod_nonneg _ (by decide), Int.emod_lt_of_pos _ (by decide)⟩
      rw [hp] at HN ⊢
      clear hp
      go_wp2_with fail
      refine (Base.implPlus s p _ (by omega) (by omega) (by omega) (by omega)).mono ?_; rintro e w1 ⟨rfl, rfl⟩
      go_wp2_with fail
      go_round
      case rel => exact ⟨j + 1, by omega, by rw [HN.out], by go_num⟩
      case measure => simp [intOf]; omega
    · obtain rfl : j = n := by omega
      have hlt' : decide ((j : Int) < (j : Int)) = false := decide_eq_false (by omega)
      clear H H' hlt
      go_wp2_with fail
      go_ret
      exact ⟨rfl, rfl⟩
theorem specDot (B : Nat) (a b : Option Addr) (n cap dap : Nat) (A C : Nat → Int) (w : World) (hB : B ≤ w.heap.size) (h : Ints B w a n A) (h' : Ints B w b n C) (hn : (n : Int) ≤ 1048576) :
    Calls Try.prog 40 #[.slice a n cap, .slice b n dap] w fun e w' => e = .returned (.int .i64 (dotS A C n)) ∧ Below w.heap.size w w' := by
  have H := hide h
  have H' := hide h'
  have hsz := Nat.le_refl w.heap.size
  clear h h'
  go_enter Try.func40, Try.ntmps40
  go_wp2_with fail
  go_loopw [5, 6] (fun s i wx => ∃ j : Nat, j ≤ n ∧ s = .int .i64 (dotS A C j) ∧ i = .int .i64 (j : Int) ∧ Below w.heap.size w wx) (fun _ i _ => n - (intOf i).toNat)
  case atStart => exact ⟨0, by omega, rfl, rfl, Below.refl _ _⟩
  case round =>
    obtain ⟨j, hj, rfl, rfl, bb⟩ := hrel
    by_cases hlt : j < n
    · have jn : (j : Int) < (n : Int) := by omega
      have BB := hide bb
      rcases H.out.below (bb.mono hB) with q | ⟨b1, o1, rfl, _, hc⟩
      · omega
      rcases H'.out.below (bb.mono hB) with q | ⟨b2, o2, rfl, _, hc'⟩
      · omega
      obtain ⟨c1, d1⟩ := hc j hlt
      obtain ⟨c2, d2⟩ := hc' j hlt
      unfold bd at d1 d2
      have hr := dotS_rng A C j
      have HN := hide (show dotS A C (j + 1) = (dotS A C j + A j % 2147483647 * (C j % 2147483647) % 2147483647) % 2147483647 from rfl)
      clear hc hc' H H' bb
      generalize dotS A C j = s at *
      generalize A j = x at *
      generalize C j = y at *
      have CT := hide (fun (W : World) => Base.specTimes x y W d1.1 d1.2 d2.1 d2.2)
      obtain ⟨p, hp⟩ : ∃ p, x % 2147483647 * (y % 2147483647) % 2147483647 = p := ⟨_, rfl⟩
      obtain ⟨p0, p1⟩ : 0 ≤ p ∧ p < 2147483647 := by
        rw [← hp]; exact ⟨Int.emod_nonneg _ (by decide), Int.emod_lt_of_pos _ (by decide)⟩
      rw [hp] at CT HN
      have CP := hide (fun (W : World) => Base.specPlus s p W (by omega) (by omega) (by omega) (by omega))
      clear hp
      go_wp2_with fail
      go_quiet (first | (go_at_call 43; exact Calls.quiet_of_same (CT.out _)) | (go_at_call 42; exact Calls.quiet_of_same (CP.out _)))
      all_goals go_wp2_with fail
      all_goals go_roundw
      case rel => exact ⟨j + 1, by omega, by rw [HN.out], by go_num, BB.out.trans ((below_draws _ _ _).mono BB.out.size)⟩
      case measure => simp [intOf]; omega
    · obtain rfl : j = n := by omega
      have hlt' : decide ((j : Int) < (j : Int)) = false := decide_eq_false (by omega)
      clear H H' hlt
      go_wp2_with fail
      go_ret
      exact ⟨rfl, bb⟩
theorem slMid (b off s dap u c : Nat) (h1 : u + c ≤ dap) (h2 : u < dap) (W : World) : (Instr.slice 25 (.slice (some ⟨b, off, none⟩) s dap) (some (.int .i64 (u : Int))) (some (.int .i64 ((u + c : Nat) : Int))) none).run Try.prog W = .ok (.slice (some ⟨b, off + u, none⟩) c (dap - u)) W := by
  rw [run_slice_lh W 25 (some ⟨b, off, none⟩) s dap (by kernel_rfl) .i64 .i64 (u : Int) ((u + c : Nat) : Int) (by omega) (by omega) (by omega)]
  have hne : ¬ (dap = u) := by omega
  go_simp
  omega
/-- a row of a tensor of two lengths -/
def RowAt (B : Nat) (w : World) (e : Ending) (w' : World) (c : Nat) (S : Nat → Int) : Prop := ∃ a' cap', e = .returned (.slice a' c cap') ∧ Ints B w' a' c S ∧ Below w.heap.size w w'
theorem rowF (B : Nat) (a b : Option Addr) (s cap dap i c : Nat) (D S : Nat → Int) (w : World) (hB : B ≤ w.heap.size) (h : Ints B w a 2 D) (h' : Ints B w b s S) (hD : D 1 = (c : Int)) (hs : (s : Int) ≤ 1048576) (hd : s ≤ dap) (c1 : 1 ≤ c) (hi : i * c + c ≤ s) :
    Calls Try.prog 51 #[.agg #[.slice a 2 cap, .slice b s dap], .int .i64 (i : Int)] w fun e w' => RowAt B w e w' c (fun t => S (i * c + t)) := by
  rcases h with q | ⟨b1, o1, rfl, g1, hc⟩
  · omega
  rcases id h' with q | ⟨b2, o2, rfl, g2, hc'⟩
  · omega
  obtain ⟨k1, _⟩ := hc 1 (by decide)
  rw [hD] at k1
  obtain ⟨W0, hW0⟩ : ∃ W0, w.alloc (.cells #[.slice (some ⟨b1, o1, none⟩) 2 cap, .slice (some ⟨b2, o2, none⟩) s dap] 43) = W0 := ⟨_, rfl⟩
  have bl : Below w.heap.size w W0 := by rw [← hW0]; exact (Below.refl _ _).alloc (Nat.le_refl _) _
  have n0 : Bx W0 w.heap.size (.slice (some ⟨b1, o1, none⟩) 2 cap) (.slice (some ⟨b2, o2, none⟩) s dap) := by rw [← hW0]; exact bx_new _ _ _ _
  have k1' : W0.cell? ⟨b1, o1 + 1, none⟩ = some (.int .i64 (c : Int)) := (bl.cell (p := ⟨b1, o1 + 1, none⟩) (by show b1 < w.heap.size; omega)).trans k1
  obtain ⟨u, hu⟩ : ∃ u, i * c = u := ⟨_, rfl⟩
  have hi' : u + c ≤ s := by rw [← hu]; exact hi
  have HI := hide (ints_from (m := u) (q := c) (h'.below (bl.mono hB)) rfl (by rw [← hu]; exact hi))
  have e1 : (i : Int) * (c : Int) = (u : Int) := by rw [← hu, Int.natCast_mul]
  have e2 : ((i : Int) + 1) * (c : Int) = ((u + c : Nat) : Int) := by rw [Int.add_mul, e1]; omega
  have iI : (i : Int) ≤ 1048576 := by
    have : i * 1 ≤ i * c := Nat.mul_le_mul_left _ c1
    omega
  have w1 : IntKind.i64.wrap (u : Int) = u := by rw [IntKind.wrap_i64]; omega
  have w2 : IntKind.i64.wrap ((u + c : Nat) : Int) = ((u + c : Nat) : Int) := by rw [IntKind.wrap_i64]; omega
  have w3 : IntKind.i64.wrap ((i : Int) + 1) = (i : Int) + 1 := by rw [IntKind.wrap_i64]; omega
  have sl := fun W => slMid b2 o2 s dap u c (by omega) (by omega) W
  have BL := hide bl
  obtain ⟨x0, x1⟩ := n0
  rw [hu]
  clear hc hc' h' bl k1 hi
  generalize hv : ((u + c : Nat) : Int) = v at *
  go_enter Try.func51, Try.ntmps51
  go_wp2_with fail
  clear hW0
  go_quiet (fail)
  all_goals go_wp2_with fail
  all_goals go_ret
  exact ⟨_, _, rfl, HI.out, BL.out.trans (below_draws _ _ _)⟩
theorem specRow (B : Nat) (a b : Option Addr) (s cap dap i c : Nat) (D S : Nat → Int) (w : World) (hB : B ≤ w.heap.size) (h : Ints B w a 2 D) (h' : Ints B w b s S) (hD : D 1 = (c : Int)) (hs : (s : Int) ≤ 1048576) (hd : s ≤ dap) (c1 : 1 ≤ c) (hi : i * c + c ≤ s) :
    Calls Try.prog 41 #[.agg #[.slice a 2 cap, .slice b s dap], .int .i64 (i : Int)] w fun e w' => RowAt B w e w' c (fun t => S (i * c + t)) := by
  rcases h with q | ⟨b1, o1, rfl, g1, hc⟩
  · omega
  rcases id h' with q | ⟨b2, o2, rfl, g2, hc'⟩
  · omega
  obtain ⟨k1, _⟩ := hc 1 (by decide)
  rw [hD] at k1
  obtain ⟨W0, hW0⟩ : ∃ W0, w.alloc (.cells #[.slice (some ⟨b1, o1, none⟩) 2 cap, .slice (some ⟨b2, o2, none⟩) s dap] 43) = W0 := ⟨_, rfl⟩
  have bl : Below w.heap.size w W0 := by rw [← hW0]; exact (Below.refl _ _).alloc (Nat.le_refl _) _
  have n0 : Bx W0 w.heap.size (.slice (some ⟨b1, o1, none⟩) 2 cap) (.slice (some ⟨b2, o2, none⟩) s dap) := by rw [← hW0]; exact bx_new _ _ _ _
  have k1' : W0.cell? ⟨b1, o1 + 1, none⟩ = some (.int .i64 (c : Int)) := (bl.cell (p := ⟨b1, o1 + 1, none⟩) (by show b1 < w.heap.size; omega)).trans k1
  obtain ⟨u, hu⟩ : ∃ u, i * c = u := ⟨_, rfl⟩
  have hi' : u + c ≤ s := by rw [← hu]; exact hi
  have HI := hide (ints_from (m := u) (q := c) (h'.below (bl.mono hB)) rfl (by rw [← hu]; exact hi))
  have e1 : (i : Int) * (c : Int) = (u : Int) := by rw [← hu, Int.natCast_mul]
  have e2 : (u : Int) + (c : Int) = ((u + c : Nat) : Int) := by omega
  have iI : (i : Int) ≤ 1048576 := by
    have : i * 1 ≤ i * c := Nat.mul_le_mul_left _ c1
    omega
  have w1 : IntKind.i64.wrap (u : Int) = u := by rw [IntKind.wrap_i64]; omega
  have w2 : IntKind.i64.wrap ((u + c : Nat) : Int) = ((u + c : Nat) : Int) := by rw [IntKind.wrap_i64]; omega
  have sl := fun W => slMid b2 o2 s dap u c (by omega) (by omega) W
  have BL := hide bl
  obtain ⟨x0, x1⟩ := n0
  rw [hu]
  clear hc hc' h' bl k1 hi
  generalize hv : ((u + c : Nat) : Int) = v at *
  go_enter Try.func41, Try.ntmps41
  go_wp2_with fail
  go_ret
  exact ⟨_, _, rfl, HI.out, BL.out⟩
end Vo
end Go.Proofs.Ytjlmbeachanlfaa

/- Sums and products in short, tensors that can be read. -/
namespace Go.Proofs.Ytjlmbeachanlfaa
namespace Vo
open Go.ChangeShapes Go.WideShapes Go.ChangeAt Go.RowKit Go.Joins Go.Sort
open Vl Vp Vr
set_option linter.unusedVariables false
set_option linter.unusedSimpArgs false
def ti (x y : Int) : Int := x % 2147483647 * (y % 2147483647) % 2147483647
def pl (x y : Int) : Int := (x + y) % 2147483647
theorem ti_rng (x y : Int) : 0 ≤ ti x y ∧ ti x y < 2147483647 := ⟨Int.emod_nonneg _ (by decide), Int.emod_lt_of_pos _ (by decide)⟩
theorem pl_rng (x y : Int) : 0 ≤ pl x y ∧ pl x y < 2147483647 := by unfold pl; omega
theorem bd_of {x : Int} (h : 0 ≤ x ∧ x < 2147483647) : bd x := by unfold bd; omega
def TV.ok (t : TV) : Bool := tok t.r t.s t.D t.S
/-- a tensor in a variable or in a list -/
def TV.val (t : TV) : Array Value := #[.slice t.a t.r t.cap, .slice t.b t.s t.dap]
/-- what can be read of a tensor -/
def TV.read (B : Nat) (w : World) (t : TV) : Prop := Ints B w t.a t.r t.D ∧ Ints B w t.b t.s t.S
theorem TV.read.below {B : Nat} {w w' : World} {t : TV} (h : t.read B w) (hb : Below B w w') : t.read B w' := ⟨h.1.below hb, h.2.below hb⟩
theorem l5In (x lo hi : Int) (w : World) : Calls Try.prog 18 #[.int .i64 x, .int .i64 lo, .int .i64 hi] w fun e w' => e = .returned (.bool (decide (lo ≤ x ∧ x ≤ hi))) ∧ w' = w := by
  by_cases h1 : lo ≤ x
  · by_cases h2 : x ≤ hi
    · have e := hide (show decide (lo ≤ x ∧ x ≤ hi) = true from decide_eq_true ⟨h1, h2⟩)
      go_enter Try.func18, Try.ntmps18
      go_wp2_with fail
      go_ret
      exact ⟨by rw [e.out]; rfl, rfl⟩
    · have e := hide (show decide (lo ≤ x ∧ x ≤ hi) = false from decide_eq_false (fun h => h2 h.2))
      have h2' : decide (x ≤ hi) = false := decide_eq_false h2
      clear h2
      go_enter Try.func18, Try.ntmps18
      go_wp2_with fail
      go_ret
      exact ⟨by rw [e.out]; rfl, rfl⟩
  · have e := hide (show decide (lo ≤ x ∧ x ≤ hi) = false from decide_eq_false (fun h => h1 h.1))
    have h1' : decide (lo ≤ x) = false := decide_eq_false h1
    clear h1
    go_enter Try.func18, Try.ntmps18
    go_wp2_with fail
    go_ret
    exact ⟨by rw [e.out]; rfl, rfl⟩
end Vo
end Go.Proofs.Ytjlmbeachanlfaa
