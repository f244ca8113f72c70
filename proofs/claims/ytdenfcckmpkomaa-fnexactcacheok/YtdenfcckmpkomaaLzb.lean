/- CacheOk: the laws' own functions, the program, the model. -/
import Derived.Test.YtdenfcckmpkomaaLza
import Derived.Test.YtdenfcckmpkomaaTb
import Derived.BigQuiet
import Derived.Lib.QuietBelow
namespace Go.Proofs.Ytdenfcckmpkomaa
namespace Vo
open Go.ChangeShapes Go.WideShapes Go.ChangeAt Go.RowKit Go.Joins Go.Sort
open Vl Vp
set_option linter.unusedVariables false
set_option linter.unusedSimpArgs false
set_option maxHeartbeats 1000000 in
theorem szCache (B : Nat) (a b : Option Addr) (n m cap dap : Nat) (L M : Nat → LV) (l : Int) (w : World) (hB : B ≤ w.heap.size) (h : LL B w a n L) (h' : LL B w b m M) (hn : (n : Int) ≤ 9223372036854775807) (hm : (m : Int) ≤ 9223372036854775807) (hl : LLen n L 9223372036854775807) (hl' : LLen m M 9223372036854775807) (l0 : 0 ≤ l) (l1 : l ≤ 1048576) :
    Calls Try.prog 26 #[.agg #[.slice a n cap, .slice b m dap], .int .i64 l] w fun e w' => ∃ x : Int, e = .returned (.int .i64 x) ∧ (0 ≤ x → (n : Int) ≤ 1048576 ∧ (lsum L n : Int) ≤ 1048576 ∧ (m : Int) ≤ 1048576 ∧ (lsum M m : Int) ≤ 1048576) ∧ Below w.heap.size w w' := by
  have bl : Below w.heap.size w (w.alloc (.cells #[.slice a n cap, .slice b m dap] 44)) := (Below.refl _ _).alloc (Nat.le_refl _) _
  have BL := hide bl
  have H := hide (h.below (bl.mono hB))
  have H' := hide (h'.below (bl.mono hB))
  have HL := hide hl
  have HL' := hide hl'
  clear h h' hl hl' bl
  go_enter Try.func26, Try.ntmps26
  go_wp2_with fail
  refine (szIntSS B a n cap L l _ (by simp; omega) H.out hn HL.out l0 l1).mono ?_
  rintro e w1 ⟨x, rfl, hx, hw⟩
  have hw := hw.symm
  subst hw
  have HX := hide hx
  clear hx
  by_cases x0 : x < 0
  · have x0' : decide (x < 0) = true := decide_eq_true x0
    clear x0
    go_wp2_with fail
    go_ret
    exact ⟨-1, rfl, fun e => by omega, BL.out⟩
  have x0' : decide (x < 0) = false := decide_eq_false x0
  have x1 : 0 ≤ x := by omega
  have x2 := (HX.out x1).1
  clear x0
  go_wp2_with fail
  refine (szIntSS B b m dap M x _ (by simp; omega) H'.out hm HL'.out x1 x2).mono ?_
  rintro e w1 ⟨y, rfl, hy, hw⟩
  have hw := hw.symm
  subst hw
  have HY := hide hy
  clear hy
  by_cases y0 : y < 0
  · have y0' : decide (y < 0) = true := decide_eq_true y0
    clear y0
    go_wp2_with fail
    go_ret
    exact ⟨-1, rfl, fun e => by omega, BL.out⟩
  have y0' : decide (y < 0) = false := decide_eq_false y0
  clear y0
  go_wp2_with fail
  go_ret
  exact ⟨y, rfl, fun e => ⟨(HX.out x1).2.1, (HX.out x1).2.2, (HY.out e).2.1, (HY.out e).2.2⟩, BL.out⟩
/-- a cache that is answered -/
def CacheR (n m : Nat) (L M : Nat → LV) (w : World) (e : Ending) (w' : World) : Prop :=
  ∃ (a b : Option Addr) (L' M' : Nat → LV), e = .returned (.agg #[.slice a n n, .slice b m m]) ∧ LL w'.heap.size w' a n L' ∧ LL w'.heap.size w' b m M' ∧ LSame n L L' ∧ LSame m M M' ∧ Below w.heap.size w w'
theorem LL.kept {B g : Nat} {w w' : World} {a : Option Addr} {n : Nat} {L : Nat → LV} (h : LL B w a n L) (hk : Kept (fun q => q = g) w w') (hg : B ≤ g) (hB : B ≤ w.heap.size) : LL B w' a n L := by
  rcases h with h | ⟨blk, off, rfl, hb, hc⟩
  · exact .inl h
  · refine .inr ⟨blk, off, rfl, hb, fun i hi => ⟨(World.cell?_of_block (w := w) (a := ⟨blk, off + i, none⟩) (hk.block blk (by omega) (by show ¬ blk = g; omega))).trans (hc i hi).1, (hc i hi).2.kept hB hk (fun y hy e => by have e : y = g := e; omega)⟩⟩
/-- what a row must be -/
def rowB (r : Nat) (D : Nat → Int) : Bool := decide (1 ≤ r) && decide (r ≤ 4096) && wi r D 2147483647
/-- what rows must be, but for how many there are -/
def RowsA (n : Nat) (L : Nat → LV) : Prop := ∀ i, i < n → (L i).r = (L 0).r ∧ rowB (L i).r (L i).D = true
instance (n : Nat) (L : Nat → LV) : Decidable (RowsA n L) := by unfold RowsA; infer_instance
def cacheB (n m : Nat) (L M : Nat → LV) : Bool := decide (n = m) && decide (n ≤ 4096) && decide (RowsA n L) && decide (RowsA m M)
set_option maxHeartbeats 1000000 in
theorem l5RowOk (B : Nat) (a : Option Addr) (r cap : Nat) (D : Nat → Int) (w : World) (h : Ints B w a r D) (hr : (r : Int) ≤ 1048576) :
    Calls Try.prog 97 #[.slice a r cap] w fun e w' => e = .returned (.bool (rowB r D)) ∧ w' = w := by
  have H := hide h
  clear h
  go_enter Try.func97, Try.ntmps97
  go_wp2_with fail
  go_loopw [3] (fun i wx => ∃ k : Nat, k ≤ r ∧ i = .int .i64 k ∧ (∀ j, j < k → 0 ≤ D j ∧ D j < 2147483647) ∧ wx = w) (fun i _ => r - (intOf i).toNat)
  case atStart => exact ⟨0, Nat.zero_le _, rfl, fun j hj => by omega, rfl⟩
  case round =>
    obtain ⟨k, hk, rfl, hall, rfl⟩ := hrel
    have HA := hide hall
    clear hall
    by_cases hlt : k < r
    · have kI : (k : Int) < r := by omega
      rcases H.out with q0 | ⟨blk, off, rfl, hbk, hc⟩
      · omega
      have c0 := (hc k hlt).1
      clear hc
      by_cases d0 : D k < 0
      · have d0' : decide (D k < 0) = true := decide_eq_true d0
        have ez := hide (show rowB r D = false by
          have q : wi r D 2147483647 = false := decide_eq_false (fun e => by have := e k hlt; omega)
          unfold rowB; rw [q]; simp)
        clear d0
        go_wp2_with fail
        go_ret
        exact ⟨by rw [ez.out]; rfl, rfl⟩
      have d0' : decide (D k < 0) = false := decide_eq_false d0
      by_cases d1 : 2147483647 ≤ D k
      · have d1' : decide (2147483647 ≤ D k) = true := decide_eq_true d1
        have ez := hide (show rowB r D = false by
          have q : wi r D 2147483647 = false := decide_eq_false (fun e => by have := e k hlt; omega)
          unfold rowB; rw [q]; simp)
        clear d0 d1
        go_wp2_with fail
        go_ret
        exact ⟨by rw [ez.out]; rfl, rfl⟩
      have d1' : decide (2147483647 ≤ D k) = false := decide_eq_false d1
      have A1 := hide (show ∀ j, j < k + 1 → 0 ≤ D j ∧ D j < 2147483647 from fun j hj => by
        by_cases c : j = k
        · subst c; omega
        · exact HA.out j (by omega))
      clear d0 d1
      go_wp2_with fail
      go_roundw
      all_goals first
        | (simp only [intOf]; omega)
        | (simp [intOf]; omega)
        | exact ⟨k + 1, by omega, by go_num, A1.out, by first | rfl | trivial⟩
    · obtain rfl : k = r := by omega
      have ew := hide (show wi k D 2147483647 = true from decide_eq_true (show WI k D 2147483647 from HA.out))
      by_cases e1 : 1 ≤ k
      · have e1' : decide ((0 : Int) < (k : Int)) = true := decide_eq_true (by omega)
        have e1'' : decide (0 < k) = true := decide_eq_true (by omega)
        have ez := hide (show rowB k D = decide ((k : Int) ≤ 4096) by unfold rowB; rw [ew.out, decide_eq_true e1]; simp; omega)
        clear e1
        go_wp2_with fail
        go_ret
        exact ⟨by rw [ez.out]; simp, rfl⟩
      · have e1' : decide ((0 : Int) < (k : Int)) = false := decide_eq_false (by omega)
        have e1'' : decide (0 < k) = false := decide_eq_false (by omega)
        have ez := hide (show rowB k D = false by unfold rowB; rw [decide_eq_false e1]; simp)
        clear e1
        go_wp2_with fail
        go_ret
        exact ⟨by rw [ez.out]; rfl, rfl⟩
end Vo
end Go.Proofs.Ytdenfcckmpkomaa
