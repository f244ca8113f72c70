/- Lemmas for the proof of the law. -/
import Derived.Test.YtjlmbeachanlfaaMgag
import Derived.Test.YtjlmbeachanlfaaMgak
import Derived.Test.YtjlmbeachanlfaaMgal
import Derived.Test.YtjlmbeachanlfaaMgad
import Derived.BigQuiet
import Derived.Lib.QuietBelow
/- elementwise; Fill on both sides. -/
namespace Go.Proofs.Ytjlmbeachanlfaa
namespace Vo
open Go.ChangeShapes Go.WideShapes Go.ChangeAt Go.RowKit Go.Joins
open Vl Vp Vr
set_option linter.unusedVariables false
set_option linter.unusedSimpArgs false

/-- a tensor, plain -/
structure PT where
  r : Nat
  s : Nat
  D : Nat → Int
  S : Nat → Int
def PT.zero : PT := ⟨0, 0, fun _ => 0, fun _ => 0⟩
/-- a tensor that is answered: of one's own, from B on -/
def TensR (B : Nat) (v : PT) (w : World) (e : Ending) (w' : World) : Prop :=
  ∃ a b c d, e = .returned (.agg #[.slice a v.r c, .slice b v.s d]) ∧ VOwn B w' a b v.r v.s v.D v.S ∧ Below w.heap.size w w'
theorem tensR_zero {B : Nat} {w w' : World} (hb : Below w.heap.size w w') : TensR B PT.zero w (.returned (.agg #[.slice none 0 0, .slice none 0 0])) w' :=
  ⟨none, none, 0, 0, rfl, ⟨.inl rfl, .inl rfl, fun k h => absurd rfl h.1⟩, hb⟩
theorem kept_sets2 (w : World) (p : Nat) (u0 u1 : Value) : Kept (· = p) w ((w.setCell ⟨p, 0, none⟩ u0).setCell ⟨p, 1, none⟩ u1) :=
  (Kept.setCell w ⟨p, 0, none⟩ u0).trans (Kept.setCell _ ⟨p, 1, none⟩ u1)
theorem kept_drew {S : Nat → Prop} {a b : World} (h : Kept S a b) : Kept S a b.drew := ⟨h.os, h.tape, h.output, h.size, h.block⟩
/-- how many numbers -/
def cntT (r : Nat) (D : Nat → Int) : Nat := (szR D r).toNat
theorem cntT_cast (r : Nat) (D : Nat → Int) : ((cntT r D : Nat) : Int) = szR D r := by unfold cntT; have := szR_rng D r; omega
theorem cntT_le (r : Nat) (D : Nat → Int) : ((cntT r D : Nat) : Int) ≤ 4096 := by rw [cntT_cast]; exact (szR_rng D r).2
def fillP (r : Nat) (D : Nat → Int) (x : Int) : PT := if dok r D = true then ⟨r, cntT r D, D, fun _ => x % 2147483647⟩ else PT.zero
theorem fillP_le (r : Nat) (D : Nat → Int) (x : Int) : (fillP r D x).r ≤ r ∧ (((fillP r D x).s : Nat) : Int) ≤ 4096 := by
  unfold fillP
  split
  · exact ⟨Nat.le_refl _, cntT_le r D⟩
  · exact ⟨Nat.zero_le _, by simp [PT.zero]⟩
set_option maxRecDepth 100000 in
set_option maxHeartbeats 1000000 in
theorem l4New (B : Nat) (a : Addr) (r cap N : Nat) (D : Nat → Int) (w : World) (hB : B ≤ w.heap.size) (h : Ints B w (some a) r D) (hr : (r : Int) ≤ 1048576) (hN : szR D r = (N : Int)) (lN : (N : Int) ≤ 4096) :
    Calls Try.prog 39 #[.slice (some a) r cap] w fun e w' => ∃ va vc g, e = .returned (.agg #[.slice va r vc, .slice (some ⟨g, 0, none⟩) N N]) ∧ OwnL (w.heap.size + 1) w' va r D ∧ Rw w' g N (fun _ => 0) ∧ w.heap.size + 1 ≤ g ∧ g < w'.heap.size ∧ (∀ k, Blk va r k → k ≠ g) ∧ Below w.heap.size w w' := by
  have hmk := make_int N (by omega)
  obtain ⟨W0, hW0⟩ : ∃ W0, w.alloc (.cells #[.slice none 0 0, .slice none 0 0] 43) = W0 := ⟨_, rfl⟩
  have hs0 : W0.heap.size = w.heap.size + 1 := by rw [← hW0]; simp
  have bl : Below w.heap.size w W0 := by rw [← hW0]; exact (Below.refl _ _).alloc (Nat.le_refl _) _
  have M0 := hide (show Bx W0 w.heap.size (.slice none 0 0) (.slice none 0 0) by rw [← hW0]; exact bx_new w _ _ _)
  have G0 := hide (show Free W0 w.heap.size by rw [← hW0]; exact free_new w _ _)
  have H := hide (h.below (bl.mono hB))
  have BL := hide bl
  have HS0 := hide hs0
  have EN := hide hN
  clear h bl hs0 hN
  go_enter Try.func39, Try.ntmps39
  go_wp2_with fail
  clear hW0
  refine (l3Ints B a r cap D _ H.out (by have := HS0.out; omega) hr).mono ?_
  rintro e w1 ⟨v, rfl, rv, b1⟩
  obtain ⟨va, vc, rfl, ov⟩ := rv.own
  have zz := HS0.out
  have M1 := hide (M0.out.below b1 (by omega))
  have G1 := hide (G0.out.below b1 (by omega))
  have B1 := hide (BL.out.trans (b1.mono BL.out.size))
  have H1 := hide (H.out.below (b1.mono (by omega)))
  have OV := hide ov
  have s1 : w.heap.size < w1.heap.size := by have := b1.size; omega
  clear rv b1 ov zz
  go_wp2_with fail
  refine (Vs.l3Size B (some a) r cap D _ H1.out hr).mono ?_
  rintro e w2 ⟨rfl, hq⟩
  have hq := hq.symm
  subst hq
  rw [EN.out]
  obtain ⟨W2, hW2⟩ : ∃ W2, w1.alloc (.cells (madeCells #[.int .i64 0] N) 3) = W2 := ⟨_, rfl⟩
  have b2 : Below w1.heap.size w1 W2 := by rw [← hW2]; exact (Below.refl _ _).alloc (Nat.le_refl _) _
  have R2 := hide (show Rw W2 w1.heap.size N (fun _ => 0) by rw [← hW2]; exact rw_new w1 N _)
  have z2 : w1.heap.size < W2.heap.size := by rw [← hW2]; simp
  have M2 := hide (M1.out.below b2 s1)
  have G2 := hide (G1.out.below b2 s1)
  have B2 := hide (B1.out.trans (b2.mono B1.out.size))
  have OV2 := hide (OV.out.below b2)
  clear b2
  obtain ⟨y0, y1⟩ := M2.out
  have gg := G2.out
  unfold Free at gg
  go_wp2_with fail
  refine bodyPost_ret (v := .agg #[.slice va r vc, .slice (some ⟨w1.heap.size, 0, none⟩) N N]) (by simp [results, Try.results39, go_sem, y0, y1]) rfl ?_
  have k2 := kept_sets2 W2 w.heap.size (.slice va r vc) (.slice (some ⟨w1.heap.size, 0, none⟩) N N)
  have zz := HS0.out
  refine ⟨va, vc, w1.heap.size, rfl, (OV2.out.kept k2 (fun b q e => ?_)).mono (by omega), R2.out.kept k2 (by omega), by omega, by exact Nat.lt_of_lt_of_le z2 k2.size, fun k q e => ?_, B2.out.trans (k2.below B2.out.size (fun j e => by have e : j = w.heap.size := e; omega))⟩
  · have := (OV2.out.blk q).1
    have e : b = w.heap.size := e
    omega
  · have := (OV.out.blk q).2
    omega
end Vo
end Go.Proofs.Ytjlmbeachanlfaa

/- CacheOk: the laws' own functions, the program, the model. -/
namespace Go.Proofs.Ytjlmbeachanlfaa
namespace Vo
open Go.ChangeShapes Go.WideShapes Go.ChangeAt Go.RowKit Go.Joins Go.Sort
open Vl Vp
set_option linter.unusedVariables false
set_option linter.unusedSimpArgs false
set_option maxHeartbeats 1000000 in
theorem szCache (B : Nat) (a b : Option Addr) (n m cap dap : Nat) (L M : Nat → LV) (l : Int) (w : World) (hB : B ≤ w.heap.size) (h : LL B w a n L) (h' : LL B w b m M) (hn : (n : Int) ≤ 9223372036854775807) (hm : (m : Int) ≤ 9223372036854775807) (hl : LLen n L 9223372036854775807) (hl' : LLen m M 9223372036854775807) (l0 : 0 ≤ l) (l1 : l ≤ 1048576) :
    Calls Try.prog 4 #[.agg #[.slice a n cap, .slice b m dap], .int .i64 l] w fun e w' => ∃ x : Int, e = .returned (.int .i64 x) ∧ (0 ≤ x → (n : Int) ≤ 1048576 ∧ (lsum L n : Int) ≤ 1048576 ∧ (m : Int) ≤ 1048576 ∧ (lsum M m : Int) ≤ 1048576) ∧ Below w.heap.size w w' := by
  have bl : Below w.heap.size w (w.alloc (.cells #[.slice a n cap, .slice b m dap] 24)) := (Below.refl _ _).alloc (Nat.le_refl _) _
  have BL := hide bl
  have H := hide (h.below (bl.mono hB))
  have H' := hide (h'.below (bl.mono hB))
  have HL := hide hl
  have HL' := hide hl'
  clear h h' hl hl' bl
  go_enter Try.func4, Try.ntmps4
  go_wp2_with fail
  refine (szIntSS B a n cap L l _ (by simp; omega) H.out hn HL.out l0 l1).mono ?_
  rintro e w1 ⟨x, rfl, hx, hw⟩
  have hw := hw.symm
  subst hw
  have HX := hide hx
  clear hx
  by_cases x0 : x < 0
  · have x0' : decide (x < 0) = true := decide_eq_true x0
    clear x0
    go_wp2_with fail
    go_ret
    exact ⟨-1, rfl, fun e => by omega, BL.out⟩
  have x0' : decide (x < 0) = false := decide_eq_false x0
  have x1 : 0 ≤ x := by omega
  have x2 := (HX.out x1).1
  clear x0
  go_wp2_with fail
  refine (szIntSS B b m dap M x _ (by simp; omega) H'.out hm HL'.out x1 x2).mono ?_
  rintro e w1 ⟨y, rfl, hy, hw⟩
  have hw := hw.symm
  subst hw
  have HY := hide hy
  clear hy
  by_cases y0 : y < 0
  · have y0' : decide (y < 0) = true := decide_eq_true y0
    clear y0
    go_wp2_with fail
    go_ret
    exact ⟨-1, rfl, fun e => by omega, BL.out⟩
  have y0' : decide (y < 0) = false := decide_eq_false y0
  clear y0
  go_wp2_with fail
  go_ret
  exact ⟨y, rfl, fun e => ⟨(HX.out x1).2.1, (HX.out x1).2.2, (HY.out e).2.1, (HY.out e).2.2⟩, BL.out⟩
/-- a cache that is answered -/
def CacheR (n m : Nat) (L M : Nat → LV) (w : World) (e : Ending) (w' : World) : Prop :=
  ∃ (a b : Option Addr) (L' M' : Nat → LV), e = .returned (.agg #[.slice a n n, .slice b m m]) ∧ LL w'.heap.size w' a n L' ∧ LL w'.heap.size w' b m M' ∧ LSame n L L' ∧ LSame m M M' ∧ Below w.heap.size w w'
theorem LL.kept {B g : Nat} {w w' : World} {a : Option Addr} {n : Nat} {L : Nat → LV} (h : LL B w a n L) (hk : Kept (fun q => q = g) w w') (hg : B ≤ g) (hB : B ≤ w.heap.size) : LL B w' a n L := by
  rcases h with h | ⟨blk, off, rfl, hb, hc⟩
  · exact .inl h
  · refine .inr ⟨blk, off, rfl, hb, fun i hi => ⟨(World.cell?_of_block (w := w) (a := ⟨blk, off + i, none⟩) (hk.block blk (by omega) (by show ¬ blk = g; omega))).trans (hc i hi).1, (hc i hi).2.kept hB hk (fun y hy e => by have e : y = g := e; omega)⟩⟩
/-- what a row must be -/
def rowB (r : Nat) (D : Nat → Int) : Bool := decide (1 ≤ r) && decide (r ≤ 4096) && wi r D 2147483647
/-- what rows must be, but for how many there are -/
def RowsA (n : Nat) (L : Nat → LV) : Prop := ∀ i, i < n → (L i).r = (L 0).r ∧ rowB (L i).r (L i).D = true
instance (n : Nat) (L : Nat → LV) : Decidable (RowsA n L) := by unfold RowsA; infer_instance
def cacheB (n m : Nat) (L M : Nat → LV) : Bool := decide (n = m) && decide (n ≤ 4096) && decide (RowsA n L) && decide (RowsA m M)
set_option maxHeartbeats 1000000 in
theorem l5RowOk (B : Nat) (a : Option Addr) (r cap : Nat) (D : Nat → Int) (w : World) (h : Ints B w a r D) (hr : (r : Int) ≤ 1048576) :
    Calls Try.prog 17 #[.slice a r cap] w fun e w' => e = .returned (.bool (rowB r D)) ∧ w' = w := by
  have H := hide h
  clear h
  go_enter Try.func17, Try.ntmps17
  go_wp2_with fail
  go_loopw [3] (fun i wx => ∃ k : Nat, k ≤ r ∧ i = .int .i64 k ∧ (∀ j, j < k → 0 ≤ D j ∧ D j < 2147483647) ∧ wx = w) (fun i _ => r - (intOf i).toNat)
  case atStart => exact ⟨0, Nat.zero_le _, rfl, fun j hj => by omega, rfl⟩
  case round =>
    obtain ⟨k, hk, rfl, hall, rfl⟩ := hrel
    have HA := hide hall
    clear hall
    by_cases hlt : k < r
    · have kI : (k : Int) < r := by omega
      rcases H.out with q0 | ⟨blk, off, rfl, hbk, hc⟩
      · omega
      have c0 := (hc k hlt).1
      clear hc
      by_cases d0 : D k < 0
      · have d0' : decide (D k < 0) = true := decide_eq_true d0
        have ez := hide (show rowB r D = false by
          have q : wi r D 2147483647 = false := decide_eq_false (fun e => by have := e k hlt; omega)
          unfold rowB; rw [q]; simp)
        clear d0
        go_wp2_with fail
        go_ret
        exact ⟨by rw [ez.out]; rfl, rfl⟩
      have d0' : decide (D k < 0) = false := decide_eq_false d0
      by_cases d1 : 2147483647 ≤ D k
      · have d1' : decide (2147483647 ≤ D k) = true := decide_eq_true d1
        have ez := hide (show rowB r D = false by
          have q : wi r D 2147483647 = false := decide_eq_false (fun e => by have := e k hlt; omega)
          unfold rowB; rw [q]; simp)
        clear d0 d1
        go_wp2_with fail
        go_ret
        exact ⟨by rw [ez.out]; rfl, rfl⟩
      have d1' : decide (2147483647 ≤ D k) = false := decide_eq_false d1
      have A1 := hide (show ∀ j, j < k + 1 → 0 ≤ D j ∧ D j < 2147483647 from fun j hj => by
        by_cases c : j = k
        · subst c; omega
        · exact HA.out j (by omega))
      clear d0 d1
      go_wp2_with fail
      go_roundw
      all_goals first
        | (simp only [intOf]; omega)
        | (simp [intOf]; omega)
        | exact ⟨k + 1, by omega, by go_num, A1.out, by first | rfl | trivial⟩
    · obtain rfl : k = r := by omega
      have ew := hide (show wi k D 2147483647 = true from decide_eq_true (show WI k D 2147483647 from HA.out))
      by_cases e1 : 1 ≤ k
      · have e1' : decide ((0 : Int) < (k : Int)) = true := decide_eq_true (by omega)
        have e1'' : decide (0 < k) = true := decide_eq_true (by omega)
        have ez := hide (show rowB k D = decide ((k : Int) ≤ 4096) by unfold rowB; rw [ew.out, decide_eq_true e1]; simp; omega)
        clear e1
        go_wp2_with fail
        go_ret
        exact ⟨by rw [ez.out]; simp, rfl⟩
      · have e1' : decide ((0 : Int) < (k : Int)) = false := decide_eq_false (by omega)
        have e1'' : decide (0 < k) = false := decide_eq_false (by omega)
        have ez := hide (show rowB k D = false by unfold rowB; rw [decide_eq_false e1]; simp)
        clear e1
        go_wp2_with fail
        go_ret
        exact ⟨by rw [ez.out]; rfl, rfl⟩
end Vo
end Go.Proofs.Ytjlmbeachanlfaa
