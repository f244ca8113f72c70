/- Lemmas for the proof of the law. -/
import Derived.Test.YtjlmbeachanlfaaMgam
import Derived.Test.YtjlmbeachanlfaaMgaf
import Derived.Test.YtjlmbeachanlfaaMgao
/- Caches: copied, compared. -/
namespace Go.Proofs.Ytjlmbeachanlfaa
namespace Vo
open Go.ChangeShapes Go.WideShapes Go.ChangeAt Go.RowKit Go.Joins Go.Sort
open Vl Vp
set_option linter.unusedVariables false
set_option linter.unusedSimpArgs false
set_option maxHeartbeats 1000000 in
theorem toCacheO (B : Nat) (a b : Option Addr) (n m cap dap : Nat) (L M : Nat → LV) (w : World) (hB : B ≤ w.heap.size) (h : LL B w a n L) (h' : LL B w b m M) (hn : (n : Int) ≤ 1048576) (hm : (m : Int) ≤ 1048576) (hl : LLen n L 1048576) (hl' : LLen m M 1048576) :
    Calls Try.prog 6 #[.agg #[.slice a n cap, .slice b m dap]] w fun e w' => ∃ (g1 g2 : Nat) (L' M' : Nat → LV), e = .returned (.agg #[.slice (some ⟨g1, 0, none⟩) n n, .slice (some ⟨g2, 0, none⟩) m m]) ∧ w.heap.size ≤ g1 ∧ g1 < g2 ∧ OLL w' g1 n n L' ∧ OLL w' g2 m m M' ∧ (∀ i, i < n → ∀ b, Blk (L' i).a (L' i).r b → b < g2) ∧ LSame n L L' ∧ LSame m M M' ∧ Below w.heap.size w w' := by
  have H := hide h
  have H' := hide h'
  have HL := hide hl
  have HL' := hide hl'
  clear h h' hl hl'
  go_enter Try.func6, Try.ntmps6
  go_wp2_with fail
  refine (toIntSS B a n cap L _ (by simp; omega) (by exact LL.below H.out ((((Below.refl B w).alloc hB _).alloc (by simp; omega) _).alloc (by simp; omega) _)) hn HL.out).mono ?_
  rintro e w1 ⟨L', rfl, q1, s1, b1⟩
  have hc1 := old_cells b1
  have hf1 := old_marks b1
  have z1 : w.heap.size + 3 < w1.heap.size := by have := q1.lt; simp at this; omega
  have B1 := hide b1
  have Q1 := hide q1
  have S1 := hide s1
  clear b1 q1 s1
  have B0 := hide (show Below w.heap.size w (((w.alloc (.cells #[.slice a n cap, .slice b m dap] 24)).alloc (.cells #[.slice none 0 0, .slice none 0 0] 27)).alloc (.cells #[.slice none 0 0, .slice none 0 0] 27)) from below_alloc3 _ _ _ _)
  have B01 := hide (B0.out.trans (B1.out.mono (by simp; omega)))
  have B12 := hide (B01.out.setCell (p := ⟨w.heap.size + 1 + 1, 0, none⟩) (by show w.heap.size ≤ w.heap.size + 1 + 1; omega) (.slice (some ⟨w.heap.size + 1 + 1 + 1, 0, none⟩) n n))
  have K1 := hide (Q1.out.set (b := w.heap.size + 1 + 1) (j := 0) (.slice (some ⟨w.heap.size + 1 + 1 + 1, 0, none⟩) n n) (by simp))
  go_wp2_with fail
  refine (toIntSS B b m dap M _ (by have := B12.out.size; omega) (by exact H'.out.below (B12.out.mono hB)) hm HL'.out).mono ?_
  rintro e w2 ⟨M', rfl, q2, s2, b2⟩
  have hc2 := old_cells b2
  have hf2 := old_marks b2
  have Q2 := hide q2
  have S2 := hide s2
  have K2 := hide (K1.out.below b2)
  have B22 := hide (B12.out.trans (b2.mono B12.out.size))
  have hsz : (w1.setCell ⟨w.heap.size + 1 + 1, 0, none⟩ (.slice (some ⟨w.heap.size + 1 + 1 + 1, 0, none⟩) n n)).heap.size = w1.heap.size := by simp [World.setCell]
  rw [hsz] at hc2 hf2
  have c20 := fun i => hc2 w.heap.size i (by omega)
  have c21 := fun i => hc2 (w.heap.size + 1) i (by omega)
  have c22 := fun i => hc2 (w.heap.size + 1 + 1) i (by omega)
  have f20 := fun i => hf2 w.heap.size i (by omega)
  have f21 := fun i => hf2 (w.heap.size + 1) i (by omega)
  have f22 := fun i => hf2 (w.heap.size + 1 + 1) i (by omega)
  clear hc2 hf2
  clear q2 b2 s2
  go_wp2_with fail
  refine bodyPost_ret (v := .agg #[.slice (some ⟨w.heap.size + 1 + 1 + 1, 0, none⟩) n n, .slice (some ⟨w1.heap.size, 0, none⟩) m m]) (by simp [results, Try.results6, go_sem, c20, c21, c22, hc1]) rfl ⟨_, _, L', M', rfl, by omega, by omega, ?_, ?_, fun i hi b hb => ((Q1.out.own i hi).blk hb).2, S1.out, S2.out, ?_⟩
  · repeat (refine OLL.set ?_ _ (by first | omega | (simp; done) | (simp; omega)))
    have := K2.out
    simpa only [World.size_alloc] using this
  · repeat (refine OLL.set ?_ _ (by first | omega | (simp; done) | (simp; omega)))
    have := Q2.out
    rwa [hsz] at this
  · repeat (refine Below.setCell ?_ (by simp; try omega) _)
    exact B22.out
set_option maxHeartbeats 1000000 in
theorem toCache (B : Nat) (a b : Option Addr) (n m cap dap : Nat) (L M : Nat → LV) (w : World) (hB : B ≤ w.heap.size) (h : LL B w a n L) (h' : LL B w b m M) (hn : (n : Int) ≤ 1048576) (hm : (m : Int) ≤ 1048576) (hl : LLen n L 1048576) (hl' : LLen m M 1048576) :
    Calls Try.prog 6 #[.agg #[.slice a n cap, .slice b m dap]] w (CacheR n m L M w) := by
  refine (toCacheO B a b n m cap dap L M w hB h h' hn hm hl hl').mono ?_
  rintro e w' ⟨g1, g2, L', M', rfl, _, _, o1, o2, _, s1, s2, bb⟩
  exact ⟨_, _, L', M', rfl, o1.read, o2.read, s1, s2, bb⟩
set_option maxHeartbeats 1000000 in
theorem eqCache (B : Nat) (a b a' b' : Option Addr) (n m cap dap cap' dap' : Nat) (L M L' M' : Nat → LV) (w : World) (hB : B ≤ w.heap.size) (h1 : LL B w a n L) (h2 : LL B w b m M) (h3 : LL B w a' n L') (h4 : LL B w b' m M')
    (e1 : ∀ i, i < n → (L' i).r = (L i).r ∧ ∀ j, j < (L i).r → (L i).D j = (L' i).D j) (e2 : ∀ i, i < m → (M' i).r = (M i).r ∧ ∀ j, j < (M i).r → (M i).D j = (M' i).D j) (hn : (n : Int) ≤ 1048576) (hm : (m : Int) ≤ 1048576) (hl : LLen n L 1048576) (hl' : LLen m M 1048576) :
    Calls Try.prog 9 #[.agg #[.slice a n cap, .slice b m dap], .agg #[.slice a' n cap', .slice b' m dap']] w fun e w' => e = .returned (.bool true) ∧ Below w.heap.size w w' := by
  have B0 := hide (show Below w.heap.size w ((w.alloc (.cells #[.slice a n cap, .slice b m dap] 27)).alloc (.cells #[.slice a' n cap', .slice b' m dap'] 27)) from ((Below.refl _ _).alloc (Nat.le_refl _) _).alloc (by simp) _)
  have H1 := hide (h1.below (B0.out.mono hB))
  have H3 := hide (h3.below (B0.out.mono hB))
  have H2 := hide h2
  have H4 := hide h4
  have E1 := hide e1
  have E2 := hide e2
  have HL := hide hl
  have HL' := hide hl'
  clear h1 h2 h3 h4 e1 e2 hl hl'
  go_enter Try.func9, Try.ntmps9
  go_wp2_with fail
  refine (eqIntSS B a a' n cap cap' L L' _ (by simp; omega) H1.out H3.out hn HL.out E1.out).mono ?_
  rintro e w1 ⟨rfl, b1⟩
  have hc1 := old_cells b1
  have c10 := fun i => hc1 w.heap.size i (by simp; omega)
  have c11 := fun i => hc1 (w.heap.size + 1) i (by simp)
  have B1 := hide (B0.out.trans (b1.mono (by simp; omega)))
  have z1 : w.heap.size + 1 < w1.heap.size := by have := b1.size; simp at this; omega
  clear hc1 b1
  go_wp2_with fail
  refine (eqIntSS B b b' m dap dap' M M' _ (by omega) (H2.out.below (B1.out.mono hB)) (H4.out.below (B1.out.mono hB)) hm HL'.out E2.out).mono ?_
  rintro e w2 ⟨rfl, b2⟩
  have hz := B1.out.size
  have hc2 := old_cells b2
  have c20 := fun i => hc2 w.heap.size i (by omega)
  have c21 := fun i => hc2 (w.heap.size + 1) i (by omega)
  have B2 := hide (B1.out.trans (b2.mono B1.out.size))
  clear hc2 b2
  go_wp2_with fail
  go_ret
  exact ⟨rfl, B2.out⟩
end Vo
end Go.Proofs.Ytjlmbeachanlfaa

/- CacheOk of the model; the program's rows. -/
namespace Go.Proofs.Ytjlmbeachanlfaa
namespace Vo
open Go.ChangeShapes Go.WideShapes Go.ChangeAt Go.RowKit Go.Joins Go.Sort
open Vl Vp
set_option linter.unusedVariables false
set_option linter.unusedSimpArgs false
set_option maxHeartbeats 1000000 in
theorem specCacheOk (B : Nat) (a b : Option Addr) (n m cap dap : Nat) (L M : Nat → LV) (w : World) (hB : B ≤ w.heap.size) (h : LL B w a n L) (h' : LL B w b m M) (hn : (n : Int) ≤ 1048576) (hm : (m : Int) ≤ 1048576) (hl : LLen n L 1048576) (hl' : LLen m M 1048576) :
    Calls Try.prog 16 #[.agg #[.slice a n cap, .slice b m dap]] w fun e w' => e = .returned (.bool (cacheB n m L M)) ∧ Below w.heap.size w w' := by
  have bl : Below w.heap.size w (w.alloc (.cells #[.slice a n cap, .slice b m dap] 27)) := (Below.refl _ _).alloc (Nat.le_refl _) _
  have BL := hide bl
  have H := hide (h.below (bl.mono hB))
  have H' := hide (h'.below (bl.mono hB))
  have HL := hide hl
  have HL' := hide hl'
  clear h h' hl hl' bl
  by_cases e0 : n = m
  rotate_left
  · have ez := hide (show cacheB n m L M = false by unfold cacheB; rw [decide_eq_false e0]; simp)
    have e0' : ((n : Int) == (m : Int)) = false := beq_eq_false_iff_ne.2 (by omega)
    clear e0
    go_enter Try.func16, Try.ntmps16
    go_wp2_with fail
    go_ret
    exact ⟨by rw [ez.out]; rfl, BL.out⟩
  have e0' : ((n : Int) == (m : Int)) = true := beq_iff_eq.2 (by omega)
  have E0 := hide e0
  clear e0
  cases eB : (decide (RowsA n L) && decide ((n : Int) ≤ 4096)) with
  | false =>
    have ez := hide (show cacheB n m L M = false by
      unfold cacheB
      cases hq : decide (RowsA n L) with
      | false => simp
      | true =>
        rw [hq, Bool.true_and] at eB
        have := of_decide_eq_false eB
        rw [decide_eq_false (show ¬ n ≤ 4096 by omega)]; simp)
    have EB := hide eB
    clear eB
    go_enter Try.func16, Try.ntmps16
    go_wp2_with fail
    refine (l5RowsOk B a n cap L _ (by simp; omega) H.out hn HL.out).mono ?_
    rintro e w1 ⟨rfl, b1⟩
    rw [EB.out]
    have B1 := hide (BL.out.trans (b1.mono (by simp)))
    clear b1
    go_wp2_with fail
    go_ret
    exact ⟨by rw [ez.out]; rfl, B1.out⟩
  | true =>
    have ez := hide (show cacheB n m L M = (decide (RowsA m M) && decide ((m : Int) ≤ 4096)) by
      unfold cacheB
      rw [Bool.and_eq_true] at eB
      have q := of_decide_eq_true eB.2
      have := E0.out
      rw [eB.1, decide_eq_true E0.out, decide_eq_true (show n ≤ 4096 by omega), decide_eq_true (show (m : Int) ≤ 4096 by omega)]; simp)
    have EB := hide eB
    clear eB
    go_enter Try.func16, Try.ntmps16
    go_wp2_with fail
    refine (l5RowsOk B a n cap L _ (by simp; omega) H.out hn HL.out).mono ?_
    rintro e w1 ⟨rfl, b1⟩
    rw [EB.out]
    have hc1 := old_cells b1
    have c10 := fun i => hc1 w.heap.size i (by simp)
    have B1 := hide (BL.out.trans (b1.mono (by simp)))
    have H1 := hide (H'.out.below (b1.mono (by simp; omega)))
    have z1 : w.heap.size < w1.heap.size := by have := b1.size; simp at this; omega
    clear b1 hc1
    go_wp2_with fail
    refine (l5RowsOk B b m dap M _ (by omega) H1.out hm HL'.out).mono ?_
    rintro e w2 ⟨rfl, b2⟩
    have B2 := hide (B1.out.trans (b2.mono B1.out.size))
    clear b2
    go_wp2_with fail
    go_ret
    exact ⟨by rw [ez.out]; rfl, B2.out⟩
set_option maxHeartbeats 1000000 in
theorem rowOk (B : Nat) (a : Option Addr) (r cap : Nat) (D : Nat → Int) (w : World) (hB : B ≤ w.heap.size) (h : Ints B w a r D) (hr : (r : Int) ≤ 1048576) :
    Calls Try.prog 47 #[.slice a r cap] w fun e w' => e = .returned (.bool (rowB r D)) ∧ Below w.heap.size w w' := by
  have CW := hide (within B a r cap D 2147483647 w hB h hr)
  clear h
  by_cases e1 : 1 ≤ r
  rotate_left
  · have ez := hide (show rowB r D = false by unfold rowB; rw [decide_eq_false e1]; simp)
    have e1' : decide ((0 : Int) < (r : Int)) = false := decide_eq_false (by omega)
    have e1'' : decide (0 < r) = false := decide_eq_false (by omega)
    clear e1
    go_enter Try.func47, Try.ntmps47
    go_wp2_with fail
    go_ret
    exact ⟨by rw [ez.out]; rfl, Below.refl _ _⟩
  have e1' : decide ((0 : Int) < (r : Int)) = true := decide_eq_true (by omega)
  have e1'' : decide (0 < r) = true := decide_eq_true (by omega)
  have E1 := hide e1
  clear e1
  by_cases e2 : r ≤ 4096
  rotate_left
  · have ez := hide (show rowB r D = false by unfold rowB; rw [decide_eq_false e2]; simp)
    have e2' : decide ((r : Int) ≤ 4096) = false := decide_eq_false (by omega)
    have e2'' : decide (r ≤ 4096) = false := decide_eq_false (by omega)
    clear e2
    go_enter Try.func47, Try.ntmps47
    go_wp2_with fail
    go_ret
    exact ⟨by rw [ez.out]; rfl, Below.refl _ _⟩
  have e2' : decide ((r : Int) ≤ 4096) = true := decide_eq_true (by omega)
  have e2'' : decide (r ≤ 4096) = true := decide_eq_true (by omega)
  have ez := hide (show rowB r D = wi r D 2147483647 by unfold rowB; rw [decide_eq_true E1.out, decide_eq_true e2]; simp)
  clear e2
  go_enter Try.func47, Try.ntmps47
  go_wp2_with fail
  refine CW.out.mono ?_
  rintro e w1 ⟨rfl, b1⟩
  have B1 := hide b1
  clear b1
  go_wp2_with fail
  go_ret
  exact ⟨by rw [ez.out]; rfl, B1.out⟩
/-- is a row wrong beside one of that length -/
def rowX (r0 r : Nat) (D : Nat → Int) : Bool := !(rowB r D) || decide (r ≠ r0)
set_option maxHeartbeats 1000000 in
theorem rowsOk1 (B : Nat) (a b : Option Addr) (n cap r dap P : Nat) (L : Nat → LV) (D : Nat → Int) (w : World) (hB : B ≤ w.heap.size) (hP : P < w.heap.size) (hc : w.cell? ⟨P, 0, none⟩ = some (.slice a n cap)) (h : LL B w a n L) (h0 : 0 < n) (hr : (r : Int) ≤ 1048576) (hi : Ints B w b r D) :
    Calls Try.prog 46 #[.slice b r dap, .pointer (some ⟨P, 0, none⟩)] w fun e w' => e = .returned (.bool (rowX (L 0).r r D)) ∧ Below w.heap.size w w' := by
  have CR := hide (rowOk B b r dap D w hB hi hr)
  have H := hide h
  have HC := hide hc
  clear hi h hc
  cases eB : rowB r D with
  | false =>
    rw [eB] at CR
    have ez := hide (show rowX (L 0).r r D = true by unfold rowX; rw [eB]; rfl)
    clear eB
    go_enter Try.func46, Try.ntmps46
    go_wp2_with fail
    refine CR.out.mono ?_
    rintro e w1 ⟨rfl, b1⟩
    have B1 := hide b1
    clear b1
    go_wp2_with fail
    go_ret
    exact ⟨by rw [ez.out]; rfl, B1.out⟩
  | true =>
    rw [eB] at CR
    have ez := hide (show rowX (L 0).r r D = ((r : Int) != ((L 0).r : Int)) by
      unfold rowX; rw [eB]
      by_cases c : r = (L 0).r
      · rw [c]; simp
      · rw [show ((r : Int) != ((L 0).r : Int)) = true from bne_iff_ne.2 (by omega)]; simp [c])
    clear eB
    go_enter Try.func46, Try.ntmps46
    go_wp2_with fail
    refine CR.out.mono ?_
    rintro e w1 ⟨rfl, b1⟩
    have nI : (0 : Int) < n := by omega
    have p1 := (b1.cell (p := ⟨P, 0, none⟩) hP).trans HC.out
    rcases H.out.below (b1.mono hB) with q0 | ⟨blk, off, rfl, hbk, hcs⟩
    · omega
    have c1 := (hcs 0 h0).1
    rw [Nat.add_zero] at c1
    have B1 := hide b1
    clear b1 hcs
    go_wp2_with fail
    go_ret
    exact ⟨by rw [ez.out]; simp, B1.out⟩
set_option maxHeartbeats 1000000 in
theorem indexRows (B : Nat) (a : Option Addr) (n cap P : Nat) (L : Nat → LV) (w : World) (hB : B ≤ w.heap.size) (hP : P < w.heap.size) (hc : w.cell? ⟨P, 0, none⟩ = some (.slice a n cap)) (h : LL B w a n L) (hn : (n : Int) ≤ 1048576) (hl : LLen n L 1048576) :
    Calls Try.prog 63 #[.slice a n cap, .func (.func 46) #[] #[.pointer (some ⟨P, 0, none⟩)]] w fun e w' => ∃ i, e = .returned (.int .i64 i) ∧ decide (0 ≤ i) = !(decide (RowsA n L)) ∧ Below w.heap.size w w' := by
  have H := hide h
  have HL := hide hl
  have HC := hide hc
  clear h hl hc
  go_enter Try.func63, Try.ntmps63
  go_wp2_with fail
  go_loopw [8] (fun i wx => ∃ k : Nat, k ≤ n ∧ i = .int .i64 k ∧ RowsA k L ∧ Below w.heap.size w wx) (fun i _ => n - (intOf i).toNat)
  case atStart => exact ⟨0, Nat.zero_le _, rfl, fun j hj => by omega, Below.refl _ _⟩
  case round =>
    obtain ⟨X, rfl⟩ : ∃ X, X = wr := ⟨_, rfl⟩
    obtain ⟨k, hk, rfl, hall, hby⟩ := hrel
    have HA := hide hall
    have HBY := hide hby
    clear hall hby
    by_cases hlt : k < n
    · have hLX := H.out.below (HBY.out.mono hB)
      have kI : (k : Int) < n := by omega
      have HX := hide hLX
      rcases hLX with h0 | ⟨b, off, rfl, hbB, hc⟩
      · omega
      obtain ⟨c1, i1⟩ := hc k hlt
      have lk := HL.out k hlt
      have CR := hide (rowsOk1 B _ (L k).a n cap (L k).r (L k).cap P L (L k).D X (Nat.le_trans hB HBY.out.size) (Nat.lt_of_lt_of_le hP HBY.out.size) ((HBY.out.cell (p := ⟨P, 0, none⟩) hP).trans HC.out) HX.out (by omega) lk i1)
      clear hc i1 lk
      cases eX : rowX (L 0).r (L k).r (L k).D with
      | true =>
        rw [eX] at CR
        have f := hide (show decide ((0 : Int) ≤ (k : Int)) = !(decide (RowsA n L)) by
          rw [rowsA_no hlt (fun e => by
            unfold rowX at eX
            rw [e] at eX
            cases q : rowB (L 0).r (L k).D with
            | false => rw [e]; exact q
            | true => rw [q] at eX; simp at eX)]
          simp)
        clear eX
        go_wp2_with fail
        refine CR.out.mono ?_
        rintro e1 w1 ⟨rfl, b1⟩
        have B1 := hide b1
        clear b1
        go_wp2_with fail
        go_ret
        exact ⟨_, rfl, f.out, HBY.out.trans (B1.out.mono HBY.out.size)⟩
      | false =>
        rw [eX] at CR
        have f := hide (show RowsA (k + 1) L by
          unfold rowX at eX
          rw [Bool.or_eq_false_iff] at eX
          refine rowsA_up HA.out ?_ (by simpa using eX.1)
          have := of_decide_eq_false eX.2
          omega)
        clear eX
        go_wp2_with fail
        refine CR.out.mono ?_
        rintro e1 w1 ⟨rfl, b1⟩
        have B1 := hide b1
        clear b1
        go_wp2_with fail
        go_roundw
        case rel => exact ⟨k + 1, by omega, by go_num, f.out, HBY.out.trans (B1.out.mono HBY.out.size)⟩
        case measure => simp [intOf]; omega
    · obtain rfl : k = n := by omega
      have f := hide (show decide (RowsA k L) = true from decide_eq_true HA.out)
      go_wp2_with fail
      go_ret
      exact ⟨_, rfl, by rw [f.out]; rfl, HBY.out⟩
set_option maxHeartbeats 1000000 in
theorem rowsOk (B : Nat) (a : Option Addr) (n cap : Nat) (L : Nat → LV) (w : World) (hB : B ≤ w.heap.size) (h : LL B w a n L) (hn : (n : Int) ≤ 1048576) (hl : LLen n L 1048576) :
    Calls Try.prog 25 #[.slice a n cap] w fun e w' => e = .returned (.bool (decide (RowsA n L))) ∧ Below w.heap.size w w' := by
  have bl : Below w.heap.size w (w.alloc (.cells #[.slice a n cap] 22)) := (Below.refl _ _).alloc (Nat.le_refl _) _
  have H := hide (h.below (bl.mono hB))
  have HL := hide hl
  have HP := hide (show (w.alloc (.cells #[.slice a n cap] 22)).cell? ⟨w.heap.size, 0, none⟩ = some (.slice a n cap) by simp [go_sem])
  have hB' : B ≤ (w.alloc (.cells #[.slice a n cap] 22)).heap.size := by simp; omega
  have hP' : w.heap.size < (w.alloc (.cells #[.slice a n cap] 22)).heap.size := by simp
  have BL := hide bl
  have C1 := hide (show Calls Try.prog 48 #[.slice a n cap, .func (.func 46) #[] #[.pointer (some ⟨w.heap.size, 0, none⟩)]] (w.alloc (.cells #[.slice a n cap] 22)) fun e w' => e = .returned (.bool (!(decide (RowsA n L)))) ∧ Below (w.alloc (.cells #[.slice a n cap] 22)).heap.size (w.alloc (.cells #[.slice a n cap] 22)) w' by
    generalize w.alloc (.cells #[.slice a n cap] 22) = W at *
    clear h bl BL
    go_enter Try.func48, Try.ntmps48
    go_wp2_with fail
    refine (indexRows B a n cap w.heap.size L _ hB' hP' HP.out H.out hn HL.out).mono ?_
    rintro e1 w1 ⟨i, rfl, hi, b1⟩
    have HI := hide hi
    have B1 := hide b1
    clear hi b1
    go_wp2_with fail
    go_ret
    exact ⟨by rw [HI.out]; rfl, B1.out⟩)
  clear h bl hB' hP' hl
  go_enter Try.func25, Try.ntmps25
  go_wp2_with fail
  refine C1.out.mono ?_
  rintro e1 w1 ⟨rfl, b1⟩
  have B1 := hide (BL.out.trans (b1.mono (by simp)))
  clear b1
  go_wp2_with fail
  go_ret
  exact ⟨by simp, B1.out⟩
end Vo
end Go.Proofs.Ytjlmbeachanlfaa
