/- Short steps; Bound on both sides (written by tools/gen14.py). -/
import Derived.Test.YtnnjkanmcfjblaaIc
namespace Go.Proofs.Ytnnjkanmcfjblaa
namespace Vo
open Go.ChangeShapes Go.WideShapes Go.ChangeAt Go.RowKit Go.Joins Go.Sort
open Vl
set_option linter.unusedVariables false
set_option linter.unusedSimpArgs false
theorem two_new (x y : Int) (w : World) (ty : TypeId) (hx : bd x) (hy : bd y) : Ints (w.heap.size + 1) (w.alloc (.cells #[.int .i64 x, .int .i64 y] ty)) (some ⟨w.heap.size, 0, none⟩) 2 (fun i => if i = 0 then x else y) :=
  .inr ⟨_, 0, rfl, by simp, fun j hj => by
    rcases (by omega : j = 0 ∨ j = 1) with rfl | rfl
    · exact ⟨by simp [go_sem], by simpa using hx⟩
    · exact ⟨by simp [go_sem], by simpa using hy⟩⟩
theorem inB_two (l m x y : Int) (b : Bool) (P : Nat) (w : World) (hl : l ≤ m) (hx : bd x) (hy : bd y) (hb : decide ((l ≤ x ∧ x ≤ m) ∧ (l ≤ y ∧ y ≤ m)) = b) (hP : P = w.heap.size) :
    Calls Try.prog 37 #[.int .i64 l, .int .i64 m, .slice (some ⟨P, 0, none⟩) 2 2] (w.alloc (.cells #[.int .i64 x, .int .i64 y] 3)) fun e w' => e = .returned (.bool b) ∧ Below w.heap.size w w' := by
  subst hP
  refine (inBoundsF (w.heap.size + 1) _ 2 2 (fun i => if i = 0 then x else y) l m _ hl (by simp) (two_new x y w _ hx hy) (by decide)).mono ?_
  rintro e w' ⟨rfl, b1⟩
  exact ⟨by rw [ib_two, hb], ((Below.refl _ _).alloc (Nat.le_refl _) _).trans (b1.mono (by simp))⟩
/-- a scale with a short step -/
def sht (s z : Int) : Bool := scOk s z && decide (s ≤ 16777216)
theorem sht_t {s z : Int} (h : scOk s z = true) (h' : s ≤ 16777216) : sht s z = true := by unfold sht; rw [h, decide_eq_true h']; rfl
theorem sht_of {s z : Int} (h : sht s z = true) : scOk s z = true ∧ s ≤ 16777216 := by
  unfold sht at h
  rw [Bool.and_eq_true] at h
  exact ⟨h.1, of_decide_eq_true h.2⟩
theorem sht_f {s z : Int} (h : ¬ (scOk s z = true ∧ s ≤ 16777216)) : sht s z = false := by
  cases e : sht s z
  · rfl
  · exact absurd (sht_of e) h
theorem short1 (s z : Int) (w : World) (hs : bd s) (hz : bd z) :
    Calls Try.prog 32 #[.agg #[.int .i64 s, .int .i64 z]] w fun e w' => e = .returned (.bool (!sht s z)) ∧ Below w.heap.size w w' := by
  cases g : scOk s z
  · have C := hide (fun w => gScaleI s z false hs hz g w)
    have f := hide (show (!sht s z) = true by rw [sht_f (fun h => by rw [g] at h; exact absurd h.1 Bool.false_ne_true)]; rfl)
    clear hs hz g
    go_enter Try.func32, Try.ntmps32
    go_wp2_with fail
    refine (C.out _).mono ?_; rintro e1 w1 ⟨rfl, b1⟩
    go_wp2_with fail
    go_ret
    exact ⟨ret_bool f.out.symm, ((Below.refl _ _).alloc (Nat.le_refl _) _).trans (b1.mono (by simp))⟩
  · have C := hide (fun w => gScaleI s z true hs hz g w)
    have f := hide (show (!sht s z) = decide (16777216 < s) by
      by_cases c : s ≤ 16777216
      · rw [sht_t g c, decide_eq_false (by omega)]; rfl
      · rw [sht_f (fun h => c h.2), decide_eq_true (by omega)]; rfl)
    clear hs hz g
    go_enter Try.func32, Try.ntmps32
    go_wp2_with fail
    refine (C.out _).mono ?_; rintro e1 w1 ⟨rfl, b1⟩
    have k0 : w1.cell? ⟨w.heap.size, 0, none⟩ = some (.int .i64 s) := by rw [b1.cell (p := ⟨w.heap.size, 0, none⟩) (by simp)]; simp [go_sem]
    go_wp2_with fail
    go_ret
    exact ⟨ret_bool f.out.symm, ((Below.refl _ _).alloc (Nat.le_refl _) _).trans (b1.mono (by simp))⟩
/-- r scales in a row -/
def Scs (w : World) (P r : Nat) (S Z : Nat → Int) : Prop := P < w.heap.size ∧ ∀ i, i < r → (w.cell? ⟨P, i * 2, none⟩ = some (.int .i64 (S i)) ∧ w.cell? ⟨P, i * 2 + 1, none⟩ = some (.int .i64 (Z i))) ∧ bd (S i) ∧ bd (Z i)
theorem Scs.below {w w' : World} {P r : Nat} {S Z : Nat → Int} (h : Scs w P r S Z) (b : Below w.heap.size w w') : Scs w' P r S Z :=
  ⟨Nat.lt_of_lt_of_le h.1 b.size, fun i hi => ⟨⟨by rw [b.cell (p := ⟨P, i * 2, none⟩) h.1]; exact (h.2 i hi).1.1, by rw [b.cell (p := ⟨P, i * 2 + 1, none⟩) h.1]; exact (h.2 i hi).1.2⟩, (h.2 i hi).2⟩⟩
set_option maxHeartbeats 1000000 in
theorem shIdx (P r cap : Nat) (S Z : Nat → Int) (w : World) (h : Scs w P r S Z) (hr : (r : Int) ≤ 1000) :
    Calls Try.prog 41 #[.slice (some ⟨P, 0, none⟩) r cap, .func (.func 32) #[] #[]] w fun e w' => ∃ i, e = .returned (.int .i64 i) ∧ decide (0 ≤ i) = !(decide (∀ j, j < r → sht (S j) (Z j) = true)) ∧ Below w.heap.size w w' := by
  have H := hide h
  clear h
  go_enter Try.func41, Try.ntmps41
  go_wp2_with fail
  go_loopw [8] (fun i wx => ∃ k : Nat, k ≤ r ∧ i = .int .i64 k ∧ (∀ j, j < k → sht (S j) (Z j) = true) ∧ Below w.heap.size w wx) (fun i _ => r - (intOf i).toNat)
  case atStart => exact ⟨0, Nat.zero_le _, rfl, fun j hj => by omega, Below.refl _ _⟩
  case round =>
    obtain ⟨k, hk, rfl, hall, hB⟩ := hrel
    have HA := hide hall
    have HB := hide hB
    clear hall hB
    by_cases hlt : k < r
    · have kI : (k : Int) < r := by omega
      obtain ⟨⟨c0, c1⟩, hs, hz⟩ := (H.out.below HB.out).2 k hlt
      have C := hide (fun w => short1 (S k) (Z k) w hs hz)
      clear hs hz
      cases g : sht (S k) (Z k)
      · have e := hide (show (!sht (S k) (Z k)) = true by rw [g]; rfl)
        have f := hide (show decide ((0 : Int) ≤ (k : Int)) = !(decide (∀ j, j < r → sht (S j) (Z j) = true)) by
          rw [decide_eq_false (p := ∀ j, j < r → sht (S j) (Z j) = true) (fun q => by have := q k hlt; rw [g] at this; exact Bool.false_ne_true this)]
          simp)
        clear g
        go_wp2_with fail
        refine (C.out _).mono ?_
        rintro e1 w1 ⟨rfl, b1⟩
        rw [e.out]
        have B1 := hide (HB.out.trans (b1.mono HB.out.size))
        clear b1
        go_wp2_with fail
        go_ret
        exact ⟨_, rfl, f.out, B1.out⟩
      · have e := hide (show (!sht (S k) (Z k)) = false by rw [g]; rfl)
        have f := hide (show ∀ j, j < k + 1 → sht (S j) (Z j) = true from fun j hj => by
          by_cases ej : j = k
          · subst ej; exact g
          · exact HA.out j (by omega))
        clear g
        go_wp2_with fail
        refine (C.out _).mono ?_
        rintro e1 w1 ⟨rfl, b1⟩
        rw [e.out]
        have B1 := hide (HB.out.trans (b1.mono HB.out.size))
        clear b1
        go_wp2_with fail
        go_roundw
        case rel => exact ⟨k + 1, by omega, by go_num, f.out, B1.out⟩
        case measure => simp [intOf]; omega
    · obtain rfl : k = r := by omega
      have f := hide (show decide (∀ j, j < k → sht (S j) (Z j) = true) = true from decide_eq_true HA.out)
      go_wp2_with fail
      go_ret
      exact ⟨_, rfl, by rw [f.out]; rfl, HB.out⟩
theorem scs3 (w : World) (sa za sb zb sc zc : Int) (ty : TypeId) (ha : bd sa) (ha' : bd za) (hb : bd sb) (hb' : bd zb) (hc : bd sc) (hc' : bd zc) : Scs (w.alloc (.cells #[.int .i64 sa, .int .i64 za, .int .i64 sb, .int .i64 zb, .int .i64 sc, .int .i64 zc] ty)) w.heap.size 3 (fun i => if i = 0 then sa else if i = 1 then sb else sc) (fun i => if i = 0 then za else if i = 1 then zb else zc) := by
  refine ⟨by simp, fun i hi => ?_⟩
  rcases (by omega : i = 0 ∨ i = 1 ∨ i = 2) with rfl | rfl | rfl
  · exact ⟨⟨by simp [go_sem], by simp [go_sem]⟩, by simpa using ha, by simpa using ha'⟩
  · exact ⟨⟨by simp [go_sem], by simp [go_sem]⟩, by simpa using hb, by simpa using hb'⟩
  · exact ⟨⟨by simp [go_sem], by simp [go_sem]⟩, by simpa using hc, by simpa using hc'⟩
def sht3 (sa za sb zb sc zc : Int) : Bool := sht sa za && (sht sb zb && sht sc zc)
theorem sht3_is (sa za sb zb sc zc : Int) : decide (∀ j, j < 3 → sht (if j = 0 then sa else if j = 1 then sb else sc) (if j = 0 then za else if j = 1 then zb else zc) = true) = sht3 sa za sb zb sc zc := by
  unfold sht3
  rw [Bool.eq_iff_iff, decide_eq_true_iff, Bool.and_eq_true, Bool.and_eq_true]
  refine ⟨fun h => ⟨by simpa using h 0 (by omega), by simpa using h 1 (by omega), by simpa using h 2 (by omega)⟩, fun h j hj => ?_⟩
  rcases (by omega : j = 0 ∨ j = 1 ∨ j = 2) with rfl | rfl | rfl
  · simpa using h.1
  · simpa using h.2.1
  · simpa using h.2.2
theorem short3 (sa za sb zb sc zc : Int) (b : Bool) (P : Nat) (w : World) (ha : bd sa) (ha' : bd za) (hb : bd sb) (hb' : bd zb) (hc : bd sc) (hc' : bd zc) (he : sht3 sa za sb zb sc zc = b) (hP : P = w.heap.size) :
    Calls Try.prog 16 #[.slice (some ⟨P, 0, none⟩) 3 3] (w.alloc (.cells #[.int .i64 sa, .int .i64 za, .int .i64 sb, .int .i64 zb, .int .i64 sc, .int .i64 zc] 26)) fun e w' => e = .returned (.bool b) ∧ Below w.heap.size w w' := by
  subst hP
  obtain ⟨W1, hW1⟩ : ∃ W1, w.alloc (.cells #[.int .i64 sa, .int .i64 za, .int .i64 sb, .int .i64 zb, .int .i64 sc, .int .i64 zc] 26) = W1 := ⟨_, rfl⟩
  have b1 := hide (show Below w.heap.size w W1 from hW1 ▸ (Below.refl _ _).alloc (Nat.le_refl _) _)
  have H := hide (show Scs W1 w.heap.size 3 _ _ from hW1 ▸ scs3 w sa za sb zb sc zc _ ha ha' hb hb' hc hc')
  have E := hide (sht3_is sa za sb zb sc zc)
  have HE := hide he
  have C := hide (show Calls Try.prog 31 #[.slice (some ⟨w.heap.size, 0, none⟩) 3 3, .func (.func 32) #[] #[]] W1 fun e w' => e = .returned (.bool (!b)) ∧ Below W1.heap.size W1 w' by
    have CI := hide (shIdx w.heap.size 3 3 _ _ W1 H.out (by decide))
    rw [E.out, HE.out] at CI
    clear ha ha' hb hb' hc hc' he hW1 b1 H E HE
    go_enter Try.func31, Try.ntmps31
    go_wp2_with fail
    refine CI.out.mono ?_
    rintro e1 w1 ⟨i, rfl, hi, q1⟩
    have HI := hide hi
    clear hi
    go_wp2_with fail
    go_ret
    exact ⟨by rw [HI.out]; rfl, q1⟩)
  rw [hW1]
  clear ha ha' hb hb' hc hc' he hW1 H E HE
  go_enter Try.func16, Try.ntmps16
  go_wp2_with fail
  refine C.out.mono ?_
  rintro e1 w1 ⟨rfl, q1⟩
  go_wp2_with fail
  go_ret
  exact ⟨by simp, b1.out.trans (q1.mono b1.out.size)⟩
end Vo
end Go.Proofs.Ytnnjkanmcfjblaa
