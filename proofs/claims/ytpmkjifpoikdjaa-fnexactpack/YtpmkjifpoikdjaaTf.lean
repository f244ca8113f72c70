/- Lines along an axis: lengthAt, withLength, clear. -/
import Derived.Test.YtpmkjifpoikdjaaTc
import Derived.Test.YtpmkjifpoikdjaaLn
import Derived.Lib.SliceRun
namespace Go.Proofs.Ytpmkjifpoikdjaa
namespace Vo
open Go.ChangeShapes Go.WideShapes Go.ChangeAt Go.RowKit Go.Joins
open Vl Vp Vr
set_option linter.unusedVariables false
set_option linter.unusedSimpArgs false

theorem tok_split {r s : Nat} {D S : Nat → Int} (h : tok r s D S = true) : dok r D = true ∧ szR D r = (s : Int) ∧ WI s S 2147483647 := by
  unfold tok wi at h
  simp only [Bool.and_eq_true, decide_eq_true_eq] at h
  exact ⟨h.1.1, h.1.2.symm, h.2⟩
/-- how long an axis is; 0: there is none -/
def lenA (r s : Nat) (D S : Nat → Int) (x : Int) : Int := if tok r s D S = true ∧ 0 ≤ x ∧ x < r then D x.toNat else 0
theorem lenA_no {r s : Nat} {D S : Nat → Int} {x : Int} (h : ¬ (tok r s D S = true ∧ 0 ≤ x ∧ x < r)) : lenA r s D S x = 0 := by unfold lenA; rw [if_neg h]
theorem lenA_yes {r s : Nat} {D S : Nat → Int} {x : Int} (h : tok r s D S = true ∧ 0 ≤ x ∧ x < r) : lenA r s D S x = D x.toNat := by unfold lenA; rw [if_pos h]
theorem lenA_rng (r s : Nat) (D S : Nat → Int) (x : Int) : 0 ≤ lenA r s D S x ∧ lenA r s D S x ≤ 4096 := by
  by_cases h : tok r s D S = true ∧ 0 ≤ x ∧ x < r
  · rw [lenA_yes h]
    have := dok_len (tok_split h.1).1 (j := x.toNat) (by omega)
    omega
  · rw [lenA_no h]; omega
theorem lenA_zero {r s : Nat} {D S : Nat → Int} {x : Int} : lenA r s D S x = 0 ↔ ¬ (tok r s D S = true ∧ 0 ≤ x ∧ x < r) := by
  constructor
  · intro e h
    rw [lenA_yes h] at e
    have := dok_len (tok_split h.1).1 (j := x.toNat) (by omega)
    omega
  · exact lenA_no
/-- how long an axis of some dims is; 0: there is none -/
def lenI (r : Nat) (D : Nat → Int) (x : Int) : Int := if 0 ≤ x ∧ x < r then D x.toNat else 0
theorem lengthIn (B : Nat) (a : Option Addr) (r cap : Nat) (D : Nat → Int) (x : Int) (w : World) (h : Ints B w a r D) (hr : (r : Int) ≤ 1048576) :
    Calls Try.prog 70 #[.slice a r cap, .int .i64 x] w fun e w' => e = .returned (.int .i64 (lenI r D x)) ∧ w' = w := by
  have H := hide h
  clear h
  go_enter Try.func70, Try.ntmps70
  by_cases h0 : x < 0
  · have h0' : decide (x < 0) = true := decide_eq_true h0
    have ez := hide (show lenI r D x = 0 by unfold lenI; rw [if_neg (by omega)])
    clear h0
    go_wp2_with fail
    go_ret
    exact ⟨ret_int ez.out.symm, rfl⟩
  have h0' : decide (x < 0) = false := decide_eq_false h0
  by_cases h1 : (r : Int) ≤ x
  · have h1' : decide ((r : Int) ≤ x) = true := decide_eq_true h1
    have ez := hide (show lenI r D x = 0 by unfold lenI; rw [if_neg (by omega)])
    clear h0 h1
    go_wp2_with fail
    go_ret
    exact ⟨ret_int ez.out.symm, rfl⟩
  have h1' : decide ((r : Int) ≤ x) = false := decide_eq_false h1
  obtain ⟨k, rfl⟩ : ∃ k : Nat, x = k := ⟨x.toNat, by omega⟩
  have hk : k < r := by omega
  have ez := hide (show lenI r D (k : Int) = D k by unfold lenI; rw [if_pos ⟨by omega, by omega⟩, Int.toNat_natCast])
  rcases H.out with q0 | ⟨b', off, rfl, hbB, hc⟩
  · omega
  have c1 := (hc k hk).1
  have kI : (k : Int) < r := by omega
  clear hc h0 h1
  go_wp2_with fail
  go_ret
  exact ⟨ret_int ez.out.symm, rfl⟩
theorem lengthAt (B : Nat) (a b : Option Addr) (r s cap dap : Nat) (D S : Nat → Int) (x : Int) (w : World) (hB : B ≤ w.heap.size) (h : Ints B w a r D) (h' : Ints B w b s S) (hr : (r : Int) ≤ 1048576) (hs : (s : Int) ≤ 1048576) :
    Calls Try.prog 44 #[.agg #[.slice a r cap, .slice b s dap], .int .i64 x] w fun e w' => e = .returned (.int .i64 (lenA r s D S x)) ∧ Below w.heap.size w w' := by
  have BL := hide (show Below w.heap.size w (w.alloc (.cells #[.slice a r cap, .slice b s dap] 37)) from (Below.refl _ _).alloc (Nat.le_refl _) _)
  have NV := hide (bx_new w (.slice a r cap) (.slice b s dap) 37)
  have H := hide (h.below (BL.out.mono hB))
  have H' := hide (h'.below (BL.out.mono hB))
  clear h h'
  go_enter Try.func44, Try.ntmps44
  go_wp2_with fail
  refine (tensorOk B a b r s cap dap D S _ (by simp; omega) H.out H'.out hr hs).mono ?_
  rintro e w1 ⟨rfl, b1⟩
  have B1 := hide (BL.out.trans (b1.mono (by simp)))
  have N1 := hide (NV.out.below b1 (by simp))
  have H1 := hide (H.out.below (b1.mono (by simp; omega)))
  obtain ⟨x0, x1⟩ := N1.out
  clear b1
  cases ht : tok r s D S with
  | false =>
    have ez := hide (lenA_no (x := x) (fun q => by rw [ht] at q; exact absurd q.1 (by decide)) : lenA r s D S x = 0)
    clear ht
    go_wp2_with fail
    go_ret
    exact ⟨ret_int ez.out.symm, B1.out⟩
  | true =>
    have ez := hide (show lenA r s D S x = lenI r D x by
      unfold lenA lenI
      by_cases q : 0 ≤ x ∧ x < r
      · rw [if_pos ⟨ht, q⟩, if_pos q]
      · rw [if_neg (fun e => q e.2), if_neg q])
    clear ht
    go_wp2_with fail
    refine (lengthIn B a r cap D x _ H1.out hr).mono ?_
    rintro e w2 ⟨rfl, rfl⟩
    go_wp2_with fail
    go_ret
    exact ⟨ret_int ez.out.symm, B1.out⟩
theorem withLength (B : Nat) (a : Option Addr) (r cap k : Nat) (D : Nat → Int) (n : Int) (w : World) (hB : B ≤ w.heap.size) (h : Ints B w a r D) (hr : (r : Int) ≤ 1048576) (hk : k < r) (hn : bd n) :
    Calls Try.prog 67 #[.slice a r cap, .int .i64 k, .int .i64 n] w fun e w' => ∃ g c, e = .returned (.slice (some ⟨g, 0, none⟩) r c) ∧ Rw w' g r (up1 D k n) ∧ w.heap.size ≤ g ∧ g < w'.heap.size ∧ Below w.heap.size w w' := by
  have na : a = none → r = 0 ∧ cap = 0 := by
    rintro rfl
    rcases h with h | ⟨_, _, e, _⟩
    · omega
    · cases e
  have H := hide h
  have kI : (k : Int) < r := by omega
  clear h
  go_enter Try.func67, Try.ntmps67
  go_wp2_with fail
  refine (clone B a r cap D _ H.out hB hr na).mono ?_
  rintro e w1 ⟨v, rfl, rv, b1⟩
  obtain ⟨va, vc, rfl, ov⟩ := rv.own
  rcases ov with q | ⟨g, rfl, hg, rw1⟩
  · omega
  have lt := rw1.lt (by omega)
  have B1 := hide b1
  have R1 := hide rw1
  have HN := hide hn
  obtain ⟨c1, f1, _⟩ := rw1 k hk
  clear rv b1 rw1 hn
  go_wp2_with fail
  go_ret
  exact ⟨g, vc, rfl, R1.out.set k n HN.out, hg, by simpa [World.setCell] using lt, B1.out.setCell (p := ⟨g, k, none⟩) hg _⟩
theorem zeroInt (w : World) : (zeroValue 3).run Try.prog w = .ok (.int .i64 0) w := by
  obtain ⟨i0, hi0, hz0, hz1, hz2⟩ := info_parts infoInt
  simp [zeroValue, hi0, hz0, go_sem, Try.t3]
theorem clearRow {w : World} {g n c : Nat} {f : Nat → Int} (h : Rw w g n f) (hn : 0 < n) (ty : TypeId) :
    (Builtin.clear_ #[24] ty #[.slice (some ⟨g, 0, none⟩) n c]).run Try.prog w = .ok (.tuple #[]) (w.setCells g 0 (List.replicate n (.int .i64 0))) :=
  Lib.run_clear_slice w 24 3 ty (.int .i64 0) Try.underlying24 zeroInt rfl rfl g 0 n c hn (fun j hj => by rw [Nat.zero_add, (h j hj).1]; rfl) (fun j hj => by rw [Nat.zero_add]; exact (h j hj).2.1)
theorem kept_setCells (g : Nat) : ∀ (vs : List Value) (o : Nat) (w : World), Kept (· = g) w (w.setCells g o vs)
  | [], _, w => Kept.refl _ w
  | v :: vs, o, w => (Kept.setCell w ⟨g, o, none⟩ v).trans (kept_setCells g vs (o + 1) _)
theorem rw_cleared {w : World} {g n : Nat} {f : Nat → Int} (h : Rw w g n f) : Rw (w.setCells g 0 (List.replicate n (.int .i64 0))) g n (fun _ => 0) := fun t ht => by
  have q := World.cell?_setCells_in g (List.replicate n (.int .i64 0)) 0 w (fun j hj => by rw [Nat.zero_add, (h j (by simpa using hj)).1]; rfl) t (by simpa using ht)
  rw [Nat.zero_add] at q
  refine ⟨by rw [q]; simp, ?_, by unfold bd; constructor <;> simp⟩
  rw [World.frozen?_setCells]
  exact (h t ht).2.1
end Vo
end Go.Proofs.Ytpmkjifpoikdjaa
