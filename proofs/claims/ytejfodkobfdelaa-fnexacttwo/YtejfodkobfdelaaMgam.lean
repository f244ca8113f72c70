/- Lemmas for the proof of the law. -/
import Derived.Test.YtejfodkobfdelaaMgal
import Derived.Test.YtejfodkobfdelaaMgaj
import Derived.Lib.SliceRun
/- Lines along an axis: lengthAt, withLength, clear. -/
namespace Go.Proofs.Ytejfodkobfdelaa
namespace Vo
open Go.ChangeShapes Go.WideShapes Go.ChangeAt Go.RowKit Go.Joins
open Vl Vp Vr
set_option linter.unusedVariables false
set_option linter.unusedSimpArgs false

theorem tok_split {r s : Nat} {D S : Nat → Int} (h : tok r s D S = true) : dok r D = true ∧ szR D r = (s : Int) ∧ WI s S 2147483647 := by
  unfold tok wi at h
  simp only [Bool.and_eq_true, decide_eq_true_eq] at h
  exact ⟨h.1.1, h.1.2.symm, h.2⟩
/-- how long an axis is; 0: there is none -/
def lenA (r s : Nat) (D S : Nat → Int) (x : Int) : Int := if tok r s D S = true ∧ 0 ≤ x ∧ x < r then D x.toNat else 0
theorem lenA_no {r s : Nat} {D S : Nat → Int} {x : Int} (h : ¬ (tok r s D S = true ∧ 0 ≤ x ∧ x < r)) : lenA r s D S x = 0 := by unfold lenA; rw [if_neg h]
theorem lenA_yes {r s : Nat} {D S : Nat → Int} {x : Int} (h : tok r s D S = true ∧ 0 ≤ x ∧ x < r) : lenA r s D S x = D x.toNat := by unfold lenA; rw [if_pos h]
theorem lenA_rng (r s : Nat) (D S : Nat → Int) (x : Int) : 0 ≤ lenA r s D S x ∧ lenA r s D S x ≤ 4096 := by
  by_cases h : tok r s D S = true ∧ 0 ≤ x ∧ x < r
  · rw [lenA_yes h]
    have := dok_len (tok_split h.1).1 (j := x.toNat) (by omega)
    omega
  · rw [lenA_no h]; omega
theorem lenA_zero {r s : Nat} {D S : Nat → Int} {x : Int} : lenA r s D S x = 0 ↔ ¬ (tok r s D S = true ∧ 0 ≤ x ∧ x < r) := by
  constructor
  · intro e h
    rw [lenA_yes h] at e
    have := dok_len (tok_split h.1).1 (j := x.toNat) (by omega)
    omega
  · exact lenA_no
theorem zeroInt (w : World) : (zeroValue 3).run Try.prog w = .ok (.int .i64 0) w := by
  obtain ⟨i0, hi0, hz0, hz1, hz2⟩ := info_parts infoInt
  simp [zeroValue, hi0, hz0, go_sem, Try.t3]
theorem clearRow {w : World} {g n c : Nat} {f : Nat → Int} (h : Rw w g n f) (hn : 0 < n) (ty : TypeId) :
    (Builtin.clear_ #[22] ty #[.slice (some ⟨g, 0, none⟩) n c]).run Try.prog w = .ok (.tuple #[]) (w.setCells g 0 (List.replicate n (.int .i64 0))) :=
  Lib.run_clear_slice w 22 3 ty (.int .i64 0) Try.underlying22 zeroInt rfl rfl g 0 n c hn (fun j hj => by rw [Nat.zero_add, (h j hj).1]; rfl) (fun j hj => by rw [Nat.zero_add]; exact (h j hj).2.1)
theorem kept_setCells (g : Nat) : ∀ (vs : List Value) (o : Nat) (w : World), Kept (· = g) w (w.setCells g o vs)
  | [], _, w => Kept.refl _ w
  | v :: vs, o, w => (Kept.setCell w ⟨g, o, none⟩ v).trans (kept_setCells g vs (o + 1) _)
theorem rw_cleared {w : World} {g n : Nat} {f : Nat → Int} (h : Rw w g n f) : Rw (w.setCells g 0 (List.replicate n (.int .i64 0))) g n (fun _ => 0) := fun t ht => by
  have q := World.cell?_setCells_in g (List.replicate n (.int .i64 0)) 0 w (fun j hj => by rw [Nat.zero_add, (h j (by simpa using hj)).1]; rfl) t (by simpa using ht)
  rw [Nat.zero_add] at q
  refine ⟨by rw [q]; simp, ?_, by unfold bd; constructor <;> simp⟩
  rw [World.frozen?_setCells]
  exact (h t ht).2.1
end Vo
end Go.Proofs.Ytejfodkobfdelaa

/- linewise of the program. -/
namespace Go.Proofs.Ytejfodkobfdelaa
namespace Vo
open Go.ChangeShapes Go.WideShapes Go.ChangeAt Go.RowKit Go.Joins
open Vl Vp Vr
set_option linter.unusedVariables false
set_option linter.unusedSimpArgs false

/-- a line of what comes out: the numbers of t that belong to place j -/
def lineAt (S : Nat → Int) (l b n : Int) (j : Int) : Nat → Int := fun t => S (mv l b n t j).toNat
/-- what comes of lines -/
def lineP (r s : Nat) (D S : Nat → Int) (x n : Int) (G : (Nat → Int) → Nat → Int) : PT :=
  if (tok r s D S = true ∧ 0 ≤ x ∧ x < r) ∧ dok r (up1 D x.toNat n) = true then
    ⟨r, cntT r (up1 D x.toNat n), up1 D x.toNat n, fun j => G (lineAt S (D x.toNat) (bhd D r x.toNat) n j) ((j : Int) / bhd D r x.toNat % n).toNat⟩ else PT.zero
theorem lineP_no {r s : Nat} {D S : Nat → Int} {x n : Int} {G : (Nat → Int) → Nat → Int} (h : ¬ ((tok r s D S = true ∧ 0 ≤ x ∧ x < r) ∧ dok r (up1 D x.toNat n) = true)) : lineP r s D S x n G = PT.zero := by unfold lineP; rw [if_neg h]
theorem lineP_yes {r s : Nat} {D S : Nat → Int} {k : Nat} {n : Int} {G : (Nat → Int) → Nat → Int} (h : tok r s D S = true) (hk : k < r) (hd : dok r (up1 D k n) = true) :
    lineP r s D S (k : Int) n G = ⟨r, cntT r (up1 D k n), up1 D k n, fun j => G (lineAt S (D k) (bhd D r k) n j) ((j : Int) / bhd D r k % n).toNat⟩ := by
  unfold lineP; rw [if_pos ⟨⟨h, by omega, by omega⟩, by rw [Int.toNat_natCast]; exact hd⟩, Int.toNat_natCast]
theorem lineP_le (r s : Nat) (D S : Nat → Int) (x n : Int) (G : (Nat → Int) → Nat → Int) : (lineP r s D S x n G).r ≤ r ∧ (((lineP r s D S x n G).s : Nat) : Int) ≤ 4096 := by
  unfold lineP
  split
  · exact ⟨Nat.le_refl _, cntT_le _ _⟩
  · exact ⟨Nat.zero_le _, by simp [PT.zero]⟩
/-- what a function value does with a line -/
def LineF (F : Nat) (caps : Array Value) (len N : Nat) (G : (Nat → Int) → Nat → Int) (w : World) : Prop :=
  ∀ (W : World) (g m : Nat) (L : Nat → Int), Below w.heap.size w W → w.heap.size ≤ g → w.heap.size ≤ m → g ≠ m → WI len L 2147483647 → Rw W g len L → Rw W m N (fun _ => 0) →
    Calls Try.prog F (#[.slice (some ⟨g, 0, none⟩) len len, .slice (some ⟨m, 0, none⟩) N N] ++ caps) W fun e W' => (∃ v, e = .returned v) ∧ Rw W' m N (G L) ∧ Kept (· = m) W W'
theorem dok_pr {r : Nat} {D : Nat → Int} (h : dok r D = true) : szR D r = pr D r ∧ ∀ j, j < r → 1 ≤ D j := by
  have := (dok_iff.1 h).2
  rcases szR_cases D r with q | ⟨q1, q2, _⟩
  · omega
  · exact ⟨q2, q1⟩
theorem behind_size {r k : Nat} {D : Nat → Int} (h : dok r D = true) (hk : k < r) : sz (r - (k + 1)) (fun t => D (k + 1 + t)) = bhd D r k := by
  have r6 := (dok_iff.1 h).1
  unfold sz
  rw [if_neg (by omega), tail_size hk h, bh_seg D r (r - 1 - k) (by omega)]
  unfold bhd
  rw [show r - 1 - k = r - (k + 1) by omega, show r - (r - (k + 1)) = k + 1 by omega]
theorem ite_iff {P Q : Prop} [Decidable P] [Decidable Q] (h : P ↔ Q) (a b : Int) : (if P then a else b) = if Q then a else b := by
  by_cases c : P
  · rw [if_pos c, if_pos (h.1 c)]
  · rw [if_neg c, if_neg (fun q => c (h.2 q))]
/-- line number i -/
def LN (S : Nat → Int) (l b i : Int) : Nat → Int := fun u => S ((i / b * l + u) * b + i % b).toNat
theorem lineAt_eq {S : Nat → Int} {l b n i p : Int} (hb : 1 ≤ b) (h : lnb b n p = i) : lineAt S l b n p = LN S l b i := by
  have q := lnb_parts (n := n) (j := p) hb
  rw [h] at q
  unfold lineAt LN mv
  rw [q.1, q.2]
/-- what stands in what comes out, ahead of line i's place t -/
def outF (V : Nat → Int) (b n i t : Int) : Nat → Int := fun p => if lnb b n p < i ∨ (lnb b n p = i ∧ (p : Int) / b % n < t) then V p else 0
theorem outF_next {V : Nat → Int} {b n i : Int} (hn : 1 ≤ n) (p : Nat) : outF V b n (i + 1) 0 p = outF V b n i n p := by
  have h1 := Int.emod_lt_of_pos ((p : Int) / b) (show 0 < n by omega)
  have h2 := Int.emod_nonneg ((p : Int) / b) (show n ≠ 0 by omega)
  unfold outF
  exact ite_iff (by generalize lnb b n p = x; omega) _ _
theorem outF_zero {V : Nat → Int} {b n : Int} (hb : 1 ≤ b) (hn : 1 ≤ n) (p : Nat) : outF V b n 0 0 p = 0 := by
  have h2 := Int.emod_nonneg ((p : Int) / b) (show n ≠ 0 by omega)
  have q0 : 0 ≤ (p : Int) / (n * b) := Int.ediv_nonneg (by omega) (Int.mul_nonneg (by omega) (by omega))
  have m0 := Int.emod_nonneg (p : Int) (show b ≠ 0 by omega)
  have t2 : 0 ≤ lnb b n p := by unfold lnb; have := Int.mul_nonneg q0 (show 0 ≤ b by omega); omega
  unfold outF
  exact if_neg (by omega)
theorem outF_last {V : Nat → Int} {b n M : Int} {p : Nat} (h : lnb b n p < M) : outF V b n M 0 p = V p := by
  unfold outF
  exact if_pos (.inl h)
theorem outF_step {V : Nat → Int} {b n i t : Int} {p0 : Nat} (hb : 1 ≤ b) (hn : 1 ≤ n) (ht : 0 ≤ t) (ht2 : t < n) (h : (p0 : Int) = (i / b * n + t) * b + i % b) (p : Nat) :
    outF V b n i (t + 1) p = if p = p0 then V p0 else outF V b n i t p := by
  have q := line_at (j := (p : Int)) (m := i) hb hn ht ht2
  by_cases c : p = p0
  · subst c
    rw [if_pos rfl]
    have := q.1 h
    unfold outF
    exact if_pos (.inr (by omega))
  · rw [if_neg c]
    have : ¬ (lnb b n p = i ∧ (p : Int) / b % n = t) := fun e => c (by have := q.2 e; omega)
    unfold outF
    exact ite_iff (by generalize lnb b n p = x at *; generalize (p : Int) / b % n = y at *; omega) _ _
/-- the numbers that a line's walk meets -/
theorem line_num {A l b i u q r : Nat} (hq : i / b = q) (hr : i % b = r) (hb : 1 ≤ b) (hi : i < A * b) (hu : u < l) : (q * l + u) * b + r < A * l * b ∧ q * l ≤ A * l * b ∧ (q * l + u) * b ≤ A * l * b := by
  have h1 : q < A := by rw [← hq]; exact Nat.div_lt_of_lt_mul (by rw [Nat.mul_comm]; exact hi)
  have h2 : r < b := by rw [← hr]; exact Nat.mod_lt _ (by omega)
  have t1 : (q + 1) * l ≤ A * l := Nat.mul_le_mul_right _ h1
  rw [Nat.add_mul] at t1
  have t3 : (q * l + u + 1) * b ≤ A * l * b := Nat.mul_le_mul_right _ (by omega)
  rw [Nat.add_mul (q * l + u)] at t3
  have t4 : A * l * 1 ≤ A * l * b := Nat.mul_le_mul_left _ hb
  omega
theorem LN_nat {S : Nat → Int} {l b i u q r : Nat} (hq : i / b = q) (hr : i % b = r) : LN S (l : Int) (b : Int) (i : Int) u = S ((q * l + u) * b + r) := by
  unfold LN
  rw [← hq, ← hr]
  congr 1
theorem rows2 (w : World) (l n : Nat) (t : TypeId) : Rw ((w.alloc (.cells (madeCells #[.int .i64 0] l) t)).alloc (.cells (madeCells #[.int .i64 0] n) t)) w.heap.size l (fun _ => 0) ∧ Rw ((w.alloc (.cells (madeCells #[.int .i64 0] l) t)).alloc (.cells (madeCells #[.int .i64 0] n) t)) (w.heap.size + 1) n (fun _ => 0) ∧ Below w.heap.size w ((w.alloc (.cells (madeCells #[.int .i64 0] l) t)).alloc (.cells (madeCells #[.int .i64 0] n) t)) := by
  refine ⟨(rw_new w l t).below ((Below.refl (w.heap.size + 1) _).alloc (by simp) _) (by omega), ?_, ((Below.refl _ _).alloc (Nat.le_refl _) _).alloc (by simp) _⟩
  have q := rw_new (w.alloc (.cells (madeCells #[.int .i64 0] l) t)) n t
  rwa [World.size_alloc] at q
theorem rw_drew {w : World} {g n : Nat} {f : Nat → Int} (h : Rw w g n f) : Rw w.drew g n f := h
theorem tail_ints {B : Nat} {w : World} {a : Option Addr} {r k : Nat} {D : Nat → Int} (h : Ints B w a r D) (hk : k < r) : Ints B w (Option.map (fun x => { block := x.block, off := x.off + (k + 1), spot := none }) a) (r - (k + 1)) (fun t => D (k + 1 + t)) := by
  rcases h with h | ⟨b, off, rfl, hb, hc⟩
  · omega
  · refine .inr ⟨b, off + (k + 1), rfl, hb, fun j hj => ?_⟩
    have := hc (k + 1 + j) (by omega)
    rwa [show off + (k + 1 + j) = off + (k + 1) + j by omega] at this
end Vo
end Go.Proofs.Ytejfodkobfdelaa
