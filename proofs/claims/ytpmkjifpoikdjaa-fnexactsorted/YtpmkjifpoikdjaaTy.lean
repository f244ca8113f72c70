/- Scatter of the model. -/
import Derived.Test.YtpmkjifpoikdjaaTx
import Derived.Deep.RegionHeld3
namespace Go.Proofs.Ytpmkjifpoikdjaa
namespace Vo
open Go.ChangeShapes Go.WideShapes Go.ChangeAt Go.RowKit Go.Joins Go.Sort
open Vl Vp Vr
set_option linter.unusedVariables false
set_option linter.unusedSimpArgs false

theorem scaP_axis {r s q : Nat} {D S I : Nat → Int} {x n : Int} (h : ¬ (tok r s D S = true ∧ 0 ≤ x ∧ x < r)) : scaP r s q D S I x n = PT.zero := by
  unfold scaP
  split
  · exact lineP_no (fun e => h e.1)
  · rfl
theorem scaP_dims {r s q k : Nat} {D S I : Nat → Int} {n : Int} (h : dok r (up1 D k n) = false) : scaP r s q D S I (k : Int) n = PT.zero := by
  unfold scaP
  split
  · exact lineP_no (fun e => by rw [Int.toNat_natCast, h] at e; exact absurd e.2 (by decide))
  · rfl
/-- of the first ones, those that belong to p and whose place is below j, added up -/
def scaB (I X A : Nat → Int) (p j : Int) : Nat → Int | 0 => 0 | t + 1 => if I t = p ∧ A t < j then (scaB I X A p j t + X t) % 2147483647 else scaB I X A p j t
theorem scaB_rng (I X A : Nat → Int) (p j : Int) (n : Nat) : 0 ≤ scaB I X A p j n ∧ scaB I X A p j n < 2147483647 := by
  induction n with
  | zero => simp [scaB]
  | succ n ih => unfold scaB; split <;> omega
theorem scaB_yes {I X A : Nat → Int} {p j : Int} {t : Nat} (h : I t = p ∧ A t < j) : scaB I X A p j (t + 1) = (scaB I X A p j t + X t) % 2147483647 := by show (if I t = p ∧ A t < j then _ else _) = _; rw [if_pos h]
theorem scaB_no {I X A : Nat → Int} {p j : Int} {t : Nat} (h : ¬ (I t = p ∧ A t < j)) : scaB I X A p j (t + 1) = scaB I X A p j t := by show (if I t = p ∧ A t < j then _ else _) = _; rw [if_neg h]
theorem scaB_zero {I X A : Nat → Int} {p : Int} {q : Nat} (h : ∀ t, t < q → 0 ≤ A t) : scaB I X A p 0 q = 0 := by
  induction q with
  | zero => rfl
  | succ q ih => rw [scaB_no (fun e => by have := h q (by omega); omega)]; exact ih (fun t ht => h t (by omega))
theorem scaB_all {I X A : Nat → Int} {p j : Int} {q : Nat} (h : ∀ t, t < q → A t < j) : scaB I X A p j q = scaS I X p q := by
  induction q with
  | zero => rfl
  | succ q ih =>
    have ih := ih (fun t ht => h t (by omega))
    by_cases c : I q = p
    · rw [scaB_yes ⟨c, h q (by omega)⟩, scaS_yes c, ih]
    · rw [scaB_no (fun e => c e.1), scaS_no c, ih]
theorem scaB_same {I X A : Nat → Int} {p j : Int} {q : Nat} (h : ∀ t, t < q → ¬ (I t = p ∧ A t = j)) : scaB I X A p (j + 1) q = scaB I X A p j q := by
  induction q with
  | zero => rfl
  | succ q ih =>
    have ih := ih (fun t ht => h t (by omega))
    have hq := h q (by omega)
    by_cases c : I q = p ∧ A q < j
    · rw [scaB_yes c, scaB_yes ⟨c.1, by omega⟩, ih]
    · rw [scaB_no c, scaB_no (fun e => by rcases e with ⟨e1, e2⟩; by_cases e3 : A q = j; exact hq ⟨e1, e3⟩; exact c ⟨e1, by omega⟩), ih]
theorem scaB_next {I X A : Nat → Int} {p j : Int} {q t0 : Nat} (mono : ∀ t u, t < u → A t < A u) (h0 : t0 < q) (hI : I t0 = p) (hA : A t0 = j) : scaB I X A p (j + 1) q = (scaB I X A p j q + X t0) % 2147483647 := by
  induction q with
  | zero => omega
  | succ q ih =>
    by_cases c : t0 = q
    · subst c
      rw [scaB_yes ⟨hI, by omega⟩, scaB_no (fun e => by omega), scaB_same (fun t ht e => by have := mono t t0 ht; omega)]
    · have m := mono t0 q (by omega)
      rw [scaB_no (fun e => by omega), scaB_no (fun e => by omega)]
      exact ih (by omega)
/-- what stands at place p when the places below j have been added -/
def scaJ (S I : Nat → Int) (q : Nat) (b n : Int) (j : Int) (p : Nat) : Int := scaB I (lineAt S (q : Int) b n p) (fun t => mv (q : Int) b n t p) ((p : Int) / b % n) j q
theorem scaJ_rng (S I : Nat → Int) (q : Nat) (b n j : Int) (p : Nat) : 0 ≤ scaJ S I q b n j p ∧ scaJ S I q b n j p < 2147483647 := scaB_rng _ _ _ _ _ _
theorem mv_mono {l b n j : Int} (hb : 1 ≤ b) {t u : Nat} (h : t < u) : mv l b n (t : Int) j < mv l b n (u : Int) j := by
  unfold mv
  have : (j / (n * b) * l + t) * b < (j / (n * b) * l + u) * b := Int.mul_lt_mul_of_pos_right (by omega) (by omega)
  omega
theorem scaJ_zero {S I : Nat → Int} {q : Nat} {b n : Int} (hb : 1 ≤ b) (hn : 1 ≤ n) (p : Nat) : scaJ S I q b n 0 p = 0 := by
  refine scaB_zero (fun t ht => ?_)
  have nb : 1 ≤ n * b := by have := Int.mul_le_mul hn hb (by omega) (by omega); omega
  have q0 : 0 ≤ (p : Int) / (n * b) := Int.ediv_nonneg (by omega) (by omega)
  have m0 := Int.emod_nonneg (p : Int) (show b ≠ 0 by omega)
  have t0 : 0 ≤ (p : Int) / (n * b) * q := Int.mul_nonneg q0 (by omega)
  have t2 : 0 ≤ ((p : Int) / (n * b) * q + t) * b := Int.mul_nonneg (by omega) (by omega)
  show 0 ≤ mv (q : Int) b n t p
  unfold mv
  omega
theorem scaJ_all {S I : Nat → Int} {q p : Nat} {b n A : Int} {s : Int} (hb : 1 ≤ b) (hn : 1 ≤ n) (hq : 1 ≤ q) (hs : s = A * q * b) (hp : (p : Int) < A * n * b) : scaJ S I q b n s p = scaS I (lineAt S (q : Int) b n p) ((p : Int) / b % n) q :=
  scaB_all (fun t ht => by rw [hs]; exact (mv_rng hb hn (by omega) (by omega) (by omega) hp).2)
theorem scaJ_step {S I : Nat → Int} {q k0 iv p0 j : Nat} {b n : Int} (hb : 1 ≤ b) (hn : 1 ≤ n) (hq : 1 ≤ q) (e0 : (j : Int) / b % (q : Int) = k0) (e1 : I k0 = iv) (hiv : (iv : Int) < n) (e2 : mv n b q iv j = p0) :
    scaJ S I q b n ((j + 1 : Nat) : Int) p0 = (scaJ S I q b n j p0 + S j) % 2147483647 ∧ ∀ p : Nat, p ≠ p0 → scaJ S I q b n ((j + 1 : Nat) : Int) p = scaJ S I q b n j p := by
  have m0 := Int.emod_nonneg (j : Int) (show b ≠ 0 by omega)
  have m1 := Int.emod_lt_of_pos (j : Int) (show 0 < b by omega)
  have hk0 : k0 < q := by have := Int.emod_lt_of_pos ((j : Int) / b) (show (0 : Int) < q by omega); omega
  have bk := part_back (q : Int) b (j : Int) (by omega) hb
  rw [e0] at bk
  have cj : (((j + 1 : Nat) : Int)) = (j : Int) + 1 := by omega
  rw [cj]
  constructor
  · have p3 := part3 (n := n) (b := b) (x := (j : Int) / (q * b)) (k := (iv : Int)) (q := (j : Int) % b) hb (by omega) hiv m0 m1
    have e2' : ((j : Int) / (q * b) * n + iv) * b + (j : Int) % b = p0 := e2
    rw [e2'] at p3
    have eA : mv (q : Int) b n k0 p0 = j := by unfold mv; rw [p3.1, p3.2.2]; exact bk
    have st := scaB_next (I := I) (X := lineAt S (q : Int) b n p0) (A := fun t => mv (q : Int) b n t p0) (p := (p0 : Int) / b % n) (j := (j : Int)) (q := q) (t0 := k0) (fun t u h => mv_mono hb h) hk0 (by rw [p3.2.1, e1]) eA
    have e3 : lineAt S (q : Int) b n p0 k0 = S j := by unfold lineAt; rw [eA, Int.toNat_natCast]
    rw [e3] at st
    exact st
  · intro p hp
    refine scaB_same (fun t ht e => hp ?_)
    obtain ⟨f1, f2⟩ := e
    have f2 : ((p : Int) / (n * b) * q + t) * b + (p : Int) % b = j := f2
    have n0 := Int.emod_nonneg (p : Int) (show b ≠ 0 by omega)
    have n1 := Int.emod_lt_of_pos (p : Int) (show 0 < b by omega)
    have p3 := part3 (n := (q : Int)) (b := b) (x := (p : Int) / (n * b)) (k := (t : Int)) (q := (p : Int) % b) hb (by omega) (by omega) n0 n1
    rw [f2] at p3
    have et : t = k0 := by omega
    subst et
    have pb := part_back n b (p : Int) hn hb
    rw [← f1, e1, ← p3.1, ← p3.2.2] at pb
    have e2' : ((j : Int) / (q * b) * n + iv) * b + (j : Int) % b = p0 := e2
    omega
set_option maxHeartbeats 1000000 in
theorem l4Set (B : Nat) (a c : Option Addr) (r s cap dap q cap' g p : Nat) (D F I : Nat → Int) (y : Int) (w : World) (hB : B ≤ w.heap.size) (h : Ints B w a r D) (h' : Ints B w c q I) (hq : r ≤ q) (td : dok r D = true) (ts : szR D r = s) (hi : ∀ j, j < r → 0 ≤ I j ∧ I j < D j) (hp : od D I r = p) (rg : Rw w g s F) (lg : g < w.heap.size) (hy : bd y) :
    Calls Try.prog 41 #[.agg #[.slice a r cap, .slice (some ⟨g, 0, none⟩) s dap], .slice c q cap', .int .i64 y] w fun e w' => (∃ v, e = .returned v) ∧ Rw w' g s (fun t => if t = p then y else F t) ∧ Kept (· = g) w w' := by
  have od1 := od_rng D I r hi
  have ps : p < s := by have := (dok_pr td).1; omega
  have s4 : (s : Int) ≤ 4096 := by rw [← ts]; exact (szR_rng D r).2
  have pI : (p : Int) < s := by omega
  obtain ⟨W0, hW0⟩ : ∃ W0, w.alloc (.cells #[.slice a r cap, .slice (some ⟨g, 0, none⟩) s dap] 37) = W0 := ⟨_, rfl⟩
  have bl : Below w.heap.size w W0 := by rw [← hW0]; exact (Below.refl _ _).alloc (Nat.le_refl _) _
  have z0 : W0.heap.size = w.heap.size + 1 := by rw [← hW0]; simp
  have n0 : Bx W0 w.heap.size (.slice a r cap) (.slice (some ⟨g, 0, none⟩) s dap) := by rw [← hW0]; exact bx_new w _ _ _
  have H := hide (h.below (bl.mono hB))
  have H' := hide (h'.below (bl.mono hB))
  have RG := hide (rg.below bl lg)
  have BL := hide bl
  have N0 := hide n0
  have HP := hide hp
  have HI := hide hi
  have TD := hide td
  have HY := hide hy
  have Z0 := hide z0
  obtain ⟨x0, x1⟩ := n0
  clear h h' rg bl hp hi td hy od1 z0 ts
  go_enter Try.func41, Try.ntmps41
  go_wp2_with fail
  clear hW0
  go_region_with (first
    | (go_at_call 65
       refine (l3Order B a c r cap q cap' D I W0.drew (by have := Z0.out; show B ≤ W0.heap.size; omega) H.out H'.out hq TD.out HI.out).mono ?_
       rintro e w1 ⟨rfl, b1⟩
       rw [HP.out]
       have RG1 := hide (Rw.below (w := W0.drew) RG.out b1 (by have := Z0.out; show g < W0.heap.size; omega))
       have N1 := hide (Bx.below (w := W0.drew) N0.out b1 (by have := Z0.out; show w.heap.size < W0.heap.size; omega))
       obtain ⟨k0, k1⟩ := N1.out
       obtain ⟨c1, f1, _⟩ := RG1.out p ps))
  all_goals (go_wp2_with fail)
  all_goals exact bodyPost_end (results_none rfl _ _ _) rfl ⟨⟨_, rfl⟩, RG1.out.set p y HY.out, ((Kept.of_below BL.out).trans (Kept.of_below ((Below.refl _ _).drew.trans b1))).trans (Kept.setCell _ ⟨g, p, none⟩ _)⟩
end Vo
end Go.Proofs.Ytpmkjifpoikdjaa
