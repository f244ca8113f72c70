/- Which life is placed next: the model. -/
import Derived.Test.YtbdcbanbnbaoiaaHg
namespace Go.Proofs.Ytbdcbanbnbaoiaa
namespace Vo
open Go.ChangeShapes Go.WideShapes Go.ChangeAt Go.RowKit Go.Joins Go.Sort
open Vl Vp
set_option linter.unusedVariables false
set_option linter.unusedSimpArgs false
/-- life x is better than life y -/
def btr (x y : MV) : Prop := y.s < x.s ∨ (x.s = y.s ∧ x.f < y.f)
instance (x y : MV) : Decidable (btr x y) := by unfold btr; infer_instance
theorem btr_ky {x y : MV} (hx : MOk x) (hy : MOk y) : btr x y ↔ kyM x < kyM y := by
  have h1 := hx.1; have h2 := hx.2; have h3 := hy.1; have h4 := hy.2
  unfold btr kyM
  omega
/-- the best of the first m that are not placed -/
def nxt (C : Nat → MV) (O : Nat → Int) : Nat → Int
  | 0 => -1
  | m + 1 => if 0 ≤ O m then nxt C O m else if nxt C O m < 0 ∨ btr (C m) (C (nxt C O m).toNat) then (m : Int) else nxt C O m
theorem nxt_char {n : Nat} {C : Nat → MV} {O : Nat → Int} (hL : LOk n C) : ∀ m, m ≤ n → (nxt C O m = -1 ∧ ∀ p, p < m → 0 ≤ O p) ∨ ∃ p, p < m ∧ nxt C O m = (p : Int) ∧ O p < 0 ∧ ∀ q, q < m → O q < 0 → q ≠ p → So.lt (keyM C) p q
  | 0, _ => .inl ⟨rfl, fun p hp => by omega⟩
  | m + 1, hm => by
    rw [nxt]
    by_cases c : 0 ≤ O m
    · rw [if_pos c]
      rcases nxt_char hL m (by omega) with ⟨a, b⟩ | ⟨p, p1, p2, p3, p4⟩
      · exact .inl ⟨a, fun p hp => by rcases Nat.lt_or_ge p m with e | e; exact b p e; obtain rfl : p = m := by omega
                                      exact c⟩
      · exact .inr ⟨p, by omega, p2, p3, fun q hq h0 hne => by rcases Nat.lt_or_ge q m with e | e; exact p4 q e h0 hne; obtain rfl : q = m := by omega
                                                               omega⟩
    · rw [if_neg c]
      rcases nxt_char hL m (by omega) with ⟨a, b⟩ | ⟨p, p1, p2, p3, p4⟩
      · have e0 : nxt C O m < 0 := by rw [a]; decide
        rw [if_pos (Or.inl e0)]
        refine .inr ⟨m, by omega, rfl, by omega, fun q hq h0 hne => ?_⟩
        have := b q (by omega)
        omega
      · rw [p2, Int.toNat_natCast]
        have mp := hL.2 p (by omega)
        have mm := hL.2 m (by omega)
        have kk := btr_ky mm mp
        by_cases d : btr (C m) (C p)
        · rw [if_pos (.inr d)]
          refine .inr ⟨m, by omega, rfl, by omega, fun q hq h0 hne => ?_⟩
          have l1 : So.lt (keyM C) m p := .inl (by unfold keyM; rw [Int.toNat_natCast, Int.toNat_natCast]; exact kk.1 d)
          by_cases e : q = p
          · subst e; exact l1
          · exact So.lt_trans l1 (p4 q (by omega) h0 e)
        · rw [if_neg (by intro h; rcases h with h | h; omega; exact d h)]
          refine .inr ⟨p, by omega, rfl, p3, fun q hq h0 hne => ?_⟩
          rcases Nat.lt_or_ge q m with e | e
          · exact p4 q e h0 hne
          · obtain rfl : q = m := by omega
            have : ¬ kyM (C q) < kyM (C p) := fun h => d (kk.2 h)
            unfold So.lt keyM
            rw [Int.toNat_natCast, Int.toNat_natCast]
            omega
theorem nxt_ord {n d : Nat} {C : Nat → MV} (hL : LOk n C) (h : PkI n C d) (hd : d < n) : nxt C (pkO n C d) n = (So.ord (keyM C) n d : Nat) := by
  have oi := So.ord_is (K := keyM C) hd
  have un := h.no _ oi.1 (by omega)
  rcases nxt_char hL n (Nat.le_refl _) (O := pkO n C d) with ⟨a, b⟩ | ⟨p, p1, p2, p3, p4⟩
  · have := b _ oi.1; omega
  · by_cases e : So.ord (keyM C) n d = p
    · rw [p2, e]
    · have l := p4 _ oi.1 (by omega) e
      have r := So.rnk_lt (K := keyM C) (len := n) p1 l
      rw [oi.2] at r
      have := (h.rng (by omega) hL p p1).2.2.2 r
      omega
theorem nxt_end {n : Nat} {C : Nat → MV} (hL : LOk n C) (h : PkI n C n) : nxt C (pkO n C n) n = -1 := by
  rcases nxt_char hL n (Nat.le_refl _) (O := pkO n C n) with ⟨a, b⟩ | ⟨p, p1, p2, p3, p4⟩
  · exact a
  · have := (h.rng (Nat.le_refl _) hL p p1).2.2.2 (So.rnk_len p1); omega
set_option maxRecDepth 100000 in
set_option maxHeartbeats 8000000 in
theorem specNext (B : Nat) (a : Option Addr) (n cap : Nat) (C : Nat → MV) (oa : Option Addr) (ocap : Nat) (O : Nat → Int) (w : World) (hB : B ≤ w.heap.size) (h : LM B w a n C) (h' : Ints B w oa n O) (hL : LOk n C) :
    Calls Try.prog 21 #[.slice a n cap, .slice oa n ocap] w fun e w' => e = .returned (.int .i64 (nxt C O n)) ∧ Below w.heap.size w w' := by
  have H := hide h
  have H' := hide h'
  have HL := hide hL
  have n200 : (n : Int) ≤ 200 := by have := hL.1; omega
  clear h h' hL
  go_enter Try.func21, Try.ntmps21
  go_wp2_with fail
  go_loopw [5, 6] (fun v t wx => ∃ k : Nat, k ≤ n ∧ t = .int .i64 k ∧ v = .int .i64 (nxt C O k) ∧ Below w.heap.size w wx) (fun _ t _ => n - (intOf t).toNat)
  case atStart => exact ⟨0, Nat.zero_le _, rfl, rfl, Below.refl _ _⟩
  case round =>
    obtain ⟨Z, rfl⟩ : ∃ Z, Z = wr := ⟨_, rfl⟩
    obtain ⟨k, hk, rfl, rfl, hby⟩ := hrel
    have HBY := hide hby
    clear hby
    by_cases hlt : k < n
    case neg =>
      obtain rfl : k = n := by omega
      go_wp2_with fail
      go_ret
      exact ⟨rfl, HBY.out⟩
    have kI : (k : Int) < n := by omega
    have NC := hide (nxt_char (O := O) HL.out k (by omega))
    rcases H.out.below (HBY.out.mono hB) with h0 | ⟨b, off, rfl, hbB, hc⟩
    · omega
    obtain ⟨⟨_, c1, c2, _⟩, _⟩ := hc k hlt
    rcases H'.out.below (HBY.out.mono hB) with h0 | ⟨ob, oo, rfl, hob, hoc⟩
    · omega
    have p1 := (hoc k hlt).1
    obtain ⟨ok, hok⟩ : ∃ z, O k = z := ⟨_, rfl⟩
    rw [hok] at p1
    obtain ⟨v, hv⟩ : ∃ v, nxt C O k = v := ⟨_, rfl⟩
    have NX := hide (show nxt C O (k + 1) = if 0 ≤ ok then v else if v < 0 ∨ btr (C k) (C v.toNat) then (k : Int) else v by rw [nxt, hok, hv])
    rw [hv] at NC ⊢
    obtain ⟨x, hx⟩ : ∃ x, C k = x := ⟨_, rfl⟩
    rw [hx] at c1 c2 NX
    clear hoc hok hv hx
    by_cases t0 : 0 ≤ ok
    · have EN := hide (show nxt C O (k + 1) = v by rw [NX.out, if_pos t0])
      clear hc
      go_wp2_with fail
      go_roundw
      all_goals first
        | (simp only [intOf]; omega)
        | (simp [intOf]; omega)
        | exact ⟨k + 1, by omega, by go_num, by rw [EN.out], HBY.out⟩
    have t0' : decide (0 ≤ ok) = false := decide_eq_false t0
    rcases NC.out with ⟨rfl, _⟩ | ⟨p, pk, rfl, _, _⟩
    · have EN := hide (show nxt C O (k + 1) = k by rw [NX.out, if_neg t0, if_pos (.inl (by omega))])
      clear hc t0
      go_wp2_with fail
      go_quiet (fail)
      go_wp2_with fail
      go_roundw
      all_goals first
        | (simp only [intOf]; omega)
        | (simp [intOf]; omega)
        | exact ⟨k + 1, by omega, by go_num, by rw [EN.out], below_drewN HBY.out _⟩
    obtain ⟨⟨_, d1, d2, _⟩, _⟩ := hc p (by omega)
    obtain ⟨y, hy⟩ : ∃ y, C p = y := ⟨_, rfl⟩
    rw [hy] at d1 d2
    rw [Int.toNat_natCast, hy] at NX
    have pI : (p : Int) < n := by omega
    have pn : decide ((p : Int) < 0) = false := decide_eq_false (by omega)
    clear hc hy
    by_cases t1 : y.s < x.s
    · have EN := hide (show nxt C O (k + 1) = k by rw [NX.out, if_neg t0, if_pos (.inr (.inl t1))])
      have t1' : decide (y.s < x.s) = true := decide_eq_true t1
      clear t0
      go_wp2_with fail
      go_quiet (fail)
      go_wp2_with fail
      go_roundw
      all_goals first
        | (simp only [intOf]; omega)
        | (simp [intOf]; omega)
        | exact ⟨k + 1, by omega, by go_num, by rw [EN.out], below_drewN HBY.out _⟩
    have t1' : decide (y.s < x.s) = false := decide_eq_false t1
    by_cases t2 : x.s = y.s
    rotate_left
    · have EN := hide (show nxt C O (k + 1) = p by rw [NX.out, if_neg t0, if_neg (by unfold btr; omega)])
      have t2' : (x.s == y.s) = false := beq_eq_false_iff_ne.2 t2
      clear t0 t1 t2
      go_wp2_with fail
      go_quiet (fail)
      go_wp2_with fail
      go_roundw
      all_goals first
        | (simp only [intOf]; omega)
        | (simp [intOf]; omega)
        | exact ⟨k + 1, by omega, by go_num, by rw [EN.out], below_drewN HBY.out _⟩
    have t2' : (x.s == y.s) = true := beq_iff_eq.2 t2
    by_cases t3 : x.f < y.f
    · have EN := hide (show nxt C O (k + 1) = k by rw [NX.out, if_neg t0, if_pos (.inr (.inr ⟨t2, t3⟩))])
      have t3' : decide (x.f < y.f) = true := decide_eq_true t3
      clear t0 t1 t2
      go_wp2_with fail
      go_quiet (fail)
      go_wp2_with fail
      go_roundw
      all_goals first
        | (simp only [intOf]; omega)
        | (simp [intOf]; omega)
        | exact ⟨k + 1, by omega, by go_num, by rw [EN.out], below_drewN HBY.out _⟩
    · have EN := hide (show nxt C O (k + 1) = p by rw [NX.out, if_neg t0, if_neg (by unfold btr; omega)])
      have t3' : decide (x.f < y.f) = false := decide_eq_false t3
      clear t0 t1 t2 t3
      go_wp2_with fail
      go_quiet (fail)
      go_wp2_with fail
      go_roundw
      all_goals first
        | (simp only [intOf]; omega)
        | (simp [intOf]; omega)
        | exact ⟨k + 1, by omega, by go_num, by rw [EN.out], below_drewN HBY.out _⟩
end Vo
end Go.Proofs.Ytbdcbanbnbaoiaa
