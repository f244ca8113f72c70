/- Packing, plain: the first room that is free is the least place that is. -/
import Derived.Test.YtbdcbanbnbaoiaaHe
import Derived.Test.YtbdcbanbnbaoiaaHa
import Derived.Test.YtbdcbanbnbaoiaaMd
namespace Go.Proofs.Ytbdcbanbnbaoiaa
namespace Vo
open Vl Vp
set_option linter.unusedVariables false
set_option linter.unusedSimpArgs false
/-- the least place that was found among the ends of the first m -/
def bst (n : Nat) (C : Nat → MV) (O : Nat → Int) (i : Nat) : Nat → Int
  | 0 => if FreeOk n C O i 0 then 0 else -1
  | k + 1 => if 0 ≤ O k ∧ (bst n C O i k < 0 ∨ O k + (C k).s < bst n C O i k) ∧ FreeOk n C O i (O k + (C k).s) then O k + (C k).s else bst n C O i k
theorem bst_char (n : Nat) (C : Nat → MV) (O : Nat → Int) (i : Nat) (hs : ∀ k, k < n → 1 ≤ (C k).s) : ∀ m, m ≤ n → -1 ≤ bst n C O i m ∧ (0 ≤ bst n C O i m → FreeOk n C O i (bst n C O i m)) ∧ (FreeOk n C O i 0 → 0 ≤ bst n C O i m ∧ bst n C O i m ≤ 0) ∧ (∀ k, k < m → 0 ≤ O k → FreeOk n C O i (O k + (C k).s) → 0 ≤ bst n C O i m ∧ bst n C O i m ≤ O k + (C k).s)
  | 0, _ => by
    unfold bst
    by_cases c : FreeOk n C O i 0
    · rw [if_pos c]; exact ⟨by omega, fun _ => c, fun _ => ⟨by omega, by omega⟩, fun k hk => by omega⟩
    · rw [if_neg c]; exact ⟨by omega, fun h => by omega, fun h => absurd h c, fun k hk => by omega⟩
  | m + 1, hm => by
    obtain ⟨a1, a2, a3, a4⟩ := bst_char n C O i hs m (by omega)
    have s1 := hs m (by omega)
    unfold bst
    by_cases c : 0 ≤ O m ∧ (bst n C O i m < 0 ∨ O m + (C m).s < bst n C O i m) ∧ FreeOk n C O i (O m + (C m).s)
    · rw [if_pos c]
      refine ⟨by omega, fun _ => c.2.2, fun h => by have := a3 h; omega, fun k hk h0 h1 => ?_⟩
      by_cases e : k = m
      · subst e; omega
      · have := a4 k (by omega) h0 h1; omega
    · rw [if_neg c]
      refine ⟨a1, a2, a3, fun k hk h0 h1 => ?_⟩
      by_cases e : k = m
      · subst e
        have d : ¬ (bst n C O i k < 0 ∨ O k + (C k).s < bst n C O i k) := fun d => c ⟨h0, d, h1⟩
        omega
      · exact a4 k (by omega) h0 h1
/-- offsets when d have been placed: -1 for the rest -/
def pkO (n : Nat) (C : Nat → MV) : Nat → Nat → Int
  | 0 => fun _ => -1
  | d + 1 => fun p => if p = So.ord (keyM C) n d then bst n C (pkO n C d) (So.ord (keyM C) n d) n else pkO n C d p
/-- the peak when d have been placed -/
def pkP (n : Nat) (C : Nat → MV) : Nat → Int
  | 0 => 0
  | d + 1 => if pkP n C d < bst n C (pkO n C d) (So.ord (keyM C) n d) n + (C (So.ord (keyM C) n d)).s then bst n C (pkO n C d) (So.ord (keyM C) n d) n + (C (So.ord (keyM C) n d)).s else pkP n C d
/-- what is free for life i, when t of those that are placed have been asked -/
def frT (n : Nat) (C : Nat → MV) (O : Nat → Int) (i t : Nat) (x : Int) : Prop := ∀ q, q < t → meet (C (So.ord (keyM C) n q)) (C i) → ¬ (O (So.ord (keyM C) n q) ≤ x ∧ x < O (So.ord (keyM C) n q) + (C (So.ord (keyM C) n q)).s)
theorem ord_inj {K : Int → Int} {n q d : Nat} (h1 : q < n) (h2 : d < n) (h : So.ord K n q = So.ord K n d) : q = d := by
  have a := (So.ord_is (K := K) h1).2
  have b := (So.ord_is (K := K) h2).2
  rw [h] at a
  omega
theorem meet_iff (x y : MV) : meet x y ↔ meet y x := by unfold meet; omega
/-- offsets that can be, with d placed -/
structure PkI (n : Nat) (C : Nat → MV) (d : Nat) : Prop where
  yes : ∀ q, q < d → 0 ≤ pkO n C d (So.ord (keyM C) n q) ∧ pkO n C d (So.ord (keyM C) n q) + (C (So.ord (keyM C) n q)).s ≤ 4096 * d
  no : ∀ p, p < n → d ≤ So.rnk (keyM C) n p → pkO n C d p = -1
theorem PkI.rng {n d : Nat} {C : Nat → MV} (h : PkI n C d) (hd : d ≤ n) (hL : LOk n C) : ∀ p, p < n → -1 ≤ pkO n C d p ∧ pkO n C d p + (C p).s ≤ 4096 * n ∧ (0 ≤ pkO n C d p ↔ So.rnk (keyM C) n p < d) := fun p hp => by
  have s := (hL.2 p hp).1
  rcases Nat.lt_or_ge (So.rnk (keyM C) n p) d with c | c
  · have q := h.yes _ c
    rw [So.ord_rnk hp] at q
    have : (4096 : Int) * d ≤ 4096 * n := by omega
    exact ⟨by omega, by omega, by omega⟩
  · have q := h.no p hp c
    exact ⟨by omega, by omega, by omega⟩
theorem free_frT {n d i : Nat} {C : Nat → MV} {o : Int} (h : PkI n C d) (hd : d < n) (hL : LOk n C) (hi : i = So.ord (keyM C) n d) :
    FreeOk n C (pkO n C d) i o ↔ ∀ x, o ≤ x → x < o + (C i).s → frT n C (pkO n C d) i d x := by
  have hin := (So.ord_is (K := keyM C) hd).1
  have si := (hL.2 i (by rw [hi]; exact hin)).1
  constructor
  · intro hf x h1 h2 q hq hm hx
    have oq := So.ord_is (K := keyM C) (show q < n by omega)
    have y := h.yes q hq
    refine hf (So.ord (keyM C) n q) oq.1 (fun e => ?_) y.1 ⟨(meet_iff _ _).1 hm, ?_⟩
    · rw [hi] at e
      have := ord_inj (show q < n by omega) hd e
      omega
    · unfold lap; omega
  · intro hf k hk hne h0 hl
    obtain ⟨hm, hl⟩ := hl
    have r := (h.rng (by omega) hL k hk).2.2.1 h0
    have sk := (hL.2 k hk).1
    unfold lap at hl
    have e := So.ord_rnk (K := keyM C) hk
    by_cases c : o ≤ pkO n C d k
    · have := hf (pkO n C d k) c (by omega) _ r
      rw [e] at this
      exact this ((meet_iff _ _).1 hm) ⟨by omega, by omega⟩
    · have := hf o (by omega) (by omega) _ r
      rw [e] at this
      exact this ((meet_iff _ _).1 hm) ⟨by omega, by omega⟩
/-- the first room is the least place that is free -/
theorem first_is {n d m : Nat} {C : Nat → MV} {D : Nat → RV} (h : PkI n C d) (hd : d < n) (hL : LOk n C) (hF : Fre m D (frT n C (pkO n C d) (So.ord (keyM C) n d) d)) :
    0 < (kr (C (So.ord (keyM C) n d)).s D m).length ∧ fst0 (C (So.ord (keyM C) n d)).s D m = bst n C (pkO n C d) (So.ord (keyM C) n d) n ∧ 0 ≤ bst n C (pkO n C d) (So.ord (keyM C) n d) n ∧ bst n C (pkO n C d) (So.ord (keyM C) n d) n ≤ 4096 * d := by
  obtain ⟨i, hi⟩ : ∃ i, i = So.ord (keyM C) n d := ⟨_, rfl⟩
  rw [← hi] at hF ⊢
  have hin : i < n := by rw [hi]; exact (So.ord_is (K := keyM C) hd).1
  have si := (hL.2 i hin).1
  have n2 := hL.1
  obtain ⟨p0, p1, p2, p3, p4, p5⟩ := hF.first (z := (C i).s) (M := 4096 * d) si.1 (by omega) (by omega) (fun x hx q hq _ hh => by have := h.yes q hq; omega)
  obtain ⟨b1, b2, b3, b4⟩ := bst_char n C (pkO n C d) i (fun k hk => (hL.2 k hk).1.1) n (Nat.le_refl _)
  have f0 : FreeOk n C (pkO n C d) i (fst0 (C i).s D m) := (free_frT h hd hL hi).2 p3
  -- the first place is 0 or an end
  have le : 0 ≤ bst n C (pkO n C d) i n ∧ bst n C (pkO n C d) i n ≤ fst0 (C i).s D m := by
    rcases Int.lt_or_le 0 (fst0 (C i).s D m) with c | c
    · have nf := p5 c
      have pf := p3 (fst0 (C i).s D m) (by omega) (by omega)
      obtain ⟨q, hq, hm, ha, hb⟩ : ∃ q, q < d ∧ meet (C (So.ord (keyM C) n q)) (C i) ∧ pkO n C d (So.ord (keyM C) n q) ≤ fst0 (C i).s D m - 1 ∧ fst0 (C i).s D m - 1 < pkO n C d (So.ord (keyM C) n q) + (C (So.ord (keyM C) n q)).s := by
        apply Classical.byContradiction
        intro hx
        exact nf (fun q hq hm hh => hx ⟨q, hq, hm, hh.1, hh.2⟩)
      have pf' := pf q hq hm
      have e : fst0 (C i).s D m = pkO n C d (So.ord (keyM C) n q) + (C (So.ord (keyM C) n q)).s := by omega
      have oq := (So.ord_is (K := keyM C) (show q < n by omega)).1
      rw [e]
      exact b4 _ oq (h.yes q hq).1 (by rw [← e]; exact f0)
    · have e : fst0 (C i).s D m = 0 := by omega
      rw [e] at f0 ⊢
      exact b3 f0
  have ge := p4 (bst n C (pkO n C d) i n) le.1 (by omega) ((free_frT h hd hL hi).1 (b2 le.1))
  exact ⟨p0, by omega, le.1, by omega⟩
theorem PkI.zero (n : Nat) (C : Nat → MV) : PkI n C 0 := ⟨fun q hq => by omega, fun p hp _ => rfl⟩
theorem pk_old {n d q : Nat} {C : Nat → MV} (hd : d < n) (hq : q < n) (hne : q ≠ d) : pkO n C (d + 1) (So.ord (keyM C) n q) = pkO n C d (So.ord (keyM C) n q) := by
  show (if _ then _ else _) = _
  rw [if_neg (fun e => hne (ord_inj hq hd e))]
theorem pk_new (n d : Nat) (C : Nat → MV) : pkO n C (d + 1) (So.ord (keyM C) n d) = bst n C (pkO n C d) (So.ord (keyM C) n d) n := by
  show (if _ then _ else _) = _
  rw [if_pos rfl]
theorem PkI.next {n d : Nat} {C : Nat → MV} (h : PkI n C d) (hd : d < n) (hL : LOk n C) (h0 : 0 ≤ bst n C (pkO n C d) (So.ord (keyM C) n d) n) (h1 : bst n C (pkO n C d) (So.ord (keyM C) n d) n ≤ 4096 * d) : PkI n C (d + 1) := by
  refine ⟨fun q hq => ?_, fun p hp hr => ?_⟩
  · by_cases c : q = d
    · subst c
      rw [pk_new]
      have := (hL.2 _ (So.ord_is (K := keyM C) hd).1).1
      constructor <;> omega
    · rw [pk_old hd (by omega) c]
      have := h.yes q (by omega)
      constructor <;> omega
  · have e : p ≠ So.ord (keyM C) n d := fun e => by
      have := (So.ord_is (K := keyM C) hd).2
      rw [← e] at this
      omega
    show (if _ then _ else _) = _
    rw [if_neg e]
    exact h.no p hp (by omega)
/-- both peaks are the greatest end -/
def mxE (C : Nat → MV) (O : Nat → Int) : Nat → Int
  | 0 => 0
  | m + 1 => if mxE C O m < O m + (C m).s then O m + (C m).s else mxE C O m
theorem mxE_char (C : Nat → MV) (O : Nat → Int) : ∀ m, 0 ≤ mxE C O m ∧ (∀ k, k < m → O k + (C k).s ≤ mxE C O m) ∧ (mxE C O m = 0 ∨ ∃ k, k < m ∧ mxE C O m = O k + (C k).s)
  | 0 => ⟨Int.le_refl _, fun k hk => by omega, .inl rfl⟩
  | m + 1 => by
    obtain ⟨a1, a2, a3⟩ := mxE_char C O m
    unfold mxE
    by_cases c : mxE C O m < O m + (C m).s
    · rw [if_pos c]
      exact ⟨by omega, fun k hk => by rcases Nat.lt_or_ge k m with e | e; have := a2 k e; omega; obtain rfl : k = m := by omega
                                      omega, .inr ⟨m, by omega, rfl⟩⟩
    · rw [if_neg c]
      exact ⟨a1, fun k hk => by rcases Nat.lt_or_ge k m with e | e; exact a2 k e; obtain rfl : k = m := by omega
                                omega, by rcases a3 with e | ⟨k, k1, k2⟩; exact .inl e; exact .inr ⟨k, by omega, k2⟩⟩
theorem pkP_char (n : Nat) (C : Nat → MV) : ∀ d, d ≤ n → 0 ≤ pkP n C d ∧ (∀ q, q < d → pkO n C d (So.ord (keyM C) n q) + (C (So.ord (keyM C) n q)).s ≤ pkP n C d) ∧ (pkP n C d = 0 ∨ ∃ q, q < d ∧ pkP n C d = pkO n C d (So.ord (keyM C) n q) + (C (So.ord (keyM C) n q)).s)
  | 0, _ => ⟨Int.le_refl _, fun k hk => by omega, .inl rfl⟩
  | d + 1, hd => by
    obtain ⟨a1, a2, a3⟩ := pkP_char n C d (by omega)
    have old : ∀ q, q < d → pkO n C (d + 1) (So.ord (keyM C) n q) = pkO n C d (So.ord (keyM C) n q) := fun q hq => pk_old (by omega) (by omega) (by omega)
    have new := pk_new n d C
    by_cases c : pkP n C d < bst n C (pkO n C d) (So.ord (keyM C) n d) n + (C (So.ord (keyM C) n d)).s
    · have ee : pkP n C (d + 1) = bst n C (pkO n C d) (So.ord (keyM C) n d) n + (C (So.ord (keyM C) n d)).s := by rw [pkP, if_pos c]
      rw [ee]
      refine ⟨by omega, fun q hq => ?_, .inr ⟨d, by omega, by rw [new]⟩⟩
      by_cases e : q = d
      · subst e; rw [new]; omega
      · rw [old q (by omega)]; have := a2 q (by omega); omega
    · have ee : pkP n C (d + 1) = pkP n C d := by rw [pkP, if_neg c]
      rw [ee]
      refine ⟨a1, fun q hq => ?_, ?_⟩
      · by_cases e : q = d
        · subst e; rw [new]; omega
        · rw [old q (by omega)]; exact a2 q (by omega)
      · rcases a3 with e | ⟨q, q1, q2⟩
        · exact .inl e
        · exact .inr ⟨q, by omega, by rw [old q q1]; exact q2⟩
theorem peak_same (n : Nat) (C : Nat → MV) : mxE C (pkO n C n) n = pkP n C n := by
  obtain ⟨a1, a2, a3⟩ := mxE_char C (pkO n C n) n
  obtain ⟨b1, b2, b3⟩ := pkP_char n C n (Nat.le_refl _)
  have l1 : mxE C (pkO n C n) n ≤ pkP n C n := by
    rcases a3 with e | ⟨k, k1, k2⟩
    · omega
    · have := b2 _ (So.rnk_len (K := keyM C) k1)
      rw [So.ord_rnk k1] at this
      omega
  have l2 : pkP n C n ≤ mxE C (pkO n C n) n := by
    rcases b3 with e | ⟨q, q1, q2⟩
    · omega
    · have := a2 _ (So.ord_is (K := keyM C) q1).1
      omega
  omega
end Vo
end Go.Proofs.Ytbdcbanbnbaoiaa
