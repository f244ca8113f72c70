/- Texts of tensors, plain: what is read is what is shown. -/
import Derived.Test.YtbbmbgjjhaajjaaGreatDoorKa
import Derived.Test.YtbbmbgjjhaajjaaGreatDoorSc
import Derived.Test.YtbbmbgjjhaajjaaGreatDoorGuess
namespace Go.Proofs.YtbbmbgjjhaajjaaGreatDoor
namespace Vo
open Vl Vp Txt
set_option linter.unusedVariables false
set_option linter.unusedSimpArgs false
theorem ans_all (x : Int) : ∃ n d b, Rec.Ans x n d b := by
  by_cases h : ∃ n d, Rec.Hit x n d
  · have key : ∀ k : Nat, ∀ n d, Rec.Hit x n d → d.toNat ≤ k → ∃ n d, Rec.TF x (some (n, d)) := by
      intro k
      induction k with
      | zero => intro n d q hq; have := q.1; omega
      | succ k ih =>
        intro n d q hq
        by_cases hm : ∃ n' d', Rec.Hit x n' d' ∧ d' < d
        · obtain ⟨n', d', q', hlt⟩ := hm
          exact ih n' d' q' (by have := q'.1; omega)
        · exact ⟨n, d, q, fun n' d' q' => by
            rcases Int.lt_or_le d' d with c | c
            · exact absurd ⟨n', d', q', c⟩ hm
            · exact c⟩
    obtain ⟨n, d, q⟩ := h
    obtain ⟨n, d, t⟩ := key _ n d q (Nat.le_refl _)
    exact ⟨n, d, true, .inl ⟨rfl, t⟩⟩
  · exact ⟨0, 0, false, .inr ⟨rfl, rfl, rfl, fun n d q => h ⟨n, d, q⟩⟩⟩
theorem numT_shown {x : Int} (h0 : 0 ≤ x) (h1 : x < 2147483647) : Base.Shown (numT x) x := by
  obtain ⟨n, d, b, h⟩ := ans_all x
  exact ⟨h0, h1, n, d, b, h, numT_is h⟩
theorem shown_numT {l : List UInt8} {x : Int} (h : Base.Shown l x) : l = numT x := by
  obtain ⟨_, _, n, d, b, h, rfl⟩ := h
  exact (numT_is h).symm
theorem tok_three {r s : Nat} {D S : Nat → Int} (h : tok r s D S = true) : dok r D = true ∧ (s : Int) = szR D r ∧ WI s S 2147483647 := by
  unfold tok wi at h
  simp only [Bool.and_eq_true, decide_eq_true_eq] at h
  exact ⟨h.1.1, h.1.2, h.2⟩
/-- a byte of a number's text -/
def nb (c : UInt8) : Prop := c = 45 ∨ c = 47 ∨ c = 35 ∨ Dg c
theorem nb_is {c : UInt8} (h : nb c) : c ≠ 32 ∧ c ≠ 93 ∧ Lib.isSp c = false ∧ c.toNat < 128 := by
  rcases h with rfl | rfl | rfl | h
  · decide
  · decide
  · decide
  · have h1 := h.1
    have h2 := h.2
    have ne : ∀ k : UInt8, k.toNat < 48 ∨ 57 < k.toNat → c ≠ k := fun k hk e => by subst e; omega
    refine ⟨ne 32 (by decide), ne 93 (by decide), ?_, by omega⟩
    unfold Lib.isSp
    simp only [Bool.or_eq_false_iff, beq_eq_false_iff_ne]
    exact ⟨⟨⟨⟨⟨ne 9 (by decide), ne 10 (by decide)⟩, ne 11 (by decide)⟩, ne 12 (by decide)⟩, ne 13 (by decide)⟩, ne 32 (by decide)⟩
theorem itoa_nb (n : Int) : ∀ c ∈ Lib.itoa n, nb c := fun c h => by
  rcases Base.itoa_bytes n c h with e | e
  · exact .inl e
  · exact .inr (.inr (.inr e))
theorem itoa_ne (n : Int) : Lib.itoa n ≠ [] := by
  unfold Lib.itoa; split
  · simp
  · exact dec_ne _
theorem numT_nb (x : Int) : ∀ c ∈ numT x, nb c := by
  obtain ⟨n, d, b, h⟩ := ans_all x
  rw [numT_is h]
  intro c hc
  unfold Base.showL at hc
  split at hc
  · split at hc
    · exact itoa_nb n c hc
    · rcases List.mem_append.1 hc with q | q
      · exact itoa_nb n c q
      · rcases List.mem_cons.1 q with q | q
        · exact .inr (.inl q)
        · exact itoa_nb d c q
  · rcases List.mem_cons.1 hc with q | q
    · exact .inr (.inr (.inl q))
    · exact itoa_nb x c q
theorem wds_blanks {T : Nat → List UInt8} {n : Nat} (h : ∀ k, k < n → ∀ c ∈ T k, c ≠ 32) : wds (blanks T n) = [] :: (List.range n).map T := by
  induction n with
  | zero => rfl
  | succ n ih =>
    show wds (blanks T n ++ 32 :: T n) = _
    rw [wds_blank _ _ (h n (by omega)), ih (fun k hk => h k (by omega)), List.range_succ]
    simp
theorem wds_body {T : Nat → List UInt8} {n : Nat} (h : ∀ k, k < n + 1 → ∀ c ∈ T k, c ≠ 32) : wds (body T (n + 1)) = (List.range (n + 1)).map T := by
  induction n with
  | zero => rw [body_one, wds_one _ (h 0 (by omega))]; rfl
  | succ n ih =>
    rw [body_more T (by omega), wds_blank _ _ (h (n + 1) (by omega)), ih (fun k hk => h k (by omega)), show List.range (n + 1 + 1) = List.range (n + 1) ++ [n + 1] from List.range_succ, List.map_append]
    rfl
theorem mem_blanks {T : Nat → List UInt8} {n : Nat} {c : UInt8} (h : c ∈ blanks T n) : c = 32 ∨ ∃ k, k < n ∧ c ∈ T k := by
  induction n with
  | zero => simp [blanks] at h
  | succ n ih =>
    rcases List.mem_append.1 h with q | q
    · rcases ih q with e | ⟨k, hk, e⟩
      · exact .inl e
      · exact .inr ⟨k, by omega, e⟩
    · rcases List.mem_cons.1 q with q | q
      · exact .inl q
      · exact .inr ⟨n, by omega, q⟩
theorem mem_body {T : Nat → List UInt8} {n : Nat} {c : UInt8} (h : c ∈ body T n) : c = 32 ∨ ∃ k, k < n ∧ c ∈ T k := mem_blanks (List.mem_of_mem_drop h)
theorem blanks_small {T : Nat → List UInt8} {m n : Nat} (h : ∀ k, k < n → (T k).length ≤ m) : (blanks T n).length ≤ (m + 1) * n := by
  induction n with
  | zero => simp [blanks]
  | succ n ih =>
    have a := ih (fun k hk => h k (by omega))
    have b := h n (by omega)
    simp only [blanks, List.length_append, List.length_cons]
    rw [Nat.mul_succ]
    omega
/-- what a text is read as -/
def TR (l : List UInt8) (r s : Nat) (D S : Nat → Int) : Prop := tok r s D S = true ∧ l = 91 :: (body (fun k => Lib.itoa (D k)) r ++ 93 :: blanks (fun k => numT (S k)) s)
theorem tr_tenT {l : List UInt8} {r s : Nat} {D S : Nat → Int} (h : tok r s D S = true) : TR l r s D S ↔ tenT r s D S = l := by
  unfold TR tenT
  rw [if_pos h]
  exact ⟨fun q => q.2.symm, fun q => ⟨h, q.symm⟩⟩
/-- what the model finds in it -/
def MD (l : List UInt8) (e r s : Nat) (D S : Nat → Int) : Prop :=
  l[e]? = some 93 ∧ (∀ j, j < e → l[j]? ≠ some 93) ∧ l[0]? = some 91 ∧ (if 1 < e then wds ((l.take e).drop 1) = (List.range r).map (fun k => Lib.itoa (D k)) else r = 0) ∧ wds (l.drop (e + 1)) = [] :: (List.range s).map (fun k => numT (S k)) ∧ tok r s D S = true
theorem numT_short {x : Int} (h0 : 0 ≤ x) (h1 : x < 2147483647) : (numT x).length ≤ 12 := (Base.shown_specG (numT_shown h0 h1)).2.2
theorem numT_ne {x : Int} (h0 : 0 ≤ x) (h1 : x < 2147483647) : numT x ≠ [] := fun e => by
  have := (Base.shown_specG (numT_shown h0 h1)).2.1
  rw [e] at this
  simp at this
theorem itoa_dec (n : Nat) : Lib.itoa (n : Int) = Lib.decDigits n := by
  unfold Lib.itoa
  rw [if_neg (by omega)]
  simp
theorem itoa_short {n : Int} (h0 : 1 ≤ n) (h1 : n ≤ 4096) : (Lib.itoa n).length ≤ 4 := by
  obtain ⟨m, rfl⟩ : ∃ m : Nat, n = m := ⟨n.toNat, by omega⟩
  rw [itoa_dec]
  exact dec_short 3 m (by omega)
theorem szR_le {r : Nat} {D : Nat → Int} (h : dok r D = true) : szR D r ≤ 4096 := (szR_rng D r).2
theorem TR.md {l : List UInt8} {r s : Nat} {D S : Nat → Int} (h : TR l r s D S) : ∃ e, MD l e r s D S ∧ 2 ≤ l.length ∧ l.length ≤ 65536 := by
  obtain ⟨ht, rfl⟩ := h
  obtain ⟨hd, hs, hw⟩ := tok_three ht
  have hr6 := (dok_iff.1 hd).1
  have hs4 := szR_le hd
  have nD : ∀ k, k < r → ∀ c ∈ Lib.itoa (D k), c ≠ 32 := fun k _ c hc => (nb_is (itoa_nb _ c hc)).1
  have nS : ∀ k, k < s → ∀ c ∈ numT (S k), c ≠ 32 := fun k _ c hc => (nb_is (numT_nb _ c hc)).1
  have hb := blanks_small (T := fun k => numT (S k)) (m := 12) (n := s) (fun k hk => numT_short (hw k hk).1 (hw k hk).2)
  have hb2 := blanks_small (T := fun k => Lib.itoa (D k)) (m := 4) (n := r) (fun k hk => itoa_short (dok_len hd hk).1 (dok_len hd hk).2)
  have hbl : (body (fun k => Lib.itoa (D k)) r).length ≤ (blanks (fun k => Lib.itoa (D k)) r).length := by unfold body; rw [List.length_drop]; omega
  have n93 : ∀ c ∈ body (fun k => Lib.itoa (D k)) r, c ≠ 93 := fun c hc => by
    rcases mem_body hc with rfl | ⟨k, _, q⟩
    · decide
    · exact (nb_is (itoa_nb _ c q)).2.1
  have hbody : 0 < r → wds (body (fun k => Lib.itoa (D k)) r) = (List.range r).map (fun k => Lib.itoa (D k)) := fun h0 => by
    obtain ⟨n, rfl⟩ : ∃ n, r = n + 1 := ⟨r - 1, by omega⟩
    exact wds_body nD
  have hblank := wds_blanks (T := fun k => numT (S k)) nS
  have hz : body (fun k => Lib.itoa (D k)) 0 = [] := rfl
  have hne : 0 < r → body (fun k => Lib.itoa (D k)) r ≠ [] := fun h0 e => by
    have q := hbody h0
    rw [e] at q
    obtain ⟨n, rfl⟩ : ∃ n, r = n + 1 := ⟨r - 1, by omega⟩
    have q0 := congrArg (fun x => x[0]?) q
    simp [wds, sc] at q0
    exact itoa_ne _ q0
  generalize hB : body (fun k => Lib.itoa (D k)) r = b at *
  generalize hT : blanks (fun k => numT (S k)) s = t at *
  refine ⟨1 + b.length, ⟨?_, ?_, rfl, ?_, ?_, ht⟩, ?_, ?_⟩
  · rw [Nat.add_comm]; simp
  · intro j hj
    cases j with
    | zero => simp
    | succ j =>
      rw [List.getElem?_cons_succ, List.getElem?_append_left (by omega)]
      intro q
      exact n93 93 (List.mem_of_getElem? q) rfl
  · have e1 : ((91 :: (b ++ 93 :: t)).take (1 + b.length)).drop 1 = b := by rw [Nat.add_comm]; simp
    rw [e1]
    split
    · rename_i hlt
      refine hbody ?_
      rcases Nat.eq_zero_or_pos r with e0 | e0
      · subst e0
        rw [hz] at hB
        subst hB
        simp at hlt
      · exact e0
    · rename_i hlt
      rcases Nat.eq_zero_or_pos r with e0 | e0
      · exact e0
      · have := hne e0
        have : b.length ≠ 0 := fun q => this (List.length_eq_zero_iff.1 q)
        omega
  · have e1 : (91 :: (b ++ 93 :: t)).drop (1 + b.length + 1) = t := by
      rw [show 1 + b.length + 1 = (b.length + 1) + 1 by omega, List.drop_succ_cons, List.drop_append]
      simp
    rw [e1]
    exact hblank
  · simp only [List.length_cons, List.length_append]; omega
  · simp only [List.length_cons, List.length_append]; omega
theorem MD.tr {l : List UInt8} {e r s : Nat} {D S : Nat → Int} (h : MD l e r s D S) : TR l r s D S := by
  obtain ⟨h1, h2, h3, h4, h5, h6⟩ := h
  have nD : ∀ k, k < r → ∀ c ∈ Lib.itoa (D k), c ≠ 32 := fun k _ c hc => (nb_is (itoa_nb _ c hc)).1
  have nS : ∀ k, k < s → ∀ c ∈ numT (S k), c ≠ 32 := fun k _ c hc => (nb_is (numT_nb _ c hc)).1
  refine ⟨h6, ?_⟩
  cases l with
  | nil => simp at h3
  | cons a l =>
    have ha : a = 91 := by simpa using h3
    subst ha
    cases e with
    | zero => simp at h1
    | succ e =>
      rw [List.getElem?_cons_succ] at h1
      rw [List.take_succ_cons, List.drop_succ_cons, List.drop_zero] at h4
      rw [List.drop_succ_cons] at h5
      obtain ⟨hlt, hg⟩ := List.getElem?_eq_some_iff.1 h1
      have hl : l = l.take e ++ 93 :: l.drop (e + 1) := by
        have := List.drop_eq_getElem_cons hlt
        rw [hg] at this
        rw [← this, List.take_append_drop]
      have e1 : l.take e = body (fun k => Lib.itoa (D k)) r := by
        split at h4
        · rcases Nat.eq_zero_or_pos r with e0 | e0
          · subst e0
            have := wds_ne (l.take e)
            rw [h4] at this
            simp at this
          · obtain ⟨n, rfl⟩ : ∃ n, r = n + 1 := ⟨r - 1, by omega⟩
            exact wds_inj (h4.trans (wds_body nD).symm)
        · subst h4
          have : e = 0 := by omega
          subst this
          rfl
      have e2 : l.drop (e + 1) = blanks (fun k => numT (S k)) s := wds_inj (h5.trans (wds_blanks nS).symm)
      rw [← e1, ← e2, ← hl]
/-- the words of the model: of the dims, of the numbers; the dims -/
def Hl (l : List UInt8) (e : Nat) : List (List UInt8) := if 1 < e then wds ((l.take e).drop 1) else []
def Tl (l : List UInt8) (e : Nat) : List (List UInt8) := wds (l.drop (e + 1))
def Dm (l : List UInt8) (e : Nat) (k : Nat) : Int := (whole ((Hl l e).getD k []) : Nat)
theorem MD.first {l : List UInt8} {e e' r s : Nat} {D S : Nat → Int} (h : MD l e' r s D S) (h1 : l[e]? = some 93) (h2 : ∀ j, j < e → l[j]? ≠ some 93) : e' = e := by
  have a : ¬ e < e' := fun q => h.2.1 e q h1
  have b : ¬ e' < e := fun q => h2 e' q h.1
  omega
theorem MD.found {l : List UInt8} {e r s : Nat} {D S : Nat → Int} (h : MD l e r s D S) : (Hl l e).length = r ∧ (∀ k, k < r → Dm l e k = D k) ∧ (Tl l e).length = s + 1 ∧ (Tl l e).getD 0 [0] = [] ∧ ∀ k, k < s → Base.Shown ((Tl l e).getD (k + 1) []) (S k) := by
  obtain ⟨h1, h2, h3, h4, h5, h6⟩ := h
  obtain ⟨hd, hs, hw⟩ := tok_three h6
  have eH : Hl l e = (List.range r).map (fun k => Lib.itoa (D k)) := by
    unfold Hl
    split at h4
    · rename_i c; rw [if_pos c]; exact h4
    · rename_i c; rw [if_neg c, h4]; rfl
  have eT : Tl l e = [] :: (List.range s).map (fun k => numT (S k)) := h5
  refine ⟨by rw [eH]; simp, fun k hk => ?_, by rw [eT]; simp, by rw [eT]; rfl, fun k hk => ?_⟩
  · unfold Dm
    rw [eH]
    have q := dok_len hd hk
    obtain ⟨m, hm⟩ : ∃ m : Nat, D k = m := ⟨(D k).toNat, by omega⟩
    have : ((List.range r).map (fun k => Lib.itoa (D k))).getD k [] = Lib.itoa (m : Int) := by simp [List.getD, hk, hm]
    rw [this, hm, whole_itoa (by omega) (by omega)]
  · rw [eT]
    have : ([] :: (List.range s).map (fun k => numT (S k))).getD (k + 1) [] = numT (S k) := by simp [List.getD, hk]
    rw [this]
    exact numT_shown (hw k hk).1 (hw k hk).2
theorem md_of {l : List UInt8} {e s : Nat} {S : Nat → Int} (h1 : l[e]? = some 93) (h2 : ∀ j, j < e → l[j]? ≠ some 93) (h3 : l[0]? = some 91) (hd : dok (Hl l e).length (Dm l e) = true) (hT : (Tl l e).length = s + 1) (h0 : (Tl l e).getD 0 [0] = []) (hs : (s : Int) = szR (Dm l e) (Hl l e).length) (hS : ∀ k, k < s → Base.Shown ((Tl l e).getD (k + 1) []) (S k)) : MD l e (Hl l e).length s (Dm l e) S := by
  have eH : Hl l e = (List.range (Hl l e).length).map (fun k => Lib.itoa (Dm l e k)) := by
    apply List.ext_getElem?
    intro k
    by_cases hk : k < (Hl l e).length
    · have q := dok_len hd hk
      have hw : 1 ≤ whole ((Hl l e).getD k []) := by unfold Dm at q; omega
      have := whole_text hw
      rw [List.getElem?_map, List.getElem?_range hk]
      rw [List.getElem?_eq_getElem hk] at *
      simp only [Option.map_some]
      unfold Dm
      rw [← this]
      simp [List.getD, hk]
    · rw [List.getElem?_eq_none (by omega), List.getElem?_eq_none (by simp; omega)]
  refine ⟨h1, h2, h3, ?_, ?_, tok_yes hd hs (fun k hk => ⟨(hS k hk).1, (hS k hk).2.1⟩)⟩
  · by_cases c : 1 < e
    · rw [if_pos c]
      have : Hl l e = wds ((l.take e).drop 1) := by unfold Hl; rw [if_pos c]
      rw [← this]
      exact eH
    · rw [if_neg c]
      unfold Hl
      rw [if_neg c]
      rfl
  · show Tl l e = _
    apply List.ext_getElem?
    intro k
    cases k with
    | zero =>
      cases hh : Tl l e with
      | nil => rw [hh] at hT; simp at hT
      | cons a t => rw [hh] at h0; simpa using h0
    | succ k =>
      by_cases hk : k < s
      · have := shown_numT (hS k hk)
        rw [List.getElem?_cons_succ, List.getElem?_map, List.getElem?_range hk, List.getElem?_eq_getElem (by omega)]
        simp only [Option.map_some]
        rw [← this]
        simp [List.getD, hT, hk]
      · rw [List.getElem?_eq_none (by omega), List.getElem?_eq_none (by simp; omega)]
theorem numT_one {x y : Int} (h0 : 0 ≤ x) (h1 : x < 2147483647) (k0 : 0 ≤ y) (k1 : y < 2147483647) (e : numT x = numT y) : x = y := by
  have a := Base.shown_guess (numT_shown h0 h1)
  have b := Base.shown_guess (numT_shown k0 k1)
  rw [e, b] at a
  exact a.symm
theorem TR.one {l : List UInt8} {r s r' s' : Nat} {D S D' S' : Nat → Int} (h : TR l r s D S) (h' : TR l r' s' D' S') : r = r' ∧ s = s' ∧ (∀ k, k < r → D k = D' k) ∧ (∀ k, k < s → S k = S' k) := by
  obtain ⟨e, m, _⟩ := h.md
  obtain ⟨e', m', _⟩ := h'.md
  obtain rfl := m'.first m.1 m.2.1
  obtain ⟨a1, a2, a3, a4, a5⟩ := m.found
  obtain ⟨b1, b2, b3, b4, b5⟩ := m'.found
  have er : r = r' := a1.symm.trans b1
  have es : s = s' := by omega
  subst er es
  refine ⟨rfl, rfl, fun k hk => (a2 k hk).symm.trans (b2 k hk), fun k hk => ?_⟩
  rw [← Base.shown_guess (a5 k hk), ← Base.shown_guess (b5 k hk)]
end Vo
end Go.Proofs.YtbbmbgjjhaajjaaGreatDoor
