/- What the program guesses of a text, plain. -/
import Derived.Test.YtbbmbgjjhaajjaaGreatDoorKb
import Derived.Test.YtbbmbgjjhaajjaaGreatDoorTc
import Derived.Lib.SpaceU
import Derived.Lib.Strings
namespace Go.Proofs.YtbbmbgjjhaajjaaGreatDoor
namespace Vo
open Vl Vp Txt
set_option linter.unusedVariables false
set_option linter.unusedSimpArgs false
theorem fieldsD_short (f : Nat) : ∀ (cur l : List UInt8), ∀ x ∈ Lib.fieldsGoD f cur l, x.length ≤ cur.length + l.length := by
  induction f with
  | zero =>
    intro cur l x hx
    unfold Lib.fieldsGoD at hx
    split at hx
    · simp at hx
    · simp at hx; subst hx; omega
  | succ f ih =>
    intro cur l x hx
    rw [Lib.fieldsGoD] at hx
    split at hx
    · split at hx
      · simp at hx
      · simp at hx; subst hx; omega
    · split at hx
      · rcases List.mem_append.1 hx with q | q
        · split at q
          · simp at q
          · simp at q; subst q; omega
        · have := ih [] _ x q
          rw [List.length_drop, List.length_nil] at this
          omega
      · have := ih _ _ x hx
        rw [List.length_append, List.length_take, List.length_drop] at this
        omega
theorem field_short (l : List UInt8) (k : Nat) : ((Lib.fieldsD l).getD k []).length ≤ l.length := by
  by_cases hk : k < (Lib.fieldsD l).length
  · have e : (Lib.fieldsD l).getD k [] = (Lib.fieldsD l)[k] := by simp [List.getD, hk]
    rw [e]
    have := fieldsD_short (l.length + 1) [] l _ (List.getElem_mem hk)
    simpa using this
  · have e : (Lib.fieldsD l).getD k [] = [] := by simp [List.getD, List.getElem?_eq_none (Nat.le_of_not_lt hk)]
    rw [e]; exact Nat.zero_le _
open Classical in
/-- what ReadNum reads -/
noncomputable def rdV (l : List UInt8) : Int := if ∃ x, Base.Shown l x then Base.guessL l else 0
theorem rdV_is {l : List UInt8} {r : Int} {b : Bool} (h : Base.Reading l r b) : r = rdV l := by
  unfold rdV
  rcases h with ⟨_, h⟩ | ⟨_, rfl, h⟩
  · rw [if_pos ⟨r, h⟩, Base.shown_guess h]
  · rw [if_neg (by rintro ⟨x, q⟩; exact h x q)]
theorem rdV_bd (l : List UInt8) : 0 ≤ rdV l ∧ rdV l < 2147483647 := by
  unfold rdV
  split
  · rename_i h
    obtain ⟨x, q⟩ := h
    rw [Base.shown_guess q]
    exact ⟨q.1, q.2.1⟩
  · omega
/-- the text ahead of the first ], and behind it -/
def cutH (l : List UInt8) : List UInt8 := if Lib.indexByte l 93 = -1 then l else l.take (Lib.indexByte l 93).toNat
def cutT (l : List UInt8) : List UInt8 := if Lib.indexByte l 93 = -1 then [] else l.drop ((Lib.indexByte l 93).toNat + 1)
def fH (l : List UInt8) : List (List UInt8) := Lib.fieldsD (Lib.trimPrefix (cutH l) [91])
def fT (l : List UInt8) : List (List UInt8) := Lib.fieldsD (cutT l)
/-- what is guessed -/
noncomputable def guessP (l : List UInt8) : PT := if 6 < (fH l).length ∨ 4096 < (fT l).length then PT.zero else ⟨(fH l).length, (fT l).length, fun k => Lib.atoiOr ((fH l).getD k []) 0, fun k => rdV ((fT l).getD k [])⟩
theorem idx_some (c : UInt8) (l t : List UInt8) (h : ∀ x ∈ l, x ≠ c) : Lib.indexByte (l ++ c :: t) c = l.length := by
  induction l with
  | nil => simp [Lib.indexByte]
  | cons b l ih =>
    rw [List.cons_append, Lib.indexByte, if_neg (by simp; exact h b (by simp)), ih (fun x hx => h x (by simp [hx])), if_neg (by simp)]
    simp
theorem blanks_cons (T : Nat → List UInt8) (n : Nat) : blanks T (n + 1) = 32 :: (T 0 ++ blanks (fun k => T (k + 1)) n) := by
  induction n with
  | zero => simp [blanks]
  | succ n ih =>
    show blanks T (n + 1) ++ 32 :: T (n + 1) = _
    rw [ih]
    simp [blanks]
theorem fields_row (n : Nat) : ∀ (T : Nat → List UInt8), (∀ k, k < n + 1 → T k ≠ [] ∧ ∀ c ∈ T k, Lib.isSp c = false) → Lib.fieldsGo [] (T 0 ++ blanks (fun k => T (k + 1)) n) = (List.range (n + 1)).map T := by
  induction n with
  | zero =>
    intro T h
    simp only [blanks, List.append_nil]
    rw [fields_last _ (h 0 (by omega)).2 (h 0 (by omega)).1]
    rfl
  | succ n ih =>
    intro T h
    rw [blanks_cons, fields_word _ _ (h 0 (by omega)).2 (h 0 (by omega)).1, ih (fun k => T (k + 1)) (fun k hk => h (k + 1) (by omega)), List.range_succ_eq_map (n := n + 1)]
    simp
theorem fields_blanks {T : Nat → List UInt8} {n : Nat} (h : ∀ k, k < n → T k ≠ [] ∧ ∀ c ∈ T k, Lib.isSp c = false) : Lib.fields (blanks T n) = (List.range n).map T := by
  cases n with
  | zero => rfl
  | succ n =>
    unfold Lib.fields
    rw [blanks_cons, Lib.fieldsGo]
    have : Lib.isSp 32 = true := by decide
    rw [this]
    simp only [if_true, List.isEmpty_nil]
    exact fields_row n T h
theorem fields_body {T : Nat → List UInt8} {n : Nat} (h : ∀ k, k < n → T k ≠ [] ∧ ∀ c ∈ T k, Lib.isSp c = false) : Lib.fields (body T n) = (List.range n).map T := by
  cases n with
  | zero => rfl
  | succ n =>
    unfold Lib.fields body
    rw [blanks_cons, List.drop_succ_cons, List.drop_zero]
    exact fields_row n T h
theorem TR.guess {l : List UInt8} {r s : Nat} {D S : Nat → Int} (h : TR l r s D S) : (guessP l).r = r ∧ (guessP l).s = s ∧ (∀ k, k < r → (guessP l).D k = D k) ∧ (∀ k, k < s → (guessP l).S k = S k) := by
  obtain ⟨ht, e⟩ := h
  obtain ⟨hd, hs, hw⟩ := tok_three ht
  have hr6 := (dok_iff.1 hd).1
  have hs4 := szR_le hd
  have n93 : ∀ c ∈ body (fun k => Lib.itoa (D k)) r, c ≠ 93 := fun c hc => by
    rcases mem_body hc with rfl | ⟨k, _, q⟩
    · decide
    · exact (nb_is (itoa_nb _ c q)).2.1
  have n91 : ∀ c ∈ 91 :: body (fun k => Lib.itoa (D k)) r, c ≠ 93 := fun c hc => by
    rcases List.mem_cons.1 hc with rfl | q
    · decide
    · exact n93 c q
  have ei : Lib.indexByte l 93 = ((91 :: body (fun k => Lib.itoa (D k)) r).length : Nat) := by
    rw [e]
    exact idx_some 93 (91 :: body (fun k => Lib.itoa (D k)) r) _ n91
  have hne : ¬ Lib.indexByte l 93 = -1 := by rw [ei]; omega
  have eT : (Lib.indexByte l 93).toNat = (91 :: body (fun k => Lib.itoa (D k)) r).length := by rw [ei]; rfl
  have eH : cutH l = 91 :: body (fun k => Lib.itoa (D k)) r := by
    unfold cutH
    rw [if_neg hne, eT, e, ← List.cons_append, List.take_left]
  have eL : cutT l = blanks (fun k => numT (S k)) s := by
    unfold cutT
    rw [if_neg hne, eT, e, ← List.cons_append, List.drop_append]
    simp
  have a128 : ∀ b ∈ body (fun k => Lib.itoa (D k)) r, b.toNat < 128 := fun b hb => by
    rcases mem_body hb with rfl | ⟨k, _, q⟩
    · decide
    · exact (nb_is (itoa_nb _ b q)).2.2.2
  have b128 : ∀ b ∈ blanks (fun k => numT (S k)) s, b.toNat < 128 := fun b hb => by
    rcases mem_blanks hb with rfl | ⟨k, _, q⟩
    · decide
    · exact (nb_is (numT_nb _ b q)).2.2.2
  have e1 : fH l = (List.range r).map (fun k => Lib.itoa (D k)) := by
    unfold fH
    rw [eH]
    have : Lib.trimPrefix (91 :: body (fun k => Lib.itoa (D k)) r) [91] = body (fun k => Lib.itoa (D k)) r := by simp [Lib.trimPrefix, Lib.hasPrefix]
    rw [this, Lib.fieldsD_ascii _ a128, fields_body (fun k hk => ⟨itoa_ne _, fun c hc => (nb_is (itoa_nb _ c hc)).2.2.1⟩)]
  have e2 : fT l = (List.range s).map (fun k => numT (S k)) := by
    unfold fT
    rw [eL, Lib.fieldsD_ascii _ b128, fields_blanks (fun k hk => ⟨numT_ne (hw k hk).1 (hw k hk).2, fun c hc => (nb_is (numT_nb _ c hc)).2.2.1⟩)]
  have g : guessP l = ⟨(fH l).length, (fT l).length, fun k => Lib.atoiOr ((fH l).getD k []) 0, fun k => rdV ((fT l).getD k [])⟩ := by
    unfold guessP
    rw [if_neg]
    rw [e1, e2]
    simp only [List.length_map, List.length_range]
    omega
  rw [g]
  refine ⟨by rw [e1]; simp, by rw [e2]; simp, fun k hk => ?_, fun k hk => ?_⟩
  · show Lib.atoiOr ((fH l).getD k []) 0 = D k
    rw [e1]
    have q := dok_len hd hk
    have : ((List.range r).map (fun k => Lib.itoa (D k))).getD k [] = Lib.itoa (D k) := by simp [List.getD, hk]
    rw [this, Txt.atoiOr_itoa _ (by omega) (by omega)]
  · show rdV ((fT l).getD k []) = S k
    rw [e2]
    have : ((List.range s).map (fun k => numT (S k))).getD k [] = numT (S k) := by simp [List.getD, hk]
    rw [this]
    exact (rdV_is (b := true) (.inl ⟨rfl, numT_shown (hw k hk).1 (hw k hk).2⟩)).symm
theorem wi_same {s : Nat} {S T : Nat → Int} (h : ∀ k, k < s → S k = T k) (hw : WI s S 2147483647) : WI s T 2147483647 := fun k hk => by rw [← h k hk]; exact hw k hk
theorem blanks_same {T U : Nat → List UInt8} {n : Nat} (h : ∀ k, k < n → T k = U k) : blanks T n = blanks U n := by
  induction n with
  | zero => rfl
  | succ n ih =>
    show blanks T n ++ 32 :: T n = blanks U n ++ 32 :: U n
    rw [ih (fun k hk => h k (by omega)), h n (by omega)]
theorem TR.same {l : List UInt8} {r s : Nat} {D S E T : Nat → Int} (h : TR l r s D S) (hD : ∀ k, k < r → E k = D k) (hS : ∀ k, k < s → T k = S k) : TR l r s E T := by
  obtain ⟨ht, e⟩ := h
  obtain ⟨hd, hs, hw⟩ := tok_three ht
  refine ⟨tok_yes ?_ ?_ (wi_same (fun k hk => (hS k hk).symm) hw), ?_⟩
  · rw [dok_iff, szR_same hD, ← dok_iff]; exact hd
  · rw [szR_same hD]; exact hs
  · have e1 : body (fun k => Lib.itoa (E k)) r = body (fun k => Lib.itoa (D k)) r := by unfold body; rw [blanks_same (fun k hk => by rw [hD k hk])]
    have e2 : blanks (fun k => numT (T k)) s = blanks (fun k => numT (S k)) s := blanks_same (fun k hk => by rw [hS k hk])
    rw [e1, e2]
    exact e
/-- a text that is shown of any tensor is shown of what is guessed -/
theorem TR.guessed {l : List UInt8} {r s : Nat} {D S : Nat → Int} (h : TR l r s D S) : TR l (guessP l).r (guessP l).s (guessP l).D (guessP l).S := by
  obtain ⟨h1, h2, h3, h4⟩ := h.guess
  rw [h1, h2]
  exact h.same h3 h4
end Vo
end Go.Proofs.YtbbmbgjjhaajjaaGreatDoor
