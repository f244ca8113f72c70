/- Words between blanks, plain. -/
import Derived.Test.YtbbmbgjjhaajjaaGreatDoorTxt
import Derived.Lib.Fields
namespace Go.Proofs.YtbbmbgjjhaajjaaGreatDoor
namespace Txt
set_option linter.unusedVariables false
set_option linter.unusedSimpArgs false
/-- the words that are closed, and the open one, a byte further -/
def scS (a : List (List UInt8) × List UInt8) (c : UInt8) : List (List UInt8) × List UInt8 := if c = 32 then (a.1 ++ [a.2], []) else (a.1, a.2 ++ [c])
def sc (l : List UInt8) : List (List UInt8) × List UInt8 := l.foldl scS ([], [])
theorem sc_snoc (l : List UInt8) (c : UInt8) : sc (l ++ [c]) = scS (sc l) c := by simp [sc, List.foldl_append]
theorem scS_word (T : List UInt8) (h : ∀ c ∈ T, c ≠ 32) : ∀ a, T.foldl scS a = (a.1, a.2 ++ T) := by
  induction T with
  | nil => intro a; simp
  | cons c T ih =>
    intro a
    rw [List.foldl_cons, ih (fun x hx => h x (by simp [hx]))]
    unfold scS
    rw [if_neg (h c (by simp))]
    simp
theorem sc_word (l T : List UInt8) (h : ∀ c ∈ T, c ≠ 32) : sc (l ++ T) = ((sc l).1, (sc l).2 ++ T) := by
  unfold sc
  rw [List.foldl_append, scS_word T h]
theorem sc_blank (l T : List UInt8) (h : ∀ c ∈ T, c ≠ 32) : sc (l ++ 32 :: T) = ((sc l).1 ++ [(sc l).2], T) := by
  unfold sc
  rw [List.foldl_append, List.foldl_cons, scS_word T h]
  simp [scS]
/-- the words of a text -/
def wds (l : List UInt8) : List (List UInt8) := (sc l).1 ++ [(sc l).2]
theorem wds_blank (l T : List UInt8) (h : ∀ c ∈ T, c ≠ 32) : wds (l ++ 32 :: T) = wds l ++ [T] := by
  unfold wds
  rw [sc_blank l T h]
theorem sc_join (T : List UInt8) : ∀ a : List (List UInt8) × List UInt8, (T.foldl scS a).1.flatMap (· ++ [32]) ++ (T.foldl scS a).2 = a.1.flatMap (· ++ [32]) ++ a.2 ++ T := by
  induction T with
  | nil => intro a; simp
  | cons c T ih =>
    intro a
    rw [List.foldl_cons, ih]
    unfold scS
    split
    · rename_i e
      subst e
      simp
    · simp
theorem wds_inj {l l' : List UInt8} (h : wds l = wds l') : l = l' := by
  unfold wds at h
  obtain ⟨h1, h2⟩ := List.append_inj' h rfl
  have a := sc_join l ([], [])
  have b := sc_join l' ([], [])
  have e2 : (sc l).2 = (sc l').2 := by simpa using h2
  change (sc l).1.flatMap (· ++ [32]) ++ (sc l).2 = _ at a
  change (sc l').1.flatMap (· ++ [32]) ++ (sc l').2 = _ at b
  rw [h1, e2] at a
  rw [a] at b
  simpa using b
theorem wds_ne (l : List UInt8) : 0 < (wds l).length := by unfold wds; simp
theorem wds_one (T : List UInt8) (h : ∀ c ∈ T, c ≠ 32) : wds T = [T] := by
  have := sc_word [] T h
  unfold wds
  rw [List.nil_append] at this
  rw [this]
  rfl
/-- a decimal of 1 to 4 digits without a nought ahead; 0 -/
def whole (l : List UInt8) : Nat := if cnt 5 l ≠ l.length ∨ cnt 5 l = 0 ∨ 4 < cnt 5 l ∨ l.head? = some 48 then 0 else val (l.take (cnt 5 l))
theorem val_pos : ∀ (l : List UInt8), (∀ c ∈ l, Dg c) → ∀ a, 1 ≤ a → 1 ≤ l.foldl (fun a c => a * 10 + (c.toNat - 48)) a := by
  intro l
  induction l with
  | nil => intro _ a ha; exact ha
  | cons c l ih =>
    intro h a ha
    rw [List.foldl_cons]
    exact ih (fun x hx => h x (by simp [hx])) _ (by omega)
theorem val_one (l : List UInt8) (h : ∀ c ∈ l, Dg c) (hn : l ≠ []) (h0 : l.head? ≠ some 48) : 1 ≤ val l := by
  cases l with
  | nil => exact absurd rfl hn
  | cons c l =>
    unfold val
    rw [List.foldl_cons]
    refine val_pos l (fun x hx => h x (by simp [hx])) _ ?_
    have hc := h c (by simp)
    have : c.toNat ≠ 48 := fun e => h0 (by
      have : c = 48 := UInt8.toNat_inj.1 (by rw [e]; rfl)
      simp [this])
    have := hc.1
    omega
theorem byte_of {c : UInt8} (h : Dg c) : UInt8.ofNat (48 + (c.toNat - 48)) = c := by
  apply UInt8.toNat_inj.1
  have := h.2
  have := h.1
  rw [byte_nat _ (by omega)]
  omega
theorem dec_val (n : Nat) : ∀ l : List UInt8, l.length = n + 1 → (∀ c ∈ l, Dg c) → l.head? ≠ some 48 → Lib.decDigits (val l) = l := by
  induction n with
  | zero =>
    intro l hl h h0
    obtain ⟨c, rfl⟩ := List.length_eq_one_iff.1 hl
    have hc := h c (by simp)
    have e : val [c] = c.toNat - 48 := by simp [val]
    rw [e, Lib.decDigits_one (by have := hc.2; omega), byte_of hc]
  | succ n ih =>
    intro l hl h h0
    have hne : l ≠ [] := by intro e; rw [e] at hl; simp at hl
    obtain ⟨t, c, rfl⟩ : ∃ t c, l = t ++ [c] := ⟨l.dropLast, l.getLast hne, (List.dropLast_concat_getLast hne).symm⟩
    have ht : t.length = n + 1 := by simpa using hl
    have htn : t ≠ [] := by intro e; rw [e] at ht; simp at ht
    have hd : ∀ x ∈ t, Dg x := fun x hx => h x (by simp [hx])
    have hh : t.head? ≠ some 48 := by
      intro e
      apply h0
      rw [List.head?_append, e]; rfl
    have hc := h c (by simp)
    have v1 := val_one t hd htn hh
    have hc2 := hc.2
    rw [val_snoc, dec_rec _ (by omega)]
    have e1 : (val t * 10 + (c.toNat - 48)) / 10 = val t := by omega
    have e2 : (val t * 10 + (c.toNat - 48)) % 10 = c.toNat - 48 := by omega
    rw [e1, e2, ih t ht hd hh, byte_of hc]
theorem whole_text {l : List UInt8} (h : 1 ≤ whole l) : l = Lib.itoa (whole l) := by
  have h' := h
  unfold whole at h'
  by_cases hc : cnt 5 l ≠ l.length ∨ cnt 5 l = 0 ∨ 4 < cnt 5 l ∨ l.head? = some 48
  · rw [if_pos hc] at h'; omega
  · have e : whole l = val l := by
      unfold whole
      rw [if_neg hc]
      have : cnt 5 l = l.length := by omega
      rw [this, List.take_length]
    have hd : ∀ c ∈ l, Dg c := by
      have := cnt_dg 5 l (cnt 5 l) (Nat.le_refl _)
      rw [show cnt 5 l = l.length by omega, List.take_length] at this
      exact this
    have hlen : l.length = (l.length - 1) + 1 := by omega
    have := dec_val (l.length - 1) l hlen hd (by intro q; exact hc (.inr (.inr (.inr q))))
    rw [e]
    unfold Lib.itoa
    rw [if_neg (by omega)]
    simpa using this.symm
theorem dec_head48 (u : Nat) (h : 1 ≤ u) : (Lib.decDigits u).head? ≠ some 48 := by
  induction u using Nat.strongRecOn with
  | ind u ih =>
    by_cases hu : u < 10
    · rw [Lib.decDigits_one hu]
      intro e
      have : UInt8.ofNat (48 + u) = 48 := by simpa using e
      have := congrArg UInt8.toNat this
      rw [byte_nat u hu] at this
      have q : (48 : UInt8).toNat = 48 := rfl
      omega
    · rw [dec_rec u hu, List.head?_append]
      have := ih (u / 10) (by omega) (by omega)
      cases hx : (Lib.decDigits (u / 10)).head? with
      | none => exact absurd (List.head?_eq_none_iff.1 hx) (dec_ne _)
      | some c =>
        rw [hx] at this
        simpa using this
theorem whole_itoa {n : Nat} (h1 : 1 ≤ n) (h2 : n ≤ 9999) : whole (Lib.itoa n) = n := by
  have e : Lib.itoa (n : Int) = Lib.decDigits n := by
    unfold Lib.itoa
    rw [if_neg (by omega)]
    simp
  rw [e]
  have hl : (Lib.decDigits n).length ≤ 4 := dec_short 3 n (by omega)
  have hc : cnt 5 (Lib.decDigits n) = (Lib.decDigits n).length := by
    have := cnt_app (Lib.decDigits n) [] 5 (dec_all n) (by omega) (.inl rfl)
    rwa [List.append_nil] at this
  have hne : (Lib.decDigits n).length ≠ 0 := fun q => dec_ne n (List.length_eq_zero_iff.1 q)
  unfold whole
  rw [if_neg, hc, List.take_length, val_dec]
  rintro (q | q | q | q)
  · exact q hc
  · omega
  · omega
  · exact dec_head48 n h1 q
theorem whole_le (l : List UInt8) : whole l ≤ 9999 := by
  unfold whole
  split
  · omega
  · rename_i hc
    have : cnt 5 l = l.length := by omega
    rw [this, List.take_length]
    have hd : ∀ c ∈ l, Dg c := by
      have q := cnt_dg 5 l (cnt 5 l) (Nat.le_refl _)
      rw [this, List.take_length] at q
      exact q
    have h4 : l.length ≤ 4 := by omega
    have := val_lt l.length l rfl hd
    have : 10 ^ l.length ≤ 10 ^ 4 := Nat.pow_le_pow_right (by omega) h4
    omega
/-- words of which none is empty, and none has white space -/
theorem fieldsGo_word (T r cur : List UInt8) (h : ∀ c ∈ T, Lib.isSp c = false) : Lib.fieldsGo cur (T ++ r) = Lib.fieldsGo (cur ++ T) r := by
  induction T generalizing cur with
  | nil => simp
  | cons c T ih =>
    rw [List.cons_append, Lib.fieldsGo, h c (by simp)]
    simp only [Bool.false_eq_true, if_false]
    rw [ih _ (fun x hx => h x (by simp [hx]))]
    simp
theorem fields_word (T r : List UInt8) (h : ∀ c ∈ T, Lib.isSp c = false) (hn : T ≠ []) : Lib.fieldsGo [] (T ++ 32 :: r) = T :: Lib.fieldsGo [] r := by
  rw [fieldsGo_word T _ _ h, List.nil_append, Lib.fieldsGo]
  have : Lib.isSp 32 = true := by decide
  rw [this]
  cases T with
  | nil => exact absurd rfl hn
  | cons c T => simp
theorem fields_last (T : List UInt8) (h : ∀ c ∈ T, Lib.isSp c = false) (hn : T ≠ []) : Lib.fieldsGo [] T = [T] := by
  have := fieldsGo_word T [] [] h
  rw [List.append_nil, List.nil_append] at this
  rw [this, Lib.fieldsGo]
  cases T with
  | nil => exact absurd rfl hn
  | cons c T => simp
end Txt
end Go.Proofs.YtbbmbgjjhaajjaaGreatDoor
