/- Plain lists of bytes: what each side guesses of a text is the number of which the text is shown; so at most one number has a text. -/
import Derived.Test.YtbbmbgjjhaajjaaGreatDoorShow
import Derived.Test.YtbbmbgjjhaajjaaGreatDoorFerm
import Derived.Test.YtbbmbgjjhaajjaaGreatDoorTxt
import Derived.Lib.Bytealg
namespace Go.Proofs.YtbbmbgjjhaajjaaGreatDoor
namespace Base
open Go.RowKit

/-- a fraction with the least denominator can be -/
theorem ans_ok {x n d : Int} (h : Rec.Ans x n d true) : okB n d = true := by
  rcases h with ⟨_, hh, hl⟩ | ⟨h, _⟩
  · obtain ⟨d0, d1, n0, n1, hx⟩ := hh
    unfold okB
    rw [decide_eq_true_eq]
    refine ⟨d0, d1, n0, n1, ?_⟩
    obtain ⟨d', hd⟩ := Int.gcd_dvd_left d n
    obtain ⟨n', hn⟩ := Int.gcd_dvd_right d n
    have g0 : 0 < Int.gcd d n := Int.gcd_pos_of_ne_zero_left _ (by omega)
    have g1 : (Int.gcd d n : Int) ≤ d := Int.le_of_dvd (by omega) (Int.gcd_dvd_left d n)
    generalize Int.gcd d n = g at *
    by_cases hg : g = 1
    · exact hg
    · exfalso
      have hc := Ferm.prime_gcd g g0 (by omega)
      have e : d * x - n = (g : Int) * (d' * x - n') := by
        rw [Int.mul_sub, ← Int.mul_assoc, ← hd, ← hn]
      have h1 : (2147483647 : Int) ∣ (g : Int) * (d' * x - n') := by rw [← e]; exact Int.dvd_of_emod_eq_zero hx
      have h2 : 2147483647 ∣ g * (d' * x - n').natAbs := by
        have := Int.natAbs_dvd_natAbs.2 h1
        rwa [Int.natAbs_mul, Int.natAbs_natCast] at this
      have h3 : 2147483647 ∣ (d' * x - n').natAbs := Nat.Coprime.dvd_of_dvd_mul_left hc h2
      have h4 : (d' * x - n') % 2147483647 = 0 := Int.emod_eq_zero_of_dvd (Int.ofNat_dvd_left.2 h3)
      have hdp : 1 ≤ d' := by
        by_cases q : 1 ≤ d'
        · exact q
        · have := Int.mul_nonpos_of_nonneg_of_nonpos (a := (g : Int)) (b := d') (by omega) (by omega)
          omega
      have hlt : 2 * d' ≤ (g : Int) * d' := Int.mul_le_mul_of_nonneg_right (by omega) (by omega)
      have hnb : -32767 ≤ n' ∧ n' ≤ 32767 := by
        by_cases q : 0 ≤ n'
        · have : 1 * n' ≤ (g : Int) * n' := Int.mul_le_mul_of_nonneg_right (by omega) q
          omega
        · have : 1 * -n' ≤ (g : Int) * -n' := Int.mul_le_mul_of_nonneg_right (by omega) (by omega)
          rw [Int.mul_neg (g : Int)] at this
          omega
      have := hl n' d' ⟨hdp, by omega, hnb.1, hnb.2, h4⟩
      omega
  · cases h

theorem ans_over {x n d : Int} (x0 : 0 ≤ x) (x1 : x < 2147483647) (h : Rec.Ans x n d true) : n % 2147483647 * Num.pw (d % 2147483647) 2147483645 % 2147483647 = x := by
  rcases h with ⟨_, ⟨d0, d1, _, _, hx⟩, _⟩ | ⟨h, _⟩
  · exact Ferm.over_eq x n d d0 d1 x0 x1 hx
  · cases h

/-- OfFrac -/
def ofF (n d : Int) : Int := if okB n d then n % 2147483647 * Num.pw (d % 2147483647) 2147483645 % 2147483647 else 0
theorem ofF_bd (n d : Int) : 0 ≤ ofF n d ∧ ofF n d < 2147483647 := by
  unfold ofF; split <;> omega

theorem itoa_bytes (n : Int) : ∀ c ∈ Lib.itoa n, c = 45 ∨ Txt.Dg c := by
  intro c hc
  unfold Lib.itoa at hc
  split at hc
  · rcases List.mem_cons.1 hc with rfl | hc
    · exact .inl rfl
    · exact .inr (Txt.dec_all _ c hc)
  · exact .inr (Txt.dec_all _ c hc)

theorem itoa_head (n : Int) (t : List UInt8) : (Lib.itoa n ++ t).head? ≠ some 35 := by
  intro h
  cases hl : Lib.itoa n with
  | nil =>
    have : Lib.itoa n ≠ [] := by
      unfold Lib.itoa; split
      · simp
      · exact Txt.dec_ne _
    exact this hl
  | cons c r =>
    rw [hl] at h
    simp at h
    have := itoa_bytes n c (by rw [hl]; simp)
    subst h
    rcases this with h | h
    · exact absurd h (by decide)
    · exact absurd h (by decide)

theorem index_none (l : List UInt8) (h : ∀ c ∈ l, c ≠ 47) : Lib.indexByte l 47 = -1 := by
  induction l with
  | nil => rfl
  | cons c l ih =>
    rw [Lib.indexByte, if_neg (by simp; exact h c (by simp)), ih (fun x hx => h x (by simp [hx]))]
    rfl
theorem index_some (l t : List UInt8) (h : ∀ c ∈ l, c ≠ 47) : Lib.indexByte (l ++ 47 :: t) 47 = l.length := by
  induction l with
  | nil => simp [Lib.indexByte]
  | cons c l ih =>
    rw [List.cons_append, Lib.indexByte, if_neg (by simp; exact h c (by simp)), ih (fun x hx => h x (by simp [hx])), if_neg (by simp)]
    simp
theorem itoa_no (n : Int) : ∀ c ∈ Lib.itoa n, c ≠ 47 := by
  intro c hc e
  subst e
  rcases itoa_bytes n _ hc with h | h
  · exact absurd h (by decide)
  · exact absurd h (by decide)

/-- what the program guesses of a text -/
def guessL (l : List UInt8) : Int :=
  if l.head? = some 35 then Lib.atoiOr l.tail 0
  else if Lib.indexByte l 47 = -1 then ofF (Lib.atoiOr l 0) 1
  else ofF (Lib.atoiOr (l.take (Lib.indexByte l 47).toNat) 0) (Lib.atoiOr (l.drop ((Lib.indexByte l 47).toNat + 1)) 0)

theorem guess_show {x n d : Int} {b : Bool} (x0 : 0 ≤ x) (x1 : x < 2147483647) (h : Rec.Ans x n d b) : guessL (showL x n d b) = x := by
  obtain ⟨n0, n1, d0, d1⟩ := ans_bd h
  cases b with
  | false =>
    unfold guessL showL
    simp only [Bool.false_eq_true, if_false, List.head?_cons, if_true, List.tail_cons]
    exact Txt.atoiOr_itoa x (by omega) (by omega)
  | true =>
    have ho := ans_ok h
    have hv := ans_over x0 x1 h
    have e : ofF n d = x := by unfold ofF; rw [if_pos ho]; exact hv
    unfold guessL showL
    by_cases hd : d = 1
    · subst hd
      have h1 := itoa_head n []
      rw [List.append_nil] at h1
      rw [if_pos rfl, if_pos rfl, if_neg h1, if_pos (index_none _ (itoa_no n)), Txt.atoiOr_itoa n (by omega) (by omega), e]
    · rw [if_pos rfl, if_neg hd, if_neg (itoa_head n _), index_some _ _ (itoa_no n), if_neg (by omega)]
      rw [Int.toNat_natCast, List.take_left, List.drop_append, List.drop_of_length_le (by omega)]
      have e3 : (Lib.itoa n).length + 1 - (Lib.itoa n).length = 1 := by omega
      rw [e3, List.nil_append, List.drop_one, List.tail_cons, Txt.atoiOr_itoa n (by omega) (by omega), Txt.atoiOr_itoa d (by omega) (by omega), e]

/-- a text's reading: the number of which it is shown, or none -/
def Shown (l : List UInt8) (x : Int) : Prop := 0 ≤ x ∧ x < 2147483647 ∧ ∃ n d b, Rec.Ans x n d b ∧ l = showL x n d b
def Reading (l : List UInt8) (r : Int) (b : Bool) : Prop := (b = true ∧ Shown l r) ∨ (b = false ∧ r = 0 ∧ ∀ x, ¬ Shown l x)

theorem shown_guess {l : List UInt8} {x : Int} (h : Shown l x) : guessL l = x := by
  obtain ⟨x0, x1, n, d, b, ha, rfl⟩ := h
  exact guess_show x0 x1 ha
theorem Reading_one {l : List UInt8} {r r' : Int} {b b' : Bool} (h : Reading l r b) (h' : Reading l r' b') : r = r' ∧ b = b' := by
  rcases h with ⟨rfl, h⟩ | ⟨rfl, rfl, h⟩ <;> rcases h' with ⟨rfl, h'⟩ | ⟨rfl, rfl, h'⟩
  · exact ⟨by rw [← shown_guess h, ← shown_guess h'], rfl⟩
  · exact absurd h (h' _)
  · exact absurd h' (h _)
  · exact ⟨rfl, rfl⟩

/-- a guess that is right whenever anything is shown so, and the test that follows it -/
theorem read_end {l : List UInt8} {a n d : Int} {b : Bool} (hg : ∀ x, Shown l x → a % 2147483647 = x) (h : Rec.Ans (a % 2147483647) n d b) :
    (l = showL (a % 2147483647) n d b → Reading l (a % 2147483647) true) ∧ (¬ l = showL (a % 2147483647) n d b → Reading l 0 false) := by
  constructor
  · intro e
    exact .inl ⟨rfl, by omega, by omega, n, d, b, h, e⟩
  · intro e
    refine .inr ⟨rfl, rfl, fun x hx => ?_⟩
    have ex := hg x hx
    obtain ⟨_, _, n', d', b', ha, rfl⟩ := hx
    subst ex
    obtain ⟨rfl, rfl, rfl⟩ := Rec.Ans_one h ha
    exact e rfl

/-- what the model's loop reads from a place on -/
def sCnt (m i : Nat) (l : List UInt8) : Nat := Txt.cnt m (l.drop i)
def sNum (m i : Nat) (l : List UInt8) : Nat := Txt.val ((l.drop i).take (sCnt m i l))
def ovr (n d : Int) : Int := n % 2147483647 * Num.pw (d % 2147483647) 2147483645 % 2147483647
theorem ovr_bd (n d : Int) : 0 ≤ ovr n d ∧ ovr n d < 2147483647 := by unfold ovr; omega
/-- what the model guesses behind the sign -/
def sBody (i : Nat) (l : List UInt8) : Int :=
  if l[i + sCnt 5 i l]? = some 47 then ovr (sNum 5 i l) (sNum 5 (i + sCnt 5 i l + 1) l) else sNum 5 i l
def specG (l : List UInt8) : Int :=
  if l.head? = some 35 then (sNum 10 1 l : Int) else if l.head? = some 45 then (0 - sBody 1 l) % 2147483647 else sBody 0 l

theorem sNum_dec (m u : Nat) (p t : List UInt8) (hm : (Lib.decDigits u).length ≤ m) (ht : t = [] ∨ ∃ c r, t = c :: r ∧ ¬ Txt.Dg c) :
    sCnt m p.length (p ++ (Lib.decDigits u ++ t)) = (Lib.decDigits u).length ∧ sNum m p.length (p ++ (Lib.decDigits u ++ t)) = u := by
  have e1 : sCnt m p.length (p ++ (Lib.decDigits u ++ t)) = (Lib.decDigits u).length := by
    unfold sCnt; rw [List.drop_left]; exact Txt.cnt_app _ t m (Txt.dec_all u) hm ht
  refine ⟨e1, ?_⟩
  unfold sNum
  rw [e1, List.drop_left, List.take_left, Txt.val_dec]

theorem sBody_whole (p : List UInt8) (u : Nat) (hu : u < 100000) : sBody p.length (p ++ Lib.decDigits u) = u := by
  obtain ⟨e1, e2⟩ := sNum_dec 5 u p [] (Txt.dec_short 4 u (by omega)) (.inl rfl)
  rw [List.append_nil] at e1 e2
  unfold sBody
  rw [e1, e2, if_neg]
  rw [List.getElem?_eq_none (by simp)]; simp

theorem sBody_frac (p : List UInt8) (u v : Nat) (hu : u < 100000) (hv : v < 100000) : sBody p.length (p ++ (Lib.decDigits u ++ 47 :: Lib.decDigits v)) = ovr u v := by
  obtain ⟨e1, e2⟩ := sNum_dec 5 u p (47 :: Lib.decDigits v) (Txt.dec_short 4 u (by omega)) (.inr ⟨47, _, rfl, by decide⟩)
  have e3 := (sNum_dec 5 v (p ++ (Lib.decDigits u ++ [47])) [] (Txt.dec_short 4 v (by omega)) (.inl rfl)).2
  have e4 : (p ++ (Lib.decDigits u ++ [47])).length = p.length + (Lib.decDigits u).length + 1 := by simp; omega
  have e5 : p ++ (Lib.decDigits u ++ [47]) ++ (Lib.decDigits v ++ []) = p ++ (Lib.decDigits u ++ 47 :: Lib.decDigits v) := by simp
  rw [e4, e5] at e3
  unfold sBody
  rw [e1, e2, e3, if_pos]
  rw [List.getElem?_append_right (by omega), Nat.add_sub_cancel_left, List.getElem?_append_right (Nat.le_refl _), Nat.sub_self]
  rfl

theorem dec_head (u : Nat) (t : List UInt8) : (Lib.decDigits u ++ t).head? ≠ some 35 ∧ (Lib.decDigits u ++ t).head? ≠ some 45 := by
  cases hl : Lib.decDigits u with
  | nil => exact absurd hl (Txt.dec_ne u)
  | cons c r =>
    have := Txt.dec_all u c (by rw [hl]; simp)
    refine ⟨fun h => ?_, fun h => ?_⟩ <;> (simp at h; subst h; exact absurd this (by decide))

theorem specG_show {x n d : Int} {b : Bool} (x0 : 0 ≤ x) (x1 : x < 2147483647) (h : Rec.Ans x n d b) :
    specG (showL x n d b) = x ∧ 1 ≤ (showL x n d b).length ∧ (showL x n d b).length ≤ 12 := by
  obtain ⟨n0, n1, d0, d1⟩ := ans_bd h
  cases b with
  | false =>
    have e : Lib.itoa x = Lib.decDigits x.toNat := by rw [Lib.itoa, if_neg (by omega)]
    have hl := Txt.dec_short 9 x.toNat (by omega)
    have := (sNum_dec 10 x.toNat [35] [] hl (.inl rfl)).2
    rw [List.append_nil] at this
    have es : showL x n d false = [35] ++ Lib.decDigits x.toNat := by unfold showL; rw [if_neg (by simp), e]; rfl
    refine ⟨?_, by rw [es]; simp, by rw [es]; simp; omega⟩
    rw [es, specG, if_pos (by simp)]
    rw [show sNum 10 1 ([35] ++ Lib.decDigits x.toNat) = x.toNat from this]
    omega
  | true =>
    have hv := ans_over x0 x1 h
    have hit : 1 ≤ d ∧ (d * x - n) % 2147483647 = 0 := by
      rcases h with ⟨_, ⟨a1, _, _, _, a5⟩, _⟩ | ⟨h, _⟩
      · exact ⟨a1, a5⟩
      · cases h
    have hd' : Lib.itoa d = Lib.decDigits d.toNat := by rw [Lib.itoa, if_neg (by omega)]
    have ld := Txt.dec_short 4 d.toNat (by omega)
    have ld0 : 1 ≤ (Lib.decDigits d.toNat).length := List.length_pos_iff.2 (Txt.dec_ne _)
    by_cases hn : n < 0
    · have e : Lib.itoa n = [45] ++ Lib.decDigits n.natAbs := by rw [Lib.itoa, if_pos hn]; rfl
      have ln := Txt.dec_short 4 n.natAbs (by omega)
      by_cases h1 : d = 1
      · subst h1
        have es : showL x n 1 true = [45] ++ Lib.decDigits n.natAbs := by unfold showL; rw [if_pos rfl, if_pos rfl, e]
        refine ⟨?_, by rw [es]; simp, by rw [es]; simp; omega⟩
        have := sBody_whole [45] n.natAbs (by omega)
        rw [es, specG, if_neg (by simp), if_pos (by simp), show sBody 1 ([45] ++ Lib.decDigits n.natAbs) = n.natAbs from this]
        have := hit.2
        omega
      · have es : showL x n d true = [45] ++ (Lib.decDigits n.natAbs ++ 47 :: Lib.decDigits d.toNat) := by
          unfold showL; rw [if_pos rfl, if_neg h1, e, hd', List.append_assoc]
        refine ⟨?_, by rw [es]; simp, by rw [es]; simp; omega⟩
        have := sBody_frac [45] n.natAbs d.toNat (by omega) (by omega)
        rw [es, specG, if_neg (by simp), if_pos (by simp), show sBody 1 ([45] ++ (Lib.decDigits n.natAbs ++ 47 :: Lib.decDigits d.toNat)) = ovr n.natAbs d.toNat from this]
        have ho := Ferm.over_eq ((-x) % 2147483647) (-n) d (by omega) (by omega) (by omega) (by omega) (by
          have h2 := hit.2
          have h3 : (d * ((-x) % 2147483647)) % 2147483647 = (d * (-x)) % 2147483647 := Num.mul_r d (-x)
          rw [Int.mul_neg] at h3
          generalize d * x = z at *
          generalize d * ((-x) % 2147483647) = y at *
          omega)
        have e3 : ((n.natAbs : Nat) : Int) = -n := by omega
        have e4 : ((d.toNat : Nat) : Int) = d := by omega
        rw [ovr, e3, e4, ho]
        omega
    · have e : Lib.itoa n = Lib.decDigits n.toNat := by rw [Lib.itoa, if_neg hn]
      have ln := Txt.dec_short 4 n.toNat (by omega)
      by_cases h1 : d = 1
      · subst h1
        have es : showL x n 1 true = Lib.decDigits n.toNat := by unfold showL; rw [if_pos rfl, if_pos rfl, e]
        have hh := dec_head n.toNat []
        rw [List.append_nil] at hh
        have ln0 : 1 ≤ (Lib.decDigits n.toNat).length := List.length_pos_iff.2 (Txt.dec_ne _)
        refine ⟨?_, by rw [es]; exact ln0, by rw [es]; omega⟩
        have := sBody_whole [] n.toNat (by omega)
        rw [List.nil_append, List.length_nil] at this
        rw [es, specG, if_neg hh.1, if_neg hh.2, this]
        have := hit.2
        omega
      · have es : showL x n d true = Lib.decDigits n.toNat ++ 47 :: Lib.decDigits d.toNat := by
          unfold showL; rw [if_pos rfl, if_neg h1, e, hd']
        have hh := dec_head n.toNat (47 :: Lib.decDigits d.toNat)
        refine ⟨?_, by rw [es]; simp; omega, by rw [es]; simp; omega⟩
        have := sBody_frac [] n.toNat d.toNat (by omega) (by omega)
        have e3 : ((n.toNat : Nat) : Int) = n := by omega
        have e4 : ((d.toNat : Nat) : Int) = d := by omega
        rw [List.nil_append, List.length_nil] at this
        rw [es, specG, if_neg hh.1, if_neg hh.2, this, ovr, e3, e4, hv]

theorem shown_specG {l : List UInt8} {x : Int} (h : Shown l x) : specG l = x ∧ 1 ≤ l.length ∧ l.length ≤ 12 := by
  obtain ⟨x0, x1, n, d, b, ha, rfl⟩ := h
  exact specG_show x0 x1 ha

end Base
end Go.Proofs.YtbbmbgjjhaajjaaGreatDoor
