/- Plain lists of bytes, no program: a number's digits are read back as the number, by the library's parse and by the model's own loop. -/
import Derived.Lib.ItoaMem
import Derived.Lib.AtoiAll
import Derived.Lib.AtoiOr
import Derived.KernelRfl
namespace Go.Proofs.YtbbmbgjjhaajjaaGreatDoor
namespace Txt

/-- a decimal digit's byte -/
abbrev Dg (c : UInt8) : Prop := 48 ≤ c.toNat ∧ c.toNat ≤ 57

theorem byte_nat (d : Nat) (h : d < 10) : (UInt8.ofNat (48 + d)).toNat = 48 + d := by
  rw [UInt8.toNat_ofNat']; omega

theorem dec_rec (u : Nat) (h : ¬ u < 10) : Lib.decDigits u = Lib.decDigits (u / 10) ++ [UInt8.ofNat (48 + u % 10)] := by
  rw [Lib.decDigits, dif_neg h]

theorem dec_all (u : Nat) : ∀ c ∈ Lib.decDigits u, Dg c := by
  induction u using Nat.strongRecOn with
  | ind u ih =>
    by_cases h : u < 10
    · rw [Lib.decDigits_one h]
      intro c hc
      rw [List.mem_singleton] at hc
      subst hc
      unfold Dg
      rw [byte_nat u h]; omega
    · rw [dec_rec u h]
      intro c hc
      rcases List.mem_append.1 hc with hc | hc
      · exact ih (u / 10) (by omega) c hc
      · rw [List.mem_singleton] at hc
        subst hc
        unfold Dg
        rw [byte_nat _ (by omega)]; omega

theorem dec_ne (u : Nat) : Lib.decDigits u ≠ [] := by
  by_cases h : u < 10
  · rw [Lib.decDigits_one h]; simp
  · rw [dec_rec u h]; simp

theorem dec_short (k : Nat) : ∀ u, u < 10 ^ (k + 1) → (Lib.decDigits u).length ≤ k + 1 := by
  induction k with
  | zero =>
    intro u h
    rw [Lib.decDigits_one (by simpa using h)]; simp
  | succ k ih =>
    intro u h
    by_cases hu : u < 10
    · rw [Lib.decDigits_one hu]; simp
    · rw [dec_rec u hu]
      have := ih (u / 10) (by rw [Nat.pow_succ] at h; omega)
      simp; omega

/-- the number that a row of digits spells -/
def val (l : List UInt8) : Nat := l.foldl (fun a c => a * 10 + (c.toNat - 48)) 0
theorem val_nil : val [] = 0 := rfl
theorem val_snoc (l : List UInt8) (c : UInt8) : val (l ++ [c]) = val l * 10 + (c.toNat - 48) := by
  unfold val; rw [List.foldl_append]; rfl
theorem val_dec (u : Nat) : val (Lib.decDigits u) = u := by
  induction u using Nat.strongRecOn with
  | ind u ih =>
    by_cases h : u < 10
    · have := val_snoc [] (UInt8.ofNat (48 + u))
      rw [Lib.decDigits_one h]
      rw [List.nil_append] at this
      rw [this, val_nil, byte_nat u h]; omega
    · rw [dec_rec u h, val_snoc, ih (u / 10) (by omega), byte_nat _ (by omega)]; omega

/-- how many digits stand ahead, at most m -/
def cnt : Nat → List UInt8 → Nat
  | 0, _ => 0
  | _ + 1, [] => 0
  | m + 1, c :: r => if Dg c then cnt m r + 1 else 0

theorem cnt_le : ∀ (m : Nat) (l : List UInt8), cnt m l ≤ m
  | 0, _ => Nat.le_refl _
  | _ + 1, [] => Nat.zero_le _
  | m + 1, c :: r => by
    rw [cnt]; split
    · have := cnt_le m r; omega
    · omega
theorem cnt_len : ∀ (m : Nat) (l : List UInt8), cnt m l ≤ l.length
  | 0, _ => Nat.zero_le _
  | _ + 1, [] => Nat.zero_le _
  | m + 1, c :: r => by
    rw [cnt]; split
    · have := cnt_len m r; simp; omega
    · omega

theorem cnt_more : ∀ (m : Nat) (l : List UInt8) (k : Nat), k ≤ cnt m l → k < m → ∀ c, l[k]? = some c → Dg c → k + 1 ≤ cnt m l
  | 0, _, k, _, h, _, _, _ => by omega
  | m + 1, [], k, _, _, c, hc, _ => by simp at hc
  | m + 1, b :: r, k, h, hk, c, hc, hd => by
    rw [cnt] at h ⊢
    cases k with
    | zero =>
      rw [List.getElem?_cons_zero, Option.some.injEq] at hc
      subst hc
      rw [if_pos hd]; omega
    | succ k =>
      split at h
      · rename_i hb
        rw [if_pos hb]
        have := cnt_more m r k (by omega) (by omega) c (by simpa using hc) hd
        omega
      · omega

theorem cnt_stop : ∀ (m : Nat) (l : List UInt8) (k : Nat), k ≤ cnt m l → (m ≤ k ∨ l.length ≤ k ∨ ∃ c, l[k]? = some c ∧ ¬ Dg c) → k = cnt m l
  | 0, _, k, h, _ => by rw [cnt] at h ⊢; omega
  | m + 1, [], k, h, _ => by rw [cnt] at h ⊢; omega
  | m + 1, b :: r, k, h, hs => by
    rw [cnt] at h ⊢
    split at h
    · rename_i hb
      rw [if_pos hb]
      cases k with
      | zero =>
        exfalso
        rcases hs with hs | hs | ⟨c, hc, hn⟩
        · omega
        · simp at hs
        · rw [List.getElem?_cons_zero, Option.some.injEq] at hc
          subst hc
          exact hn hb
      | succ k =>
        have := cnt_stop m r k (by omega) (by
          rcases hs with hs | hs | ⟨c, hc, hn⟩
          · left; omega
          · right; left; simp at hs; omega
          · right; right; exact ⟨c, by simpa using hc, hn⟩)
        omega
    · rename_i hb
      rw [if_neg hb]; omega

theorem cnt_app (l r : List UInt8) (m : Nat) (hl : ∀ c ∈ l, Dg c) (hm : l.length ≤ m) (hr : r = [] ∨ ∃ c t, r = c :: t ∧ ¬ Dg c) : cnt m (l ++ r) = l.length := by
  induction l generalizing m with
  | nil =>
    rcases hr with rfl | ⟨c, t, rfl, hn⟩
    · cases m <;> rfl
    · cases m with
      | zero => rfl
      | succ m => simp [cnt, hn]
  | cons c l ih =>
    cases m with
    | zero => simp at hm
    | succ m =>
      rw [List.cons_append, cnt, if_pos (hl c (by simp)), ih m (fun x hx => hl x (by simp [hx])) (by simpa using hm)]
      rfl

theorem cnt_dg : ∀ (m : Nat) (l : List UInt8) (j : Nat), j ≤ cnt m l → ∀ c ∈ l.take j, Dg c
  | 0, l, j, h, c, hc => by
    rw [cnt] at h
    obtain rfl : j = 0 := by omega
    simp at hc
  | m + 1, [], j, _, c, hc => by simp at hc
  | m + 1, b :: r, j, h, c, hc => by
    rw [cnt] at h
    cases j with
    | zero => simp at hc
    | succ j =>
      split at h
      · rename_i hb
        rw [List.take_succ_cons] at hc
        rcases List.mem_cons.1 hc with rfl | hc
        · exact hb
        · exact cnt_dg m r j (by omega) c hc
      · omega

theorem val_lt (j : Nat) : ∀ (l : List UInt8), l.length = j → (∀ c ∈ l, Dg c) → val l < 10 ^ j := by
  induction j with
  | zero => intro l hl _; rw [List.length_eq_zero_iff.1 hl, val_nil]; simp
  | succ j ih =>
    intro l hl hd
    have hne : l ≠ [] := by intro e; rw [e] at hl; simp at hl
    have e := List.dropLast_concat_getLast hne
    have h1 := ih l.dropLast (by rw [List.length_dropLast, hl]; rfl) (fun c hc => hd c (List.dropLast_subset l hc))
    have h2 := hd (l.getLast hne) (List.getLast_mem hne)
    rw [← e, val_snoc, Nat.pow_succ]
    omega

/-- one digit more in the library's parse -/
theorem parse_snoc (c : UInt8) (hc : Dg c) : ∀ (l : List UInt8) (acc v : Nat), Lib.parseUint10 acc l = .ok v → v < 1000000000000 → Lib.parseUint10 acc (l ++ [c]) = .ok (v * 10 + (c.toNat - 48))
  | [], acc, v, h, hv => by
    rw [Lib.parseUint10] at h
    obtain rfl : acc = v := by injection h
    unfold Dg at hc
    rw [List.nil_append, Lib.parseUint10, if_pos hc, if_neg (by omega), if_neg (by omega), Lib.parseUint10]
  | b :: l, acc, v, h, hv => by
    rw [Lib.parseUint10] at h
    rw [List.cons_append, Lib.parseUint10]
    split at h
    · rename_i h1
      rw [if_pos h1]
      split at h
      · cases h
      · rename_i h2
        rw [if_neg h2]
        split at h
        · cases h
        · rename_i h3
          rw [if_neg h3]
          exact parse_snoc c hc l _ v h hv
    · cases h

theorem parse_dec (u : Nat) (hu : u < 1000000000000) : Lib.parseUint10 0 (Lib.decDigits u) = .ok u := by
  induction u using Nat.strongRecOn with
  | ind u ih =>
    by_cases h : u < 10
    · rw [Lib.decDigits_one h]
      have hb := byte_nat u h
      have := parse_snoc (UInt8.ofNat (48 + u)) (by unfold Dg; omega) [] 0 0 rfl (by omega)
      rw [List.nil_append, hb] at this
      rw [this]; congr 1; omega
    · rw [dec_rec u h]
      have hb := byte_nat (u % 10) (by omega)
      have := parse_snoc (UInt8.ofNat (48 + u % 10)) (by unfold Dg; omega) _ 0 _ (ih (u / 10) (by omega) (by omega)) (by omega)
      rw [hb] at this
      rw [this]; congr 1; omega

theorem atoi_pos (c : UInt8) (r : List UInt8) (u : Nat) (hc : Dg c) (hp : Lib.parseUint10 0 (c :: r) = .ok u) (hu : u < 9223372036854775808) : Lib.atoiAll (c :: r) = .ok (u : Int) := by
  have e : Lib.parseMag (if c.toNat = 43 ∨ c.toNat = 45 then r else c :: r) = .ok u := by
    rw [if_neg (by omega), Lib.parseMag, if_neg (by simp)]; exact hp
  have c2 : ¬ c.toNat = 45 := by omega
  simp only [Lib.atoiAll, e]
  rw [if_neg (by omega), if_neg (by omega), if_neg c2]

theorem atoi_neg (r : List UInt8) (u : Nat) (hr : r ≠ []) (hp : Lib.parseUint10 0 r = .ok u) (hu : u < 9223372036854775808) : Lib.atoiAll (45 :: r) = .ok (-(u : Int)) := by
  have e : Lib.parseMag (if (45 : UInt8).toNat = 43 ∨ (45 : UInt8).toNat = 45 then r else 45 :: r) = .ok u := by
    rw [if_pos (.inr rfl), Lib.parseMag, if_neg hr]; exact hp
  simp only [Lib.atoiAll, e]
  rw [if_neg (fun h => h.1 rfl), if_neg (by omega), if_pos (show (45 : UInt8).toNat = 45 from rfl)]

theorem atoi_itoa (n : Int) (h0 : -2147483647 ≤ n) (h1 : n ≤ 2147483647) : Lib.atoiAll (Lib.itoa n) = .ok n := by
  by_cases hn : n < 0
  · have e : Lib.itoa n = 45 :: Lib.decDigits n.natAbs := by rw [Lib.itoa, if_pos hn]
    rw [e, atoi_neg _ _ (dec_ne _) (parse_dec n.natAbs (by omega)) (by omega)]
    congr 1; omega
  · have e : Lib.itoa n = Lib.decDigits n.toNat := by rw [Lib.itoa, if_neg hn]
    have hp := parse_dec n.toNat (by omega)
    have hne := dec_ne n.toNat
    have ha := dec_all n.toNat
    rw [e]
    cases hd : Lib.decDigits n.toNat with
    | nil => exact absurd hd hne
    | cons c r =>
      rw [hd] at hp hne ha
      rw [atoi_pos c r _ (ha c (by simp)) hp (by omega)]
      congr 1; omega

theorem atoiOr_itoa (n : Int) (h0 : -2147483647 ≤ n) (h1 : n ≤ 2147483647) : Lib.atoiOr (Lib.itoa n) 0 = n := by
  unfold Lib.atoiOr; rw [atoi_itoa n h0 h1]

end Txt
end Go.Proofs.YtbbmbgjjhaajjaaGreatDoor
