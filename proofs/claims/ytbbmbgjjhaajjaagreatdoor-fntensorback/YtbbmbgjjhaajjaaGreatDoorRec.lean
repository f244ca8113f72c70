/- Plain numbers, no program: which fraction a remainder has, by trying every denominator and by Euclid's steps: the two agree. -/
import Derived.KernelRfl
namespace Go.Proofs.YtbbmbgjjhaajjaaGreatDoor
namespace Rec
set_option linter.unusedSimpArgs false

/-- n over d is a fraction with small parts of which the number is x -/
def Hit (x n d : Int) : Prop := 1 ≤ d ∧ d ≤ 32767 ∧ -32767 ≤ n ∧ n ≤ 32767 ∧ (d * x - n) % 2147483647 = 0

/-- what ToFrac must answer: the hit with the least denominator, or that there is none -/
def TF (x : Int) : Option (Int × Int) → Prop
  | some (n, d) => Hit x n d ∧ ∀ n' d', Hit x n' d' → d ≤ d'
  | none => ∀ n d, ¬ Hit x n d

theorem hit_num {x n n' d : Int} (h : Hit x n d) (h' : Hit x n' d) : n = n' := by
  obtain ⟨_, _, a, b, c⟩ := h
  obtain ⟨_, _, a', b', c'⟩ := h'
  generalize d * x = z at *
  omega

theorem TF_one {x : Int} {r r' : Option (Int × Int)} (h : TF x r) (h' : TF x r') : r = r' := by
  match r, r' with
  | none, none => rfl
  | none, some (n, d) => exact absurd h'.1 (h n d)
  | some (n, d), none => exact absurd h.1 (h' n d)
  | some (n, d), some (n', d') =>
    have e : d = d' := by
      have := h.2 n' d' h'.1
      have := h'.2 n d h.1
      omega
    subst e
    rw [hit_num h.1 h'.1]

/-- no number from 2 to 32767 divides the prime -/
def freeFrom : Nat → Nat → Bool
  | 0, _ => true
  | k + 1, g => (2147483647 % g != 0) && freeFrom k (g + 1)

theorem freeFrom_gives : ∀ (k g m : Nat), freeFrom k g = true → g ≤ m → m < g + k → 2147483647 % m ≠ 0
  | 0, g, m, _, h1, h2 => by omega
  | k + 1, g, m, h, h1, h2 => by
    simp only [freeFrom, Bool.and_eq_true, bne_iff_ne, ne_eq] at h
    by_cases e : m = g
    · subst e; exact h.1
    · exact freeFrom_gives k (g + 1) m h.2 (by omega) (by omega)

theorem free_all : freeFrom 32766 2 = true := by kernel_rfl

theorem free (m : Nat) (h1 : 2 ≤ m) (h2 : m ≤ 32767) : 2147483647 % m ≠ 0 :=
  freeFrom_gives 32766 2 m free_all h1 (by omega)

theorem dvd_of_emod {z : Int} (h : z % 2147483647 = 0) : ∃ k, z = k * 2147483647 := ⟨z / 2147483647, by omega⟩

/-- at the end of Euclid's steps every hit is a multiple of the lower row: the case in which the lower row's second number is above 0 -/
theorem end_pos {x u0 u1 l0 l1 n d : Int} (hu : (u1 * x - u0) % 2147483647 = 0) (hl : (l1 * x - l0) % 2147483647 = 0)
    (hu0 : 32767 < u0) (hl0 : 0 ≤ l0) (hl0' : l0 ≤ 32767) (hu1 : u1 ≤ 0) (hl1 : 1 ≤ l1) (hdet : u0 * l1 - l0 * u1 = 2147483647)
    (h : Hit x n d) : ∃ k, 1 ≤ k ∧ n = k * l0 ∧ d = k * l1 := by
  obtain ⟨hd1, hd2, hn1, hn2, hx⟩ := h
  obtain ⟨a, ha⟩ := dvd_of_emod hu
  obtain ⟨b, hb⟩ := dvd_of_emod hl
  obtain ⟨c, hc⟩ := dvd_of_emod hx
  have eu : u0 = u1 * x - a * 2147483647 := by omega
  have el : l0 = l1 * x - b * 2147483647 := by omega
  have en : n = d * x - c * 2147483647 := by omega
  -- the two determinants are multiples of the prime
  obtain ⟨X, hX⟩ : ∃ X, n * l1 - d * l0 = X * 2147483647 := ⟨d * b - c * l1, by rw [en, el]; simp only [Int.mul_add, Int.add_mul, Int.mul_sub, Int.sub_mul, Int.mul_assoc, Int.mul_comm, Int.mul_left_comm]; omega⟩
  obtain ⟨Y, hY⟩ : ∃ Y, d * u0 - n * u1 = Y * 2147483647 := ⟨c * u1 - d * a, by rw [en, eu]; simp only [Int.mul_add, Int.add_mul, Int.mul_sub, Int.sub_mul, Int.mul_assoc, Int.mul_comm, Int.mul_left_comm]; omega⟩
  have e1 : n * (u0 * l1 - l0 * u1) = u0 * (n * l1 - d * l0) + l0 * (d * u0 - n * u1) := by simp only [Int.mul_add, Int.add_mul, Int.mul_sub, Int.sub_mul, Int.mul_assoc, Int.mul_comm, Int.mul_left_comm]; omega
  have e2 : d * (u0 * l1 - l0 * u1) = u1 * (n * l1 - d * l0) + l1 * (d * u0 - n * u1) := by simp only [Int.mul_add, Int.add_mul, Int.mul_sub, Int.sub_mul, Int.mul_assoc, Int.mul_comm, Int.mul_left_comm]; omega
  rw [hdet, hX, hY] at e1 e2
  have f1 : n = u0 * X + l0 * Y := by
    have : u0 * (X * 2147483647) + l0 * (Y * 2147483647) = (u0 * X + l0 * Y) * 2147483647 := by simp only [Int.mul_add, Int.add_mul, Int.mul_sub, Int.sub_mul, Int.mul_assoc, Int.mul_comm, Int.mul_left_comm]
    omega
  have f2 : d = u1 * X + l1 * Y := by
    have : u1 * (X * 2147483647) + l1 * (Y * 2147483647) = (u1 * X + l1 * Y) * 2147483647 := by simp only [Int.mul_add, Int.add_mul, Int.mul_sub, Int.sub_mul, Int.mul_assoc, Int.mul_comm, Int.mul_left_comm]
    omega
  have hX0 : X = 0 := by
    by_cases h1 : 1 ≤ X
    · exfalso
      have g1 : u1 * X ≤ 0 := Int.mul_nonpos_of_nonpos_of_nonneg hu1 (by omega)
      have g2 : 1 ≤ Y := by
        by_cases hy : 1 ≤ Y
        · exact hy
        · have := Int.mul_nonpos_of_nonneg_of_nonpos (a := l1) (b := Y) (by omega) (by omega)
          omega
      have g3 : 0 ≤ l0 * Y := Int.mul_nonneg hl0 (by omega)
      have g4 : u0 * 1 ≤ u0 * X := Int.mul_le_mul_of_nonneg_left h1 (by omega)
      omega
    · by_cases h2 : X ≤ -1
      · exfalso
        have g1 : 0 ≤ u1 * X := Int.mul_nonneg_of_nonpos_of_nonpos hu1 (by omega)
        have g4 : u0 * X ≤ u0 * (-1) := Int.mul_le_mul_of_nonneg_left h2 (by omega)
        have g2 : 1 ≤ Y := by
          by_cases hy : 1 ≤ Y
          · exact hy
          · have := Int.mul_nonpos_of_nonneg_of_nonpos (a := l0) (b := Y) (by omega) (by omega)
            omega
        have g3 : l1 * 1 ≤ l1 * Y := Int.mul_le_mul_of_nonneg_left g2 (by omega)
        have g5 : l1 ≤ 32767 := by omega
        have g6 : -(32767 * 32767) ≤ n * l1 := by
          have := Int.mul_le_mul_of_nonneg_right hn1 (show 0 ≤ l1 by omega)
          omega
        have g7 : d * l0 ≤ 32767 * 32767 := Int.mul_le_mul hd2 hl0' hl0 (by omega)
        omega
      · omega
  subst hX0
  refine ⟨Y, ?_, by rw [f1, Int.mul_zero, Int.zero_add, Int.mul_comm], by rw [f2, Int.mul_zero, Int.zero_add, Int.mul_comm]⟩
  by_cases hy : 1 ≤ Y
  · exact hy
  · have := Int.mul_nonpos_of_nonneg_of_nonpos (a := l1) (b := Y) (by omega) (by omega)
    omega

/-- the same with the lower row's second number below 0 -/
theorem end_neg {x u0 u1 l0 l1 n d : Int} (hu : (u1 * x - u0) % 2147483647 = 0) (hl : (l1 * x - l0) % 2147483647 = 0)
    (hu0 : 32767 < u0) (hl0 : 0 ≤ l0) (hl0' : l0 ≤ 32767) (hu1 : 0 ≤ u1) (hl1 : l1 ≤ -1) (hdet : l0 * u1 - u0 * l1 = 2147483647)
    (h : Hit x n d) : ∃ k, 1 ≤ k ∧ n = k * -l0 ∧ d = k * -l1 := by
  have h' : Hit (-x) (-n) d := by
    obtain ⟨hd1, hd2, hn1, hn2, hx⟩ := h
    refine ⟨hd1, hd2, by omega, by omega, ?_⟩
    rw [Int.mul_neg]; omega
  obtain ⟨k, hk, e1, e2⟩ := end_pos (x := -x) (u0 := u0) (u1 := -u1) (l0 := l0) (l1 := -l1) (n := -n) (d := d)
    (by rw [Int.neg_mul_neg]; exact hu) (by rw [Int.neg_mul_neg]; exact hl) hu0 hl0 hl0' (by omega) (by omega) (by rw [Int.mul_neg, Int.mul_neg]; omega) h'
  exact ⟨k, hk, by rw [Int.mul_neg]; omega, e2⟩

/-- the rows of Euclid's steps -/
structure Row (x u0 u1 l0 l1 : Int) : Prop where
  hu : (u1 * x - u0) % 2147483647 = 0
  hl : (l1 * x - l0) % 2147483647 = 0
  u0lo : 32767 < u0
  u0hi : u0 ≤ 2147483647
  l0lo : 0 ≤ l0
  l0hi : l0 < u0
  det : (u1 ≤ 0 ∧ 1 ≤ l1 ∧ u0 * l1 - l0 * u1 = 2147483647) ∨ (0 ≤ u1 ∧ l1 ≤ -1 ∧ l0 * u1 - u0 * l1 = 2147483647)

theorem row_start (x : Int) (h0 : 0 ≤ x) (h1 : x < 2147483647) : Row x 2147483647 0 x 1 :=
  ⟨by omega, by omega, by omega, by omega, h0, h1, .inl ⟨by omega, by omega, by omega⟩⟩

theorem row_step {x u0 u1 l0 l1 : Int} (h : Row x u0 u1 l0 l1) (hl : 32767 < l0) :
    Row x l0 l1 (u0 - u0 / l0 * l0) (u1 - u0 / l0 * l1) := by
  have hm : u0 - u0 / l0 * l0 = u0 % l0 := by rw [Int.emod_def, Int.mul_comm l0]
  have m0 : 0 ≤ u0 % l0 := Int.emod_nonneg _ (by omega)
  have m1 : u0 % l0 < l0 := Int.emod_lt_of_pos _ (by omega)
  have q0 : 0 ≤ u0 / l0 := Int.ediv_nonneg (by have := h.u0lo; omega) (by omega)
  have hu := h.hu
  have hll := h.hl
  have u0hi := h.u0hi
  have l0hi := h.l0hi
  refine ⟨hll, ?_, hl, by omega, by rw [hm]; exact m0, by rw [hm]; exact m1, ?_⟩
  · obtain ⟨a, ha⟩ := dvd_of_emod hu
    obtain ⟨b, hb⟩ := dvd_of_emod hll
    have e : (u1 - u0 / l0 * l1) * x - (u0 - u0 / l0 * l0) = (u1 * x - u0) - u0 / l0 * (l1 * x - l0) := by
      generalize u0 / l0 = q
      simp only [Int.mul_add, Int.add_mul, Int.mul_sub, Int.sub_mul, Int.mul_assoc, Int.mul_comm, Int.mul_left_comm]; omega
    have : (u1 - u0 / l0 * l1) * x - (u0 - u0 / l0 * l0) = (a - u0 / l0 * b) * 2147483647 := by rw [e, ha, hb, Int.sub_mul, Int.mul_assoc]
    rw [this]; omega
  · generalize u0 / l0 = q at *
    rcases h.det with ⟨d1, d2, d3⟩ | ⟨d1, d2, d3⟩
    · right
      have e : (u0 - q * l0) * l1 - l0 * (u1 - q * l1) = u0 * l1 - l0 * u1 := by simp only [Int.mul_add, Int.add_mul, Int.mul_sub, Int.sub_mul, Int.mul_assoc, Int.mul_comm, Int.mul_left_comm]; omega
      refine ⟨by omega, ?_, by rw [e]; exact d3⟩
      by_cases g : u1 - q * l1 ≤ -1
      · exact g
      · exfalso
        have g1 : 0 ≤ (u0 - q * l0) * l1 := Int.mul_nonneg (by omega) (by omega)
        have g2 : 0 ≤ l0 * (u1 - q * l1) := Int.mul_nonneg (by omega) (by omega)
        have : (u0 - q * l0) * l1 - l0 * (u1 - q * l1) = u0 * l1 - l0 * u1 := by simp only [Int.mul_add, Int.add_mul, Int.mul_sub, Int.sub_mul, Int.mul_assoc, Int.mul_comm, Int.mul_left_comm]; omega
        have g3 : 0 ≤ q * l1 := Int.mul_nonneg q0 (by omega)
        have g4 : u1 - q * l1 = 0 := by omega
        have g5 : u1 = 0 := by omega
        have g6 : q * l1 = 0 := by omega
        have g7 : q = 0 := by
          rcases Int.mul_eq_zero.1 g6 with e | e
          · exact e
          · omega
        subst g7
        omega
    · left
      have e : l0 * (u1 - q * l1) - (u0 - q * l0) * l1 = l0 * u1 - u0 * l1 := by simp only [Int.mul_add, Int.add_mul, Int.mul_sub, Int.sub_mul, Int.mul_assoc, Int.mul_comm, Int.mul_left_comm]; omega
      refine ⟨by omega, ?_, by rw [e]; exact d3⟩
      by_cases g : 1 ≤ u1 - q * l1
      · exact g
      · exfalso
        have g3 : q * l1 ≤ 0 := Int.mul_nonpos_of_nonneg_of_nonpos q0 (by omega)
        have g4 : u1 - q * l1 = 0 := by omega
        have g6 : q * l1 = 0 := by omega
        have g7 : q = 0 := by
          rcases Int.mul_eq_zero.1 g6 with e | e
          · exact e
          · omega
        subst g7
        omega

/-- how great the second numbers of two rows can be -/
theorem row_bd {x u0 u1 l0 l1 : Int} (h : Row x u0 u1 l0 l1) : -2147483647 ≤ l1 ∧ l1 ≤ 2147483647 ∧ (1 ≤ l0 → -2147483647 ≤ u1 ∧ u1 ≤ 2147483647) := by
  have a := h.u0lo
  have b := h.l0lo
  rcases h.det with ⟨d1, d2, d3⟩ | ⟨d1, d2, d3⟩
  · have g1 : 1 * l1 ≤ u0 * l1 := Int.mul_le_mul_of_nonneg_right (by omega) (by omega)
    have g2 : l0 * u1 ≤ 0 := Int.mul_nonpos_of_nonneg_of_nonpos b d1
    refine ⟨by omega, by omega, fun hl => ?_⟩
    have g3 : 1 * -u1 ≤ l0 * -u1 := Int.mul_le_mul_of_nonneg_right hl (by omega)
    have g4 : 0 ≤ u0 * l1 := Int.mul_nonneg (by omega) (by omega)
    rw [Int.mul_neg l0] at g3
    omega
  · have g1 : 1 * -l1 ≤ u0 * -l1 := Int.mul_le_mul_of_nonneg_right (by omega) (by omega)
    have g2 : 0 ≤ l0 * u1 := Int.mul_nonneg b d1
    rw [Int.mul_neg u0] at g1
    refine ⟨by omega, by omega, fun hl => ?_⟩
    have g3 : 1 * u1 ≤ l0 * u1 := Int.mul_le_mul_of_nonneg_right hl (by omega)
    have g4 : u0 * l1 ≤ 0 := Int.mul_nonpos_of_nonneg_of_nonpos (by omega) (by omega)
    omega

/-- a step's product -/
theorem step_bd {x u0 u1 l0 l1 : Int} (h : Row x u0 u1 l0 l1) (hl : 32767 < l0) :
    0 ≤ u0 / l0 ∧ u0 / l0 ≤ 2147483647 ∧ 0 ≤ u0 / l0 * l0 ∧ u0 / l0 * l0 ≤ 2147483647 ∧ -4294967294 ≤ u0 / l0 * l1 ∧ u0 / l0 * l1 ≤ 4294967294 ∧ -2147483647 ≤ u1 ∧ u1 ≤ 2147483647 ∧ -2147483647 ≤ l1 ∧ l1 ≤ 2147483647 := by
  have b := row_bd h
  have s := row_step h hl
  have c := row_bd s
  have q0 : 0 ≤ u0 / l0 := Int.ediv_nonneg (by have := h.u0lo; omega) (by omega)
  have q1 : 0 ≤ u0 / l0 * l0 := Int.mul_nonneg q0 (by omega)
  have q2 := s.l0lo
  have q3 := h.u0hi
  have q4 : u0 / l0 * 1 ≤ u0 / l0 * l0 := Int.mul_le_mul_of_nonneg_left (by omega) q0
  have := b.2.2 (by omega)
  omega

/-- what Euclid's steps end with: the fraction, its sign put right -/
def top (l0 l1 : Int) : Int := if l1 < 0 then -l0 else l0
def bot (l1 : Int) : Int := if l1 < 0 then -l1 else l1

theorem end_all {x u0 u1 l0 l1 : Int} (h : Row x u0 u1 l0 l1) (hl : l0 ≤ 32767) {n d : Int} (hh : Hit x n d) :
    ∃ k, 1 ≤ k ∧ n = k * top l0 l1 ∧ d = k * bot l1 := by
  rcases h.det with ⟨d1, d2, d3⟩ | ⟨d1, d2, d3⟩
  · rw [top, bot, if_neg (by omega), if_neg (by omega)]
    exact end_pos h.hu h.hl h.u0lo h.l0lo hl d1 d2 d3 hh
  · rw [top, bot, if_pos (by omega), if_pos (by omega)]
    exact end_neg h.hu h.hl h.u0lo h.l0lo hl d1 d2 d3 hh

theorem bot_pos {x u0 u1 l0 l1 : Int} (h : Row x u0 u1 l0 l1) : 1 ≤ bot l1 := by
  unfold bot
  rcases h.det with ⟨d1, d2, d3⟩ | ⟨d1, d2, d3⟩
  · rw [if_neg (by omega)]; omega
  · rw [if_pos (by omega)]; omega

theorem top_bd {x u0 u1 l0 l1 : Int} (h : Row x u0 u1 l0 l1) (hl : l0 ≤ 32767) : -32767 ≤ top l0 l1 ∧ top l0 l1 ≤ 32767 := by
  have := h.l0lo
  unfold top
  split <;> omega

theorem top_bot {x u0 u1 l0 l1 : Int} (h : Row x u0 u1 l0 l1) : (bot l1 * x - top l0 l1) % 2147483647 = 0 := by
  have := h.hl
  unfold top bot
  split
  · rw [Int.neg_mul]; omega
  · exact this

theorem gcd_one {x u0 u1 l0 l1 : Int} (h : Row x u0 u1 l0 l1) (hb : bot l1 ≤ 32767) : Int.gcd (bot l1) (top l0 l1) = 1 := by
  have h1 := bot_pos h
  have e : ∃ c e : Int, c * bot l1 + e * top l0 l1 = 2147483647 := by
    unfold top bot
    rcases h.det with ⟨d1, d2, d3⟩ | ⟨d1, d2, d3⟩
    · rw [if_neg (by omega), if_neg (by omega)]
      exact ⟨u0, -u1, by rw [Int.neg_mul, Int.mul_comm u1]; omega⟩
    · rw [if_pos (by omega), if_pos (by omega)]
      exact ⟨u0, -u1, by rw [Int.neg_mul_neg, Int.mul_neg, Int.mul_comm u1]; omega⟩
  obtain ⟨c, e, he⟩ := e
  generalize bot l1 = b at *
  generalize top l0 l1 = t at *
  have g1 : ((Int.gcd b t : Nat) : Int) ∣ 2147483647 := by
    rw [← he]
    exact Int.dvd_add (Int.dvd_mul_of_dvd_right (Int.gcd_dvd_left ..)) (Int.dvd_mul_of_dvd_right (Int.gcd_dvd_right ..))
  have g2 : Int.gcd b t ∣ 2147483647 := by
    have := Int.natAbs_dvd_natAbs.2 g1
    simpa using this
  have g3 : (Int.gcd b t : Int) ≤ b := Int.le_of_dvd (by omega) (Int.gcd_dvd_left ..)
  have g4 : 0 < Int.gcd b t := Int.gcd_pos_of_ne_zero_left _ (by omega)
  by_cases g5 : 2 ≤ Int.gcd b t
  · exact absurd (Nat.mod_eq_zero_of_dvd g2) (free _ g5 (by omega))
  · omega

/-- the end of Euclid's steps is what ToFrac must answer -/
theorem end_TF {x u0 u1 l0 l1 : Int} (h : Row x u0 u1 l0 l1) (hl : l0 ≤ 32767) :
    (bot l1 ≤ 32767 ∧ Int.gcd (bot l1) (top l0 l1) = 1 → TF x (some (top l0 l1, bot l1))) ∧
    (¬ (bot l1 ≤ 32767 ∧ Int.gcd (bot l1) (top l0 l1) = 1) → TF x none) := by
  have hb := bot_pos h
  have ht := top_bd h hl
  constructor
  · intro hk
    refine ⟨⟨hb, hk.1, ht.1, ht.2, top_bot h⟩, fun n' d' hh => ?_⟩
    obtain ⟨k, k1, _, e⟩ := end_all h hl hh
    have : 1 * bot l1 ≤ k * bot l1 := Int.mul_le_mul_of_nonneg_right k1 (by omega)
    omega
  · intro hk n d hh
    obtain ⟨k, k1, _, e⟩ := end_all h hl hh
    have g : 1 * bot l1 ≤ k * bot l1 := Int.mul_le_mul_of_nonneg_right k1 (by omega)
    have g2 := hh.2.1
    exact hk ⟨by omega, gcd_one h (by omega)⟩

/-- an answer of ToFrac: the parts and the flag -/
def Ans (x n d : Int) (b : Bool) : Prop := (b = true ∧ TF x (some (n, d))) ∨ (b = false ∧ n = 0 ∧ d = 0 ∧ TF x none)

theorem Ans_one {x n d n' d' : Int} {b b' : Bool} (h : Ans x n d b) (h' : Ans x n' d' b') : n = n' ∧ d = d' ∧ b = b' := by
  rcases h with ⟨rfl, h⟩ | ⟨rfl, rfl, rfl, h⟩ <;> rcases h' with ⟨rfl, h'⟩ | ⟨rfl, rfl, rfl, h'⟩
  · have := TF_one h h'
    simp only [Option.some.injEq, Prod.mk.injEq] at this
    exact ⟨this.1, this.2, rfl⟩
  · have := TF_one h h'; simp at this
  · have := TF_one h h'; simp at this
  · exact ⟨rfl, rfl, rfl⟩

/-- trying the denominators in turn: no hit lies below k -/
def Clear (x k : Int) : Prop := ∀ n' d', Hit x n' d' → k ≤ d'

theorem clear_one (x : Int) : Clear x 1 := fun _ _ h => h.1

theorem clear_end {x : Int} (h : Clear x 32768) : Ans x 0 0 false :=
  .inr ⟨rfl, rfl, rfl, fun n d hh => by have := h n d hh; have := hh.2.1; omega⟩

theorem try_hit {x k n : Int} (h : Clear x k) (k0 : 1 ≤ k) (k1 : k ≤ 32767) (n0 : -32767 ≤ n) (n1 : n ≤ 32767) (e : n = k * x % 2147483647 ∨ n = k * x % 2147483647 - 2147483647) : Ans x n k true := by
  refine .inl ⟨rfl, ⟨k0, k1, n0, n1, ?_⟩, h⟩
  generalize k * x = z at *
  omega

theorem try_miss {x k : Int} (h : Clear x k) (e : (32767 < k * x % 2147483647 ∧ k * x % 2147483647 < 2147450880)) : Clear x (k + 1) := by
  intro n' d' hh
  have h1 := h n' d' hh
  by_cases hk : d' = k
  · subst hk
    obtain ⟨_, _, a, b, c⟩ := hh
    generalize d' * x = z at *
    omega
  · omega

theorem next_mul {x k y : Int} (x0 : 0 ≤ x) (x1 : x < 2147483647) (hy : y = (k - 1) * x % 2147483647) :
    k * x % 2147483647 = if 2147483647 ≤ y + x then y + x - 2147483647 else y + x := by
  have e : k * x = (k - 1) * x + x := by rw [Int.sub_mul]; omega
  rw [e]
  generalize (k - 1) * x = z at *
  split <;> omega

/-- what Euclid's steps end with, as an answer -/
theorem end_Ans {x u0 u1 l0 l1 : Int} (h : Row x u0 u1 l0 l1) (hl : l0 ≤ 32767) :
    (bot l1 ≤ 32767 ∧ Int.gcd (bot l1) (top l0 l1) = 1 → Ans x (top l0 l1) (bot l1) true) ∧
    (¬ (bot l1 ≤ 32767 ∧ Int.gcd (bot l1) (top l0 l1) = 1) → Ans x 0 0 false) :=
  ⟨fun g => .inl ⟨rfl, (end_TF h hl).1 g⟩, fun g => .inr ⟨rfl, rfl, rfl, (end_TF h hl).2 g⟩⟩

end Rec
end Go.Proofs.YtbbmbgjjhaajjaaGreatDoor
