/- Fractions that are added and multiplied: the exact outcome in lowest terms is the one that the numbers have. -/
import Derived.Test.YthconcaoldpbnaaDoorGuess
import Derived.Test.YthconcaoldpbnaaDoorOfFrac
import Derived.Test.YthconcaoldpbnaaDoorDraw
namespace Go.Proofs.YthconcaoldpbnaaDoor
namespace Base
open Go.ChangeShapes Go.WideShapes Go.ChangeAt Go.RowKit
set_option linter.unusedVariables false
set_option linter.unusedSimpArgs false

/-- a fraction in lowest terms, of which x is the number, is the one with the least denominator -/
theorem ans_mk {x n d : Int} (x0 : 0 ≤ x) (x1 : x < 2147483647) (ho : okB n d = true) (hx : (d * x - n) % 2147483647 = 0) : Rec.Ans x n d true := by
  unfold okB at ho
  rw [decide_eq_true_eq] at ho
  obtain ⟨d0, d1, n0, n1, hg⟩ := ho
  refine .inl ⟨rfl, ⟨d0, d1, n0, n1, hx⟩, fun n' d' hh => ?_⟩
  obtain ⟨e0, e1, m0, m1, hx'⟩ := hh
  -- n d' and n' d are the same remainder, and both are small
  have h1 : (n * d' - n' * d) % 2147483647 = 0 := by
    obtain ⟨p, hp⟩ := Rec.dvd_of_emod hx
    obtain ⟨q, hq⟩ := Rec.dvd_of_emod hx'
    have en : n = d * x - p * 2147483647 := by omega
    have en' : n' = d' * x - q * 2147483647 := by omega
    have : n * d' - n' * d = (q * d - p * d') * 2147483647 := by
      rw [en, en']
      simp only [Int.mul_sub, Int.sub_mul, Int.mul_assoc, Int.mul_comm, Int.mul_left_comm]; omega
    rw [this]; omega
  have b1 : -(32767 * 32767) ≤ n * d' ∧ n * d' ≤ 32767 * 32767 := by
    have u1 := Int.mul_le_mul_of_nonneg_right n1 (show 0 ≤ d' by omega)
    have u2 := Int.mul_le_mul_of_nonneg_right n0 (show 0 ≤ d' by omega)
    omega
  have b2 : -(32767 * 32767) ≤ n' * d ∧ n' * d ≤ 32767 * 32767 := by
    have u1 := Int.mul_le_mul_of_nonneg_right m1 (show 0 ≤ d by omega)
    have u2 := Int.mul_le_mul_of_nonneg_right m0 (show 0 ≤ d by omega)
    omega
  have h2 : n * d' = n' * d := by omega
  -- so d divides n d', and has no common divisor with n
  have h3 : d.natAbs ∣ n.natAbs * d'.natAbs := by
    rw [← Int.natAbs_mul, h2, Int.natAbs_mul]; exact Nat.dvd_mul_left ..
  have h4 : d.natAbs ∣ d'.natAbs := Nat.Coprime.dvd_of_dvd_mul_left hg h3
  have := Nat.le_of_dvd (by omega) h4
  omega

theorem ofF_hit {n d : Int} (ho : okB n d = true) : (d * ofF n d - n) % 2147483647 = 0 := by
  obtain ⟨d0, d1, n0, n1⟩ := okB_bd ho
  have e : ofF n d = n % 2147483647 * Num.pw (d % 2147483647) 2147483645 % 2147483647 := by unfold ofF; rw [if_pos ho]
  have hv := Ferm.inv_one d d0 (by omega)
  have ed : d % 2147483647 = d := by omega
  rw [e, ed]
  generalize Num.pw d 2147483645 = v at *
  have h1 : d * (n % 2147483647 * v % 2147483647) % 2147483647 = n % 2147483647 := by
    rw [Num.mul_r, Int.mul_left_comm, Int.mul_emod, hv, Int.mul_one, Int.emod_emod, Int.emod_emod]
  generalize d * (n % 2147483647 * v % 2147483647) = z at *
  omega

theorem ans_ofF {n d : Int} (ho : okB n d = true) : Rec.Ans (ofF n d) n d true :=
  ans_mk (ofF_bd n d).1 (ofF_bd n d).2 ho (ofF_hit ho)

/-- a common factor that the prime doesn't share goes out -/
theorem cancel {g : Nat} {z : Int} (g0 : 0 < g) (g1 : g < 2147483647) (h : ((g : Int) * z) % 2147483647 = 0) : z % 2147483647 = 0 := by
  have hc := Ferm.prime_gcd g g0 g1
  have h1 : (2147483647 : Int) ∣ (g : Int) * z := Int.dvd_of_emod_eq_zero h
  have h2 : 2147483647 ∣ g * z.natAbs := by
    have := Int.natAbs_dvd_natAbs.2 h1
    rwa [Int.natAbs_mul, Int.natAbs_natCast] at this
  have h3 : 2147483647 ∣ z.natAbs := Nat.Coprime.dvd_of_dvd_mul_left hc h2
  exact Int.emod_eq_zero_of_dvd (Int.ofNat_dvd_left.2 h3)

theorem prod_bd {a b : Int} (a0 : 1 ≤ a) (a1 : a ≤ 32767) (b0 : 1 ≤ b) (b1 : b ≤ 32767) : 1 ≤ a * b ∧ a * b ≤ 1073676289 := by
  have u1 := Int.mul_le_mul a1 b1 (by omega) (by omega)
  have u2 := Int.mul_le_mul a0 b0 (by omega) (by omega)
  omega
theorem cross_bd {n d : Int} (n0 : -32767 ≤ n) (n1 : n ≤ 32767) (d0 : 1 ≤ d) (d1 : d ≤ 32767) : -1073676289 ≤ n * d ∧ n * d ≤ 1073676289 := by
  have u1 := Int.mul_le_mul_of_nonneg_right n1 (show 0 ≤ d by omega)
  have u2 := Int.mul_le_mul_of_nonneg_right n0 (show 0 ≤ d by omega)
  omega

/-- a fraction's parts by their greatest common divisor -/
def frN (n d : Int) : Int := n / (Int.gcd n d : Int)
def frD (n d : Int) : Int := d / (Int.gcd n d : Int)
theorem fr_parts (n d : Int) (hd : 1 ≤ d) : 0 < Int.gcd n d ∧ (Int.gcd n d : Int) ≤ d ∧ (Int.gcd n d : Int) * frN n d = n ∧ (Int.gcd n d : Int) * frD n d = d :=
  ⟨Int.gcd_pos_of_ne_zero_right _ (by omega), Int.le_of_dvd (by omega) (Int.gcd_dvd_right n d), Int.mul_ediv_cancel' (Int.gcd_dvd_left n d), Int.mul_ediv_cancel' (Int.gcd_dvd_right n d)⟩

theorem sum_ans {n1 d1 n2 d2 : Int} (h1 : okB n1 d1 = true) (h2 : okB n2 d2 = true) (hs : okB (frN (n1 * d2 + n2 * d1) (d1 * d2)) (frD (n1 * d2 + n2 * d1) (d1 * d2)) = true) :
    Rec.Ans ((ofF n1 d1 + ofF n2 d2) % 2147483647) (frN (n1 * d2 + n2 * d1) (d1 * d2)) (frD (n1 * d2 + n2 * d1) (d1 * d2)) true := by
  obtain ⟨a0, a1, _, _⟩ := okB_bd h1
  obtain ⟨b0, b1, _, _⟩ := okB_bd h2
  have hD := prod_bd a0 a1 b0 b1
  obtain ⟨g0, g1, eN, eD⟩ := fr_parts (n1 * d2 + n2 * d1) (d1 * d2) hD.1
  have e1 := ofF_hit h1
  have e2 := ofF_hit h2
  generalize ofF n1 d1 = x at *
  generalize ofF n2 d2 = y at *
  generalize frN (n1 * d2 + n2 * d1) (d1 * d2) = sn at *
  generalize frD (n1 * d2 + n2 * d1) (d1 * d2) = sd at *
  generalize Int.gcd (n1 * d2 + n2 * d1) (d1 * d2) = g at *
  refine ans_mk (by omega) (by omega) hs ?_
  have h3 : (sd * (x + y) - sn) % 2147483647 = 0 := by
    refine cancel (g := g) g0 (by omega) ?_
    obtain ⟨p, hp⟩ := Rec.dvd_of_emod e1
    obtain ⟨q, hq⟩ := Rec.dvd_of_emod e2
    have e : (g : Int) * (sd * (x + y) - sn) = (d2 * p + d1 * q) * 2147483647 := by
      rw [Int.mul_sub, ← Int.mul_assoc, eD, eN]
      have u1 : n1 = d1 * x - p * 2147483647 := by omega
      have u2 : n2 = d2 * y - q * 2147483647 := by omega
      rw [u1, u2]
      simp only [Int.mul_add, Int.add_mul, Int.mul_sub, Int.sub_mul, Int.mul_assoc, Int.mul_comm, Int.mul_left_comm]; omega
    rw [e]; omega
  have h4 := Num.mul_r sd (x + y)
  generalize sd * ((x + y) % 2147483647) = z1 at *
  generalize sd * (x + y) = z2 at *
  omega

theorem prod_ans {n1 d1 n2 d2 : Int} (h1 : okB n1 d1 = true) (h2 : okB n2 d2 = true) (hs : okB (frN (n1 * n2) (d1 * d2)) (frD (n1 * n2) (d1 * d2)) = true) :
    Rec.Ans (ofF n1 d1 * ofF n2 d2 % 2147483647) (frN (n1 * n2) (d1 * d2)) (frD (n1 * n2) (d1 * d2)) true := by
  obtain ⟨a0, a1, _, _⟩ := okB_bd h1
  obtain ⟨b0, b1, _, _⟩ := okB_bd h2
  have hD := prod_bd a0 a1 b0 b1
  obtain ⟨g0, g1, eN, eD⟩ := fr_parts (n1 * n2) (d1 * d2) hD.1
  have e1 := ofF_hit h1
  have e2 := ofF_hit h2
  generalize ofF n1 d1 = x at *
  generalize ofF n2 d2 = y at *
  generalize frN (n1 * n2) (d1 * d2) = sn at *
  generalize frD (n1 * n2) (d1 * d2) = sd at *
  generalize Int.gcd (n1 * n2) (d1 * d2) = g at *
  refine ans_mk (by omega) (by omega) hs ?_
  have h3 : (sd * (x * y) - sn) % 2147483647 = 0 := by
    refine cancel (g := g) g0 (by omega) ?_
    obtain ⟨p, hp⟩ := Rec.dvd_of_emod e1
    obtain ⟨q, hq⟩ := Rec.dvd_of_emod e2
    have e : (g : Int) * (sd * (x * y) - sn) = (d2 * y * p + d1 * x * q - p * q * 2147483647) * 2147483647 := by
      rw [Int.mul_sub, ← Int.mul_assoc, eD, eN]
      have u1 : n1 = d1 * x - p * 2147483647 := by omega
      have u2 : n2 = d2 * y - q * 2147483647 := by omega
      rw [u1, u2]
      simp only [Int.mul_add, Int.add_mul, Int.sub_mul, Int.mul_sub, Int.mul_assoc, Int.mul_comm, Int.mul_left_comm]; omega
    rw [e]; omega
  have h4 := Num.mul_r sd (x * y)
  generalize sd * (x * y % 2147483647) = z1 at *
  generalize sd * (x * y) = z2 at *
  omega

theorem lawGcd (k : Nat) : ∀ (a b : Int) (w : World), b ≤ k → 0 ≤ b → b ≤ 2147483647 → 0 ≤ a → a ≤ 2147483647 →
    Calls Tryd.prog 28 #[.int .i64 a, .int .i64 b] w fun e w' => e = .returned (.int .i64 (Int.gcd a b)) ∧ w' = w := by
  induction k with
  | zero =>
    intro a b w hk b0 b1 a0 a1
    obtain rfl : b = 0 := by omega
    go_enter Tryd.func28, Tryd.ntmps28
    go_wp2_with fail
    go_ret
    exact ⟨ret_int (Num.gcd_end a a0), rfl⟩
  | succ k ih =>
    intro a b w hk b0 b1 a0 a1
    by_cases hb : b = 0
    · subst hb
      go_enter Tryd.func28, Tryd.ntmps28
      go_wp2_with fail
      go_ret
      exact ⟨ret_int (Num.gcd_end a a0), rfl⟩
    · have hb' : 1 ≤ b := by omega
      replace ih := hide ih
      have e := hide (Num.gcd_emod a b a0)
      have r0 : 0 ≤ a % b := Int.emod_nonneg _ hb
      have r1 : a % b < b := Int.emod_lt_of_pos _ (by omega)
      clear hb
      go_enter Tryd.func28, Tryd.ntmps28
      go_wp2_with fail
      refine (ih.out b (a % b) _ (by omega) r0 (by omega) b0 b1).mono ?_; rintro e w' ⟨rfl, rfl⟩
      go_wp2_with fail
      go_ret
      exact ⟨ret_int (by rw [e.out]), rfl⟩

theorem lawAbs (x r : Int) (w : World) (h0 : -2147483647 ≤ x) (h1 : x ≤ 2147483647) (h : r = (x.natAbs : Int)) :
    Calls Tryd.prog 29 #[.int .i64 x] w fun e w' => e = .returned (.int .i64 r) ∧ w' = w := by
  by_cases hx : x < 0
  · obtain rfl : r = -x := by omega
    clear h
    go_enter Tryd.func29, Tryd.ntmps29
    go_wp2
    go_ret
    exact ⟨rfl, rfl⟩
  · obtain rfl : r = x := by omega
    clear h
    go_enter Tryd.func29, Tryd.ntmps29
    go_wp2
    go_ret
    exact ⟨rfl, rfl⟩

theorem frac_low (n d g : Int) (w : World) (n0 : -2147483647 ≤ n) (n1 : n ≤ 2147483647) (d0 : 1 ≤ d) (d1 : d ≤ 2147483647) (hg : g = (Int.gcd n d : Int)) :
    Calls Tryd.prog 13 #[.int .i64 n, .int .i64 d] w fun e w' => e = .returned (.agg #[.int .i64 (frN n d), .int .i64 (frD n d)]) ∧ Below w.heap.size w w' := by
  obtain ⟨p0, p1, pN, pD⟩ := fr_parts n d d0
  have q0 : 1 ≤ g := by omega
  have q1 : g ≤ d := by omega
  have qN : Hid (n.tdiv g = frN n d) := by
    show _ = _
    rw [hg, frN]; exact Int.tdiv_eq_ediv_of_dvd (Int.gcd_dvd_left n d)
  have qD : Hid (d / g = frD n d) := by show _ = _; rw [hg, frD]
  have qb : -2147483647 ≤ n.tdiv g ∧ n.tdiv g ≤ 2147483647 := by
    rw [qN.out]
    rw [← hg] at pN
    generalize frN n d = z at *
    by_cases hz : 0 ≤ z
    · have := Int.mul_le_mul_of_nonneg_right q0 hz
      omega
    · have := Int.mul_le_mul_of_nonneg_right q0 (show 0 ≤ -z by omega)
      rw [Int.mul_neg g] at this
      omega
  obtain ⟨qb0, qb1⟩ := qb
  have hgn : Hid (g = (Int.gcd (n.natAbs : Int) d : Int)) := by
    show _ = _
    rw [hg]; congr 1
  have zg : (g == 0) = false := by rw [beq_eq_false_iff_ne]; omega
  clear pN pD p0 p1 hg
  go_enter Tryd.func13, Tryd.ntmps13
  go_wp2_with fail
  refine (lawAbs n _ _ n0 n1 rfl).mono ?_; rintro e w1 ⟨rfl, rfl⟩
  go_wp2_with fail
  refine (lawGcd 2147483647 _ d _ (by omega) (by omega) d1 (by omega) (by omega)).mono ?_; rintro e w2 ⟨rfl, rfl⟩
  rw [← hgn.out]
  go_wp2_with fail
  go_region
  all_goals go_wp2_with fail
  all_goals exact bodyPost_ret (v := .agg #[.int .i64 (n.tdiv g), .int .i64 (d / g)]) (by simp [results, Tryd.results13, go_sem]) rfl ⟨by rw [qN.out, qD.out], ((Below.refl _ _).alloc (Nat.le_refl _) _).drew⟩

theorem frac (n d : Int) (w : World) (n0 : -2147483647 ≤ n) (n1 : n ≤ 2147483647) (d0 : 1 ≤ d) (d1 : d ≤ 2147483647) :
    Calls Tryd.prog 13 #[.int .i64 n, .int .i64 d] w fun e w' => e = .returned (.agg #[.int .i64 (frN n d), .int .i64 (frD n d)]) ∧ Below w.heap.size w w' :=
  frac_low n d _ w n0 n1 d0 d1 rfl

def DrawnBool (B : Nat) (p : Nat) (a : Option Addr) (len cap : Nat) (w : World) (e : Ending) (w' : World) : Prop :=
  ∃ b : Bool, e = .returned (.bool b) ∧ Cur B w' p a len cap ∧ w.grownBy w' (some p)
theorem l1Once (B : Nat) (p : Nat) (a : Option Addr) (len cap : Nat) (n : Int) (w : World) (hc : Cur B w p a len cap) (n0 : 1 ≤ n) (n1 : n ≤ 2147483648) :
    Calls Tryd.prog 32 #[.pointer (some ⟨p, 0, none⟩), .int .i64 n] w fun e w' => DrawnBool B p a len cap w e w' := by
  have hc := hide hc
  go_enter Tryd.func32, Tryd.ntmps32
  go_wp2_with fail
  refine (l1Below B p a len cap _ _ hc.out n0 n1).mono ?_; rintro e w1 ⟨x, x0, x1, rfl, d1, g1⟩
  have d1 := hide d1
  have g1 := hide g1
  go_wp2_with fail
  go_ret
  exact ⟨_, rfl, d1.out, g1.out⟩

theorem Cur.of {B p : Nat} {a : Option Addr} {len cap : Nat} {w w' : World} (h : Cur B w p a len cap) (hp : w'.heap[p]? = w.heap[p]?) (hb : Below B w w') : Cur B w' p a len cap := by
  obtain ⟨q, hcode, c0, ⟨i, g, c1, c2, r⟩, f1, f2⟩ := h
  refine ⟨q, hcode.below hb, ?_, ⟨i, g, ?_, ?_, r⟩, ?_, ?_⟩
  · rw [World.cell?_of_block (w := w) (a := ⟨p, 0, none⟩) hp]; exact c0
  · rw [World.cell?_of_block (w := w) (a := ⟨p, 1, none⟩) hp]; exact c1
  · rw [World.cell?_of_block (w := w) (a := ⟨p, 2, none⟩) hp]; exact c2
  · rw [World.frozen?_of_block (w := w) (a := ⟨p, 1, none⟩) hp]; exact f1
  · rw [World.frozen?_of_block (w := w) (a := ⟨p, 2, none⟩) hp]; exact f2
theorem Cur.set {B p : Nat} {a : Option Addr} {len cap : Nat} {w : World} (h : Cur B w p a len cap) (q i : Nat) (v : Value) (hq : q ≠ p) (hB : B ≤ q) : Cur B (w.setCell ⟨q, i, none⟩ v) p a len cap :=
  h.of (Below.heap_setCell w ⟨q, i, none⟩ v p (fun e => hq e.symm)) ((Below.refl _ _).setCell hB _)

/-- a fraction's two cells at block q, free to be written -/
structure Two (w : World) (q : Nat) (n d : Int) : Prop where
  c0 : w.cell? ⟨q, 0, none⟩ = some (.int .i64 n)
  c1 : w.cell? ⟨q, 1, none⟩ = some (.int .i64 d)
  f0 : w.frozen? ⟨q, 0, none⟩ = false
  f1 : w.frozen? ⟨q, 1, none⟩ = false
theorem Two.of {w w' : World} {q : Nat} {n d : Int} (h : Two w q n d) (hq : w'.heap[q]? = w.heap[q]?) : Two w' q n d :=
  ⟨by rw [World.cell?_of_block (w := w) (a := ⟨q, 0, none⟩) hq]; exact h.c0, by rw [World.cell?_of_block (w := w) (a := ⟨q, 1, none⟩) hq]; exact h.c1,
   by rw [World.frozen?_of_block (w := w) (a := ⟨q, 0, none⟩) hq]; exact h.f0, by rw [World.frozen?_of_block (w := w) (a := ⟨q, 1, none⟩) hq]; exact h.f1⟩
theorem Two.lt {w : World} {q : Nat} {n d : Int} (h : Two w q n d) : q < w.heap.size := World.block_lt_of_cell? _ _ h.c0
theorem Two.grown {w w' : World} {q p : Nat} {n d : Int} (h : Two w q n d) (hg : w.grownBy w' (some p)) (hq : q ≠ p) : Two w' q n d :=
  h.of (hg.block q h.lt (by intro e; injection e with e; exact hq e))
theorem Two.below {w w' : World} {q : Nat} {n d : Int} (h : Two w q n d) (hb : Below w.heap.size w w') : Two w' q n d := h.of (hb.block q h.lt)
theorem Two.new (w : World) (n d : Int) (t : TypeId) : Two (w.alloc (.cells #[.int .i64 n, .int .i64 d] t)) w.heap.size n d :=
  ⟨by simp [go_sem], by simp [go_sem], by simp [go_sem], by simp [go_sem]⟩
theorem Two.alloc {w : World} {q : Nat} {n d : Int} (h : Two w q n d) (o : Obj) : Two (w.alloc o) q n d := h.below ((Below.refl _ _).alloc (Nat.le_refl _) _)
theorem Two.set0 {w : World} {q : Nat} {n d : Int} (h : Two w q n d) (m : Int) : Two (w.setCell ⟨q, 0, none⟩ (.int .i64 m)) q m d := by
  obtain ⟨c0, c1, f0, f1⟩ := h
  exact ⟨by simp [go_sem, c0], by simp [go_sem, c1], by simp [go_sem, f0], by simp [go_sem, f1]⟩
theorem Two.set1 {w : World} {q : Nat} {n d : Int} (h : Two w q n d) (m : Int) : Two (w.setCell ⟨q, 1, none⟩ (.int .i64 m)) q n m := by
  obtain ⟨c0, c1, f0, f1⟩ := h
  exact ⟨by simp [go_sem, c0], by simp [go_sem, c1], by simp [go_sem, f0], by simp [go_sem, f1]⟩
theorem Two.other {w : World} {q : Nat} {n d : Int} (h : Two w q n d) (r i : Nat) (v : Value) (hr : r ≠ q) : Two (w.setCell ⟨r, i, none⟩ v) q n d :=
  h.of (Below.heap_setCell w ⟨r, i, none⟩ v q (fun e => hr e.symm))

def DrawnFrac (B : Nat) (w : World) (e : Ending) (w' : World) : Prop :=
  ∃ n d : Int, -40000 ≤ n ∧ n ≤ 40000 ∧ -40000 ≤ d ∧ d ≤ 40000 ∧ e = .returned (.agg #[.int .i64 n, .int .i64 d]) ∧ Below B w w'

set_option maxHeartbeats 1000000 in
theorem l1DrawFrac (B : Nat) (p : Nat) (a : Option Addr) (len cap : Nat) (w : World) (hc : Cur B w p a len cap) :
    Calls Tryd.prog 16 #[.pointer (some ⟨p, 0, none⟩)] w fun e w' => DrawnFrac B w e w' := by
  have hlt := hc.lt
  have hBp := hc.hp
  have r0 := Two.new w 0 0 25
  have d0 := hide (hc.alloc (.cells #[.int .i64 0, .int .i64 0] 25))
  have b0 : Below B w (w.alloc (.cells #[.int .i64 0, .int .i64 0] 25)) := (Below.refl _ _).alloc (by omega) _
  clear hc
  go_enter Tryd.func16, Tryd.ntmps16
  go_wp2_with fail
  refine (l1Below B p a len cap _ _ d0.out (by omega) (by omega)).mono ?_; rintro e w1 ⟨x, x0, x1, rfl, d1, g1⟩
  have r1 := r0.grown g1 (by omega)
  have b1 := b0.trans (d0.out.below g1)
  clear r0 d0 b0 g1
  go_wp2_with fail
  refine (l1Below B p a len cap _ _ d1 (by omega) (by omega)).mono ?_; rintro e w2 ⟨y, y0, y1, rfl, d2, g2⟩
  have r2 := r1.grown g2 (by omega)
  have b2 := b1.trans (d1.below g2)
  have lt2 := d2.lt
  have rl2 := r2.lt
  have r3 := r2.alloc (.cells #[.int .i64 (x - 20), .int .i64 (1 + y)] 25)
  have f3 := Two.new w2 (x - 20) (1 + y) 25
  have d3 := d2.alloc (.cells #[.int .i64 (x - 20), .int .i64 (1 + y)] 25)
  have b3 : Below B w (w2.alloc (.cells #[.int .i64 (x - 20), .int .i64 (1 + y)] 25)) := b2.alloc (by omega) _
  clear r1 b1 g2 d1 r2 b2 d2
  go_wp2_with fail
  refine (l1Once B p a len cap _ _ d3 (by omega) (by omega)).mono ?_; rintro e w4 ⟨o1, rfl, d4, g4⟩
  have r4 := r3.grown g4 (by omega)
  have f4 := f3.grown g4 (by omega)
  have b4 := b3.trans (d3.below g4)
  clear r3 f3 d3 b3 g4
  generalize w2.heap.size = q at *
  generalize w.heap.size = s at *
  cases o1
  · go_wp2_with fail
    refine (l1Once B p a len cap _ _ d4 (by omega) (by omega)).mono ?_; rintro e w7 ⟨o2, rfl, d7, g7⟩
    have r7 := r4.grown g7 (by omega)
    have f7 := f4.grown g7 (by omega)
    have b7 := b4.trans (d4.below g7)
    clear r4 f4 b4 d4 g7
    cases o2
    · clear d7
      obtain ⟨fc0, fc1, ff0, ff1⟩ := f7
      obtain ⟨rc0, rc1, rf0, rf1⟩ := r7
      go_wp2_with fail
      exact bodyPost_ret (v := .agg #[.int .i64 (x - 20), .int .i64 (1 + y)]) (by simp [results, Tryd.results16, go_sem, rc0, rc1]) rfl ⟨(x - 20), (1 + y), by omega, by omega, by omega, by omega, rfl, (b7.setCell (by show B ≤ s; omega) _).setCell (by show B ≤ s; omega) _⟩
    · have hl := laid_ints w7 [32767, 32768, 0, -1, 32766, 7] 3 (-40000) 40000 (by decide)
      have lt7 := r7.lt
      have lf7 := f7.lt
      have d8 := d7.alloc (.cells (([32767, 32768, 0, -1, 32766, 7] : List Int).map (Value.int .i64)).toArray 3)
      have r8 := r7.alloc (.cells (([32767, 32768, 0, -1, 32766, 7] : List Int).map (Value.int .i64)).toArray 3)
      have f8 := f7.alloc (.cells (([32767, 32768, 0, -1, 32766, 7] : List Int).map (Value.int .i64)).toArray 3)
      have b8 : Below B w (w7.alloc (.cells (([32767, 32768, 0, -1, 32766, 7] : List Int).map (Value.int .i64)).toArray 3)) := b7.alloc (by omega) _
      clear r7 f7 b7 d7
      go_wp2_with fail
      refine (l1PickInt B p a len cap w7.heap.size 6 (-40000) 40000 _ d8 (by omega) (by omega) (by omega) hl).mono ?_; rintro e w9 ⟨v, v0, v1, rfl, d9, g9⟩
      have r9 := (r8.grown g9 (by omega)).other q 1 (.int .i64 v) (by omega)
      have f9 := (f8.grown g9 (by omega))
      have b9 := (b8.trans (d8.below g9)).setCell (p := ⟨q, 1, none⟩) (by show B ≤ q; omega) (.int .i64 v)
      clear r8 f8 b8 d8 g9 hl d9
      have fs := f9.set1 v
      obtain ⟨gc0, gc1, gf0, gf1⟩ := f9
      obtain ⟨fc0, fc1, ff0, ff1⟩ := fs
      obtain ⟨rc0, rc1, rf0, rf1⟩ := r9
      go_wp2_with fail
      exact bodyPost_ret (v := .agg #[.int .i64 (x - 20), .int .i64 v]) (by simp [results, Tryd.results16, go_sem, rc0, rc1]) rfl ⟨(x - 20), v, by omega, by omega, v0, v1, rfl, (b9.setCell (by show B ≤ s; omega) _).setCell (by show B ≤ s; omega) _⟩
  · have hl := laid_ints w4 [32767, -32767, 32768, -32768, 32766, 0] 3 (-40000) 40000 (by decide)
    have lt4 := r4.lt
    have lf4 := f4.lt
    have d5 := d4.alloc (.cells (([32767, -32767, 32768, -32768, 32766, 0] : List Int).map (Value.int .i64)).toArray 3)
    have r5 := r4.alloc (.cells (([32767, -32767, 32768, -32768, 32766, 0] : List Int).map (Value.int .i64)).toArray 3)
    have f5 := f4.alloc (.cells (([32767, -32767, 32768, -32768, 32766, 0] : List Int).map (Value.int .i64)).toArray 3)
    have b5 : Below B w (w4.alloc (.cells (([32767, -32767, 32768, -32768, 32766, 0] : List Int).map (Value.int .i64)).toArray 3)) := b4.alloc (by omega) _
    clear r4 f4 b4 d4
    go_wp2_with fail
    refine (l1PickInt B p a len cap w4.heap.size 6 (-40000) 40000 _ d5 (by omega) (by omega) (by omega) hl).mono ?_; rintro e w5 ⟨u, u0, u1, rfl, d5', g5⟩
    have rr := r5.grown g5 (by omega)
    have ff := f5.grown g5 (by omega)
    have r6 := rr.other q 0 (.int .i64 u) (by omega)
    have f6 := ff.set0 u
    have d6 := d5'.set q 0 (.int .i64 u) (by omega) (by omega)
    have b6 := (b5.trans (d5.below g5)).setCell (p := ⟨q, 0, none⟩) (by show B ≤ q; omega) (.int .i64 u)
    obtain ⟨gc0, gc1, gf0, gf1⟩ := ff
    clear r5 f5 b5 d5 d5' g5 hl rr
    go_wp2_with fail
    refine (l1Once B p a len cap _ _ d6 (by omega) (by omega)).mono ?_; rintro e w7 ⟨o2, rfl, d7, g7⟩
    have r7 := r6.grown g7 (by omega)
    have f7 := f6.grown g7 (by omega)
    have b7 := b6.trans (d6.below g7)
    clear r6 f6 b6 d6 g7
    cases o2
    · clear d7
      obtain ⟨fc0, fc1, ff0, ff1⟩ := f7
      obtain ⟨rc0, rc1, rf0, rf1⟩ := r7
      go_wp2_with fail
      exact bodyPost_ret (v := .agg #[.int .i64 u, .int .i64 (1 + y)]) (by simp [results, Tryd.results16, go_sem, rc0, rc1]) rfl ⟨u, (1 + y), by omega, by omega, by omega, by omega, rfl, (b7.setCell (by show B ≤ s; omega) _).setCell (by show B ≤ s; omega) _⟩
    · have hl := laid_ints w7 [32767, 32768, 0, -1, 32766, 7] 3 (-40000) 40000 (by decide)
      have lt7 := r7.lt
      have lf7 := f7.lt
      have d8 := d7.alloc (.cells (([32767, 32768, 0, -1, 32766, 7] : List Int).map (Value.int .i64)).toArray 3)
      have r8 := r7.alloc (.cells (([32767, 32768, 0, -1, 32766, 7] : List Int).map (Value.int .i64)).toArray 3)
      have f8 := f7.alloc (.cells (([32767, 32768, 0, -1, 32766, 7] : List Int).map (Value.int .i64)).toArray 3)
      have b8 : Below B w (w7.alloc (.cells (([32767, 32768, 0, -1, 32766, 7] : List Int).map (Value.int .i64)).toArray 3)) := b7.alloc (by omega) _
      clear r7 f7 b7 d7
      go_wp2_with fail
      refine (l1PickInt B p a len cap w7.heap.size 6 (-40000) 40000 _ d8 (by omega) (by omega) (by omega) hl).mono ?_; rintro e w9 ⟨v, v0, v1, rfl, d9, g9⟩
      have r9 := (r8.grown g9 (by omega)).other q 1 (.int .i64 v) (by omega)
      have f9 := (f8.grown g9 (by omega))
      have b9 := (b8.trans (d8.below g9)).setCell (p := ⟨q, 1, none⟩) (by show B ≤ q; omega) (.int .i64 v)
      clear r8 f8 b8 d8 g9 hl d9
      have fs := f9.set1 v
      obtain ⟨gc0, gc1, gf0, gf1⟩ := f9
      obtain ⟨fc0, fc1, ff0, ff1⟩ := fs
      obtain ⟨rc0, rc1, rf0, rf1⟩ := r9
      go_wp2_with fail
      exact bodyPost_ret (v := .agg #[.int .i64 u, .int .i64 v]) (by simp [results, Tryd.results16, go_sem, rc0, rc1]) rfl ⟨u, v, by omega, by omega, v0, v1, rfl, (b9.setCell (by show B ≤ s; omega) _).setCell (by show B ≤ s; omega) _⟩

theorem drawFracOk (a : Option Addr) (len cap : Nat) (w : World) (hc : Code w.heap.size w a len) (hlen : len ≤ 1048576) :
    Calls Tryd.prog 5 #[.slice a len cap] w fun e w' => DrawnFrac w.heap.size w e w' := by
  have HC := hide ((hc.below ((Below.refl _ _).alloc (Nat.le_refl _) (.cells #[.int .i64 0, .int .i64 0] 25))).mono (B' := (w.alloc (.cells #[.int .i64 0, .int .i64 0] 25)).heap.size) (by simp))
  have hl := hide hlen
  clear hc hlen
  have r0 := Two.new w 0 0 25
  go_enter Tryd.func5, Tryd.ntmps5
  go_wp2_with fail
  refine (l1New a len cap _ HC.out hl.out).mono ?_; rintro e w1 ⟨rfl, d1, b1⟩
  have r1 := r0.below b1
  have hsz : (w.alloc (.cells #[.int .i64 0, .int .i64 0] 25)).heap.size = w.heap.size + 1 := by simp
  rw [hsz] at d1 b1
  clear r0 hsz
  go_wp2_with fail
  refine (l1DrawFrac (w.heap.size + 1) (w.heap.size + 1) a len cap _ d1).mono ?_; rintro e w2 ⟨n, d, n0, n1, m0, m1, rfl, b2⟩
  have hs := b1.size
  have r2 := r1.of (b2.block w.heap.size (by omega))
  have bb : Below w.heap.size w w2 := (((Below.refl _ _).alloc (Nat.le_refl _) _).trans (b1.mono (by omega))).trans (b2.mono (by omega))
  clear d1 b1 b2 r1 HC hl
  obtain ⟨rc0, rc1, rf0, rf1⟩ := r2
  go_wp2_with fail
  exact bodyPost_ret (v := .agg #[.int .i64 n, .int .i64 d]) (by simp [results, Tryd.results5, go_sem, rc0, rc1]) rfl ⟨n, d, n0, n1, m0, m1, rfl, (bb.setCell (Nat.le_refl _) _).setCell (Nat.le_refl _) _⟩

end Base
end Go.Proofs.YthconcaoldpbnaaDoor
