/- Lemmas for the proof of the law. -/
import Derived.Test.YtejfodkobfdelaaMgai
import Derived.Test.YtejfodkobfdelaaMgae
/- Lines along an axis, plain. -/
namespace Go.Proofs.Ytejfodkobfdelaa
namespace Vo
open Vl Vp
set_option linter.unusedVariables false

/-- one place of a list turned -/
def up1 (D : Nat → Int) (x : Nat) (c : Int) : Nat → Int := fun t => if t = x then c else D t
theorem up1_at (D : Nat → Int) (x : Nat) (c : Int) : up1 D x c x = c := by unfold up1; simp
theorem up1_ne (D : Nat → Int) {x j : Nat} (c : Int) (h : j ≠ x) : up1 D x c j = D j := by unfold up1; simp [h]
theorem up1_self (D : Nat → Int) (x : Nat) : up1 D x (D x) = D := by funext t; unfold up1; split <;> simp [*]
theorem up1_up1 (D : Nat → Int) (x : Nat) (c d : Int) : up1 (up1 D x c) x d = up1 D x d := by funext t; unfold up1; split <;> rfl
/-- where an index stands in order -/
def od (D I : Nat → Int) : Nat → Int | 0 => 0 | n + 1 => od D I n * D n + I n
theorem od_same {D E I J : Nat → Int} {n : Nat} (h : ∀ j, j < n → D j = E j) (h' : ∀ j, j < n → I j = J j) : od D I n = od E J n := by
  induction n with
  | zero => rfl
  | succ n ih => unfold od; rw [ih (fun j hj => h j (by omega)) (fun j hj => h' j (by omega)), h n (by omega), h' n (by omega)]
theorem dg_succ_lt (D : Nat → Int) (i : Nat) (k : Int) {j : Nat} (hj : j < i) : dg D (i + 1) k j = dg D i (k / D i) j := by
  rw [dg, if_neg (by omega)]
theorem dg_succ_eq (D : Nat → Int) (i : Nat) (k : Int) : dg D (i + 1) k i = k % D i := by
  rw [dg, if_pos rfl]
theorem quo_lt2 {k d P : Int} (hd : 1 ≤ d) (h : k < P * d) : k / d < P := by
  exact (Int.ediv_lt_iff_lt_mul (by omega)).2 h
theorem od_dg (D : Nat → Int) (r : Nat) (h : ∀ j, j < r → 1 ≤ D j) : ∀ k, 0 ≤ k → k < pr D r → od D (dg D r k) r = k := by
  induction r with
  | zero => intro k h0 h1; unfold pr at h1; unfold od; omega
  | succ i ih =>
    intro k h0 h1
    have hd := h i (by omega)
    have hq : 0 ≤ k / D i := Int.ediv_nonneg h0 (by omega)
    have := ih (fun j hj => h j (by omega)) (k / D i) hq (quo_lt2 hd h1)
    unfold od
    rw [od_same (E := D) (J := dg D i (k / D i)) (fun _ _ => rfl) (fun j hj => dg_succ_lt D i k hj), this, dg_succ_eq]
    exact Int.ediv_mul_add_emod k (D i)
theorem od_add (D I : Nat → Int) (a m : Nat) : od D I (a + m) = od D I a * pr (fun t => D (a + t)) m + od (fun t => D (a + t)) (fun t => I (a + t)) m := by
  induction m with
  | zero => simp [pr, od]
  | succ m ih =>
    show od D I (a + m) * D (a + m) + I (a + m) = _
    rw [ih]
    show _ = od D I a * (pr _ m * D (a + m)) + (od _ _ m * D (a + m) + I (a + m))
    rw [Int.add_mul, Int.mul_assoc, Int.add_assoc]
theorem od_rng (D I : Nat → Int) (r : Nat) (h : ∀ j, j < r → 0 ≤ I j ∧ I j < D j) : 0 ≤ od D I r ∧ od D I r < pr D r := by
  induction r with
  | zero => simp [od, pr]
  | succ n ih =>
    obtain ⟨a0, a1⟩ := ih (fun j hj => h j (by omega))
    obtain ⟨b0, b1⟩ := h n (by omega)
    unfold od pr
    constructor
    · have := Int.mul_nonneg a0 (show 0 ≤ D n by omega); omega
    · have : (od D I n + 1) * D n ≤ pr D n * D n := Int.mul_le_mul_of_nonneg_right (by omega) (by omega)
      rw [Int.add_mul] at this
      omega
/-- what lies behind an axis -/
def bhd (D : Nat → Int) (r a : Nat) : Int := pr (fun t => D (a + 1 + t)) (r - (a + 1))
theorem bhd_pos {D : Nat → Int} {r a : Nat} (h : ∀ j, j < r → 1 ≤ D j) : 1 ≤ bhd D r a := pr_pos (fun j hj => h _ (by omega))
theorem bhd_up1 (D : Nat → Int) (r a : Nat) (n : Int) : bhd (up1 D a n) r a = bhd D r a := pr_same (fun j hj => up1_ne D n (by omega))
theorem od_axis (D I : Nat → Int) {r a : Nat} (ha : a < r) : od D I r = (od D I a * D a + I a) * bhd D r a + od (fun t => D (a + 1 + t)) (fun t => I (a + 1 + t)) (r - (a + 1)) := by
  have := od_add D I (a + 1) (r - (a + 1))
  rw [show a + 1 + (r - (a + 1)) = r by omega] at this
  exact this
theorem pr_axis (D : Nat → Int) {r a : Nat} (ha : a < r) : pr D r = pr D a * D a * bhd D r a := by
  have := pr_add D (a + 1) (r - (a + 1))
  rw [show a + 1 + (r - (a + 1)) = r by omega] at this
  exact this
/-- a number parted along an axis: (block, at, rest) of ((block * n + at) * b + rest) -/
theorem part3 {n b x k q : Int} (hb : 1 ≤ b) (hk : 0 ≤ k) (hk2 : k < n) (hq : 0 ≤ q) (hq2 : q < b) :
    ((x * n + k) * b + q) / (n * b) = x ∧ ((x * n + k) * b + q) / b % n = k ∧ ((x * n + k) * b + q) % b = q := by
  have e1 : ((x * n + k) * b + q) / b = x * n + k := by
    rw [Int.add_comm, Int.add_mul_ediv_right _ _ (by omega), Int.ediv_eq_zero_of_lt hq hq2]; omega
  have e2 : (x * n + k) / n = x := by
    rw [Int.add_comm, Int.add_mul_ediv_right _ _ (by omega), Int.ediv_eq_zero_of_lt hk hk2]; omega
  refine ⟨?_, ?_, ?_⟩
  · rw [Int.mul_comm n b, ← Int.ediv_ediv_of_nonneg (by omega), e1, e2]
  · rw [e1, Int.add_comm, Int.add_mul_emod_self_right, Int.emod_eq_of_lt hk hk2]
  · rw [Int.add_comm, Int.add_mul_emod_self_right, Int.emod_eq_of_lt hq hq2]
/-- .. and back -/
theorem part_back (n b j : Int) (hn : 1 ≤ n) (hb : 1 ≤ b) : (j / (n * b) * n + j / b % n) * b + j % b = j := by
  have e : j / (n * b) = j / b / n := by rw [Int.mul_comm n b, ← Int.ediv_ediv_of_nonneg (by omega)]
  have h1 : j / b / n * n + j / b % n = j / b := Int.ediv_mul_add_emod _ _
  rw [e, h1]
  exact Int.ediv_mul_add_emod _ _
/-- an index with another number at the axis, in a list of dims with another length there -/
def mv (l b n : Int) (x : Int) (j : Int) : Int := (j / (n * b) * l + x) * b + j % b
theorem od_moved {D : Nat → Int} {r a : Nat} (ha : a < r) (h : ∀ j, j < r → 1 ≤ D j) (l x k : Int) (k0 : 0 ≤ k) (k1 : k < pr D r) :
    od (up1 D a l) (up1 (dg D r k) a x) r = mv l (bhd D r a) (D a) x k := by
  have hb := bhd_pos (a := a) h
  have e := od_dg D r h k k0 k1
  have hg := dg_rng D r h k
  rw [od_axis D _ ha] at e
  have t := od_rng (fun t => D (a + 1 + t)) (fun t => dg D r k (a + 1 + t)) (r - (a + 1)) (fun j hj => hg _ (by omega))
  obtain ⟨g0, g1⟩ := hg a ha
  have p := part3 (n := D a) (b := bhd D r a) (x := od D (dg D r k) a) (k := dg D r k a) hb g0 g1 t.1 t.2
  rw [e] at p
  rw [od_axis (up1 D a l) _ ha, bhd_up1, up1_at, up1_at,
    od_same (E := D) (J := dg D r k) (n := a) (fun j hj => up1_ne D l (by omega)) (fun j hj => up1_ne _ x (by omega)),
    od_same (E := fun t => D (a + 1 + t)) (J := fun t => dg D r k (a + 1 + t)) (n := r - (a + 1)) (fun j hj => up1_ne D l (by omega)) (fun j hj => up1_ne _ x (by omega))]
  unfold mv
  rw [p.1, p.2.2]
theorem dg_axis {D : Nat → Int} {r a : Nat} (ha : a < r) (h : ∀ j, j < r → 1 ≤ D j) (k : Int) (k0 : 0 ≤ k) (k1 : k < pr D r) :
    dg D r k a = k / bhd D r a % D a := by
  have hb := bhd_pos (a := a) h
  have e := od_dg D r h k k0 k1
  have hg := dg_rng D r h k
  rw [od_axis D _ ha] at e
  have t := od_rng (fun t => D (a + 1 + t)) (fun t => dg D r k (a + 1 + t)) (r - (a + 1)) (fun j hj => hg _ (by omega))
  obtain ⟨g0, g1⟩ := hg a ha
  have p := part3 (n := D a) (b := bhd D r a) (x := od D (dg D r k) a) (k := dg D r k a) hb g0 g1 t.1 t.2
  rw [e] at p
  exact p.2.1.symm
/-- where it lies: within -/
theorem mv_rng {l b n x j A : Int} (hb : 1 ≤ b) (hn : 1 ≤ n) (hx : 0 ≤ x) (hx2 : x < l) (hj : 0 ≤ j) (hj2 : j < A * n * b) : 0 ≤ mv l b n x j ∧ mv l b n x j < A * l * b := by
  have nb : 1 ≤ n * b := by have := Int.mul_le_mul hn hb (by omega) (by omega); omega
  have q0 : 0 ≤ j / (n * b) := Int.ediv_nonneg hj (by omega)
  have q1 : j / (n * b) < A := quo_lt2 nb (by rw [← Int.mul_assoc]; exact hj2)
  have m0 := Int.emod_nonneg j (show b ≠ 0 by omega)
  have m1 := Int.emod_lt_of_pos j (show 0 < b by omega)
  unfold mv
  generalize j / (n * b) = q at *
  generalize j % b = m at *
  have t0 : 0 ≤ q * l := Int.mul_nonneg q0 (by omega)
  have t1 : (q + 1) * l ≤ A * l := Int.mul_le_mul_of_nonneg_right (by omega) (by omega)
  rw [Int.add_mul] at t1
  have t2 : 0 ≤ (q * l + x) * b := Int.mul_nonneg (by omega) (by omega)
  have t3 : (q * l + x + 1) * b ≤ A * l * b := Int.mul_le_mul_of_nonneg_right (by omega) (by omega)
  rw [Int.add_mul (q * l + x)] at t3
  omega
/-- the number of the line that j lies in -/
def lnb (b n j : Int) : Int := j / (n * b) * b + j % b
theorem lnb_parts {b n j : Int} (hb : 1 ≤ b) : lnb b n j / b = j / (n * b) ∧ lnb b n j % b = j % b := by
  have m0 := Int.emod_nonneg j (show b ≠ 0 by omega)
  have m1 := Int.emod_lt_of_pos j (show 0 < b by omega)
  unfold lnb
  constructor
  · rw [Int.add_comm, Int.add_mul_ediv_right _ _ (by omega), Int.ediv_eq_zero_of_lt m0 m1]; omega
  · rw [Int.add_comm, Int.add_mul_emod_self_right, Int.emod_eq_of_lt m0 m1]
/-- which place of what comes out belongs to line m at k -/
theorem line_at {b n m k j : Int} (hb : 1 ≤ b) (hn : 1 ≤ n) (hk : 0 ≤ k) (hk2 : k < n) : j = (m / b * n + k) * b + m % b ↔ lnb b n j = m ∧ j / b % n = k := by
  have m0 := Int.emod_nonneg m (show b ≠ 0 by omega)
  have m1 := Int.emod_lt_of_pos m (show 0 < b by omega)
  constructor
  · rintro rfl
    obtain ⟨p1, p2, p3⟩ := part3 (x := m / b) (n := n) hb hk hk2 m0 m1
    refine ⟨?_, p2⟩
    unfold lnb
    rw [p1, p3]
    exact Int.ediv_mul_add_emod _ _
  · rintro ⟨rfl, rfl⟩
    have := lnb_parts (n := n) (j := j) hb
    rw [this.1, this.2]
    exact (part_back n b j hn hb).symm
theorem lnb_rng {b n j A : Int} (hb : 1 ≤ b) (hn : 1 ≤ n) (hj : 0 ≤ j) (hj2 : j < A * n * b) : 0 ≤ lnb b n j ∧ lnb b n j < A * b := by
  have := mv_rng (l := 1) (x := 0) hb hn (by omega) (by omega) hj hj2
  unfold mv at this
  unfold lnb
  simpa using this
end Vo
end Go.Proofs.Ytejfodkobfdelaa

/- Tensors in memory: two lists; what the laws make of them. -/
namespace Go.Proofs.Ytejfodkobfdelaa
namespace Vo
open Go.ChangeShapes Go.WideShapes Go.ChangeAt Go.RowKit Go.Joins
open Vl Vp
set_option linter.unusedVariables false
set_option linter.unusedSimpArgs false

/-- a tensor in a variable -/
def Bx (wx : World) (p : Nat) (v0 v1 : Value) : Prop := wx.cell? ⟨p, 0, none⟩ = some v0 ∧ wx.cell? ⟨p, 1, none⟩ = some v1
theorem bx_new (w : World) (v0 v1 : Value) (t : TypeId) : Bx (w.alloc (.cells #[v0, v1] t)) w.heap.size v0 v1 := by
  unfold Bx
  simp [go_sem]
theorem Bx.below {B : Nat} {w w' : World} {p : Nat} {v0 v1 : Value} (h : Bx w p v0 v1) (hb : Below B w w') (hp : p < B) : Bx w' p v0 v1 := by
  unfold Bx at *
  rw [hb.cell (p := ⟨p, 0, none⟩) hp, hb.cell (p := ⟨p, 1, none⟩) hp]
  exact h
theorem Bx.kept {T : Nat → Prop} {w w' : World} {p : Nat} {v0 v1 : Value} (h : Bx w p v0 v1) (hb : Kept T w w') (hp : p < w.heap.size) (hn : ¬ T p) : Bx w' p v0 v1 := by
  unfold Bx at *
  have e := hb.block p hp hn
  rw [World.cell?_of_block (w := w) (a := ⟨p, 0, none⟩) e, World.cell?_of_block (w := w) (a := ⟨p, 1, none⟩) e]
  exact h
theorem szTensor (a b : Option Addr) (r s cap dap : Nat) (l : Int) (w : World) (l0 : 0 ≤ l) (l1 : l ≤ 1048576) (hr : (r : Int) ≤ 9223372036854775807) (hs : (s : Int) ≤ 9223372036854775807) :
    Calls Try.prog 15 #[.agg #[.slice a r cap, .slice b s dap], .int .i64 l] w fun e w' => ∃ x : Int, e = .returned (.int .i64 x) ∧ (0 ≤ x → x ≤ 1048576 ∧ (r : Int) ≤ 1048576 ∧ (s : Int) ≤ 1048576) ∧ Below w.heap.size w w' := by
  have bl := hide (show Below w.heap.size w (w.alloc (.cells #[.slice a r cap, .slice b s dap] 36)) from (Below.refl _ _).alloc (Nat.le_refl _) _)
  go_enter Try.func15, Try.ntmps15
  go_wp2_with fail
  refine (szIntS a r cap l _ l0 l1 hr).mono ?_; rintro e w1 ⟨x, rfl, hx, rfl⟩
  have HX := hide hx
  clear hx
  by_cases hx0 : x < 0
  · go_wp2_with fail
    go_ret
    exact ⟨_, rfl, fun h => by omega, bl.out⟩
  · have hx0' : decide (x < 0) = false := by rw [decide_eq_false_iff_not]; exact hx0
    have hxl : x ≤ 1048576 := by have := HX.out; unfold Sz at this; omega
    have hx1 : 0 ≤ x := by omega
    clear hx0
    go_wp2_with fail
    refine (szIntS b s dap x _ hx1 hxl hs).mono ?_; rintro e w1 ⟨y, rfl, hy, rfl⟩
    have HY := hide hy
    clear hy
    by_cases hy0 : y < 0
    · go_wp2_with fail
      go_ret
      exact ⟨_, rfl, fun h => by omega, bl.out⟩
    · have hy0' : decide (y < 0) = false := by rw [decide_eq_false_iff_not]; exact hy0
      have hf := hide (show y ≤ 1048576 ∧ (r : Int) ≤ 1048576 ∧ (s : Int) ≤ 1048576 by have := HX.out; have := HY.out; unfold Sz at *; omega)
      clear hy0
      go_wp2_with fail
      go_ret
      exact ⟨_, rfl, fun _ => hf.out, bl.out⟩
set_option maxHeartbeats 1000000 in
theorem toTensor (B : Nat) (a b : Option Addr) (r s cap dap : Nat) (D S : Nat → Int) (w : World) (h : Ints B w a r D) (h' : Ints B w b s S) (hB : B ≤ w.heap.size) (hr : (r : Int) ≤ 1048576) (hs : (s : Int) ≤ 1048576) :
    Calls Try.prog 17 #[.agg #[.slice a r cap, .slice b s dap]] w fun e w' => ∃ g1 g2 : Nat, e = .returned (.agg #[.slice (some ⟨g1, 0, none⟩) r r, .slice (some ⟨g2, 0, none⟩) s s]) ∧ VOwn w.heap.size w' (some ⟨g1, 0, none⟩) (some ⟨g2, 0, none⟩) r s D S ∧ Below w.heap.size w w' := by
  have H := hide h
  have H' := hide h'
  clear h h'
  go_enter Try.func17, Try.ntmps17
  go_wp2_with fail
  refine (toIntS B a r cap D _ (by exact Ints.below H.out ((((Below.refl B w).alloc hB _).alloc (by simp; omega) _).alloc (by simp; omega) _)) (by simp; omega) hr).mono ?_
  rintro e w1 ⟨rfl, q1, s1, b1⟩
  have hc1 := old_cells b1
  have hf1 := old_marks b1
  have z1 : w.heap.size + 3 < w1.heap.size := by simp at s1; omega
  have B1 := hide b1
  have Q1 := hide q1
  clear b1 q1
  have B0 := hide (show Below w.heap.size w (((w.alloc (.cells #[.slice a r cap, .slice b s dap] 36)).alloc (.cells #[.slice none 0 0, .slice none 0 0] 38)).alloc (.cells #[.slice none 0 0, .slice none 0 0] 38)) from below_alloc3 _ _ _ _)
  have B01 := hide (B0.out.trans (B1.out.mono (by simp; omega)))
  have B12 := hide (B01.out.setCell (p := ⟨w.heap.size + 1 + 1, 0, none⟩) (by show w.heap.size ≤ w.heap.size + 1 + 1; omega) (.slice (some ⟨w.heap.size + 1 + 1 + 1, 0, none⟩) r r))
  have K1 := hide (Q1.out.kept (Kept.setCell w1 ⟨w.heap.size + 1 + 1, 0, none⟩ (.slice (some ⟨w.heap.size + 1 + 1 + 1, 0, none⟩) r r)) (by simp))
  go_wp2_with fail
  refine (toIntS B b s dap S _ (by exact H'.out.below (B12.out.mono hB)) (by have := B12.out.size; omega) hs).mono ?_
  rintro e w2 ⟨rfl, q2, s2, b2⟩
  have hc2 := old_cells b2
  have hf2 := old_marks b2
  have Q2 := hide q2
  have K2 := hide (K1.out.below b2 (by simp [World.setCell]; omega))
  have B22 := hide (B12.out.trans (b2.mono B12.out.size))
  have hsz : (w1.setCell ⟨w.heap.size + 1 + 1, 0, none⟩ (.slice (some ⟨w.heap.size + 1 + 1 + 1, 0, none⟩) r r)).heap.size = w1.heap.size := by simp [World.setCell]
  rw [hsz] at hc2 hf2
  have c20 := fun i => hc2 w.heap.size i (by omega)
  have c21 := fun i => hc2 (w.heap.size + 1) i (by omega)
  have c22 := fun i => hc2 (w.heap.size + 1 + 1) i (by omega)
  have f20 := fun i => hf2 w.heap.size i (by omega)
  have f21 := fun i => hf2 (w.heap.size + 1) i (by omega)
  have f22 := fun i => hf2 (w.heap.size + 1 + 1) i (by omega)
  clear hc2 hf2
  have S2 := hide s2
  clear q2 b2 s2
  go_wp2_with fail
  refine bodyPost_ret (v := .agg #[.slice (some ⟨w.heap.size + 1 + 1 + 1, 0, none⟩) r r, .slice (some ⟨w1.heap.size, 0, none⟩) s s]) (by simp [results, Try.results17, go_sem, c20, c21, c22, hc1]) rfl ⟨_, _, rfl, vown_of ?_ ?_ (by omega) (by omega) (by omega), ?_⟩
  · repeat (refine Rw.other ?_ (by simp; try omega))
    have := K2.out
    simpa only [World.size_alloc] using this
  · repeat (refine Rw.other ?_ (by simp; try omega))
    have := Q2.out
    rwa [hsz] at this
  · repeat (refine Below.setCell ?_ (by simp; try omega) _)
    exact B22.out
set_option maxHeartbeats 1000000 in
theorem eqTensor (B : Nat) (a b a' b' : Option Addr) (r s cap dap cap' dap' : Nat) (D S D' S' : Nat → Int) (w : World) (hB : B ≤ w.heap.size) (h1 : Ints B w a r D) (h2 : Ints B w b s S) (h3 : Ints B w a' r D') (h4 : Ints B w b' s S')
    (e1 : ∀ j, j < r → D j = D' j) (e2 : ∀ j, j < s → S j = S' j) (hr : (r : Int) ≤ 1048576) (hs : (s : Int) ≤ 1048576) :
    Calls Try.prog 19 #[.agg #[.slice a r cap, .slice b s dap], .agg #[.slice a' r cap', .slice b' s dap']] w fun e w' => e = .returned (.bool true) ∧ Below w.heap.size w w' := by
  have B0 := hide (show Below w.heap.size w ((w.alloc (.cells #[.slice a r cap, .slice b s dap] 38)).alloc (.cells #[.slice a' r cap', .slice b' s dap'] 38)) from ((Below.refl _ _).alloc (Nat.le_refl _) _).alloc (by simp) _)
  have H1 := hide (h1.below (B0.out.mono hB))
  have H3 := hide (h3.below (B0.out.mono hB))
  have H2 := hide h2
  have H4 := hide h4
  have E1 := hide e1
  have E2 := hide e2
  clear h1 h2 h3 h4 e1 e2
  go_enter Try.func19, Try.ntmps19
  go_wp2_with fail
  refine (eqIntS B a a' r cap cap' D D' _ H1.out H3.out E1.out hr).mono ?_
  rintro e w1 ⟨rfl, b1⟩
  have hc1 := old_cells b1
  have c10 := fun i => hc1 w.heap.size i (by simp; omega)
  have c11 := fun i => hc1 (w.heap.size + 1) i (by simp)
  have B1 := hide (B0.out.trans (b1.mono (by simp; omega)))
  have z1 : w.heap.size + 1 < w1.heap.size := by have := b1.size; simp at this; omega
  clear hc1 b1
  go_wp2_with fail
  refine (eqIntS B b b' s dap dap' S S' _ (H2.out.below (B1.out.mono hB)) (H4.out.below (B1.out.mono hB)) E2.out hs).mono ?_
  rintro e w2 ⟨rfl, b2⟩
  have hz := B1.out.size
  have hc2 := old_cells b2
  have c20 := fun i => hc2 w.heap.size i (by omega)
  have c21 := fun i => hc2 (w.heap.size + 1) i (by omega)
  have B2 := hide (B1.out.trans (b2.mono B1.out.size))
  clear hc2 b2
  go_wp2_with fail
  go_ret
  exact ⟨rfl, B2.out⟩
set_option maxHeartbeats 1000000 in
theorem markTensor (B : Nat) (a b : Option Addr) (r s cap dap : Nat) (D S : Nat → Int) (k : Int) (w : World) (h : VOwn B w a b r s D S) (hr : (r : Int) ≤ 1048576) (hs : (s : Int) ≤ 1048576) (k0 : 0 ≤ k) (k1 : k ≤ 1048576) :
    Calls Try.prog 20 #[.agg #[.slice a r cap, .slice b s dap], .int .i64 k] w fun e w' => e = .returned (.int .i64 (k + r + s)) ∧ VOwn B w' a b r s (fun j => k + j) (fun j => k + r + j) ∧ Kept (VBlk a b r s) w w' := by
  have B0 := hide (show Below w.heap.size w (w.alloc (.cells #[.slice a r cap, .slice b s dap] 38)) from (Below.refl _ _).alloc (Nat.le_refl _) _)
  have H := hide (h.below B0.out)
  have HB := hide (fun k (q : VBlk a b r s k) => h.blk q)
  clear h
  go_enter Try.func20, Try.ntmps20
  go_wp2_with fail
  refine (markIntS B a r cap D k _ H.out.d hr k0 (by omega)).mono ?_
  rintro e w1 ⟨rfl, q1, t1⟩
  have c10 : ∀ i, w1.cell? ⟨w.heap.size, i, none⟩ = (w.alloc (.cells #[.slice a r cap, .slice b s dap] 38)).cell? ⟨w.heap.size, i, none⟩ := fun i =>
    World.cell?_of_block (w := w.alloc _) (a := ⟨w.heap.size, i, none⟩) (t1.block w.heap.size (by simp) (fun q => by have := (HB.out _ (.inl q)).2; omega))
  have T1 := hide t1
  have Q1 := hide q1
  have Q2 := hide (H.out.t.kept t1 (fun k q q' => H.out.ne k q' q))
  clear t1 q1
  go_wp2_with fail
  refine (markIntS B b s dap S _ _ Q2.out hs (by omega) (by omega)).mono ?_
  rintro e w2 ⟨rfl, q2, t2⟩
  have T2 := hide t2
  have Q3 := hide q2
  have Q4 := hide (Q1.out.kept t2 (fun k q q' => H.out.ne k q q'))
  clear t2 q2
  go_wp2_with fail
  go_ret
  exact ⟨rfl, ⟨Q4.out, Q3.out, H.out.ne⟩, ((Kept.of_below B0.out).trans (T1.out.mono (fun k _ q => .inl q))).trans (T2.out.mono (fun k _ q => .inr q))⟩
set_option maxHeartbeats 1000000 in
theorem heldTensor (B : Nat) (a b : Option Addr) (r s cap dap : Nat) (k : Int) (w : World) (h : VOwn B w a b r s (fun j => k + j) (fun j => k + r + j)) (hr : (r : Int) ≤ 1048576) (hs : (s : Int) ≤ 1048576) (k0 : 0 ≤ k) (k1 : k ≤ 1048576) :
    Calls Try.prog 21 #[.agg #[.slice a r cap, .slice b s dap], .int .i64 k] w fun e w' => e = .returned (.int .i64 (k + r + s)) ∧ Below w.heap.size w w' := by
  have B0 := hide (show Below w.heap.size w (w.alloc (.cells #[.slice a r cap, .slice b s dap] 38)) from (Below.refl _ _).alloc (Nat.le_refl _) _)
  have H := hide (h.below B0.out)
  clear h
  have p1 : decide (k + r < 0) = false := by rw [decide_eq_false_iff_not]; omega
  have p2 : decide (k + r + s < 0) = false := by rw [decide_eq_false_iff_not]; omega
  go_enter Try.func21, Try.ntmps21
  go_wp2_with fail
  refine (heldIntS _ a r cap k _ H.out.d.ints hr k0 (by omega)).mono ?_
  rintro e w1 ⟨rfl, rfl⟩
  go_wp2_with fail
  refine (heldIntS _ b s dap (k + r) _ H.out.t.ints hs (by omega) (by omega)).mono ?_
  rintro e w1 ⟨rfl, rfl⟩
  go_wp2_with fail
  go_ret
  exact ⟨rfl, B0.out⟩
end Vo
end Go.Proofs.Ytejfodkobfdelaa
