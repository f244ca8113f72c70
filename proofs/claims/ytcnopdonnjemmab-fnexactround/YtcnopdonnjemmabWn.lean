/- Round of the program. -/
import Derived.Test.YtcnopdonnjemmabLza
import Derived.Test.YtcnopdonnjemmabWg
import Derived.Test.YtcnopdonnjemmabVc
namespace Go.Proofs.Ytcnopdonnjemmab
namespace Wj
open Go.ChangeShapes Go.WideShapes Go.ChangeAt Go.RowKit Go.Joins
open Vl Vo
set_option linter.unusedVariables false
set_option linter.unusedSimpArgs false
/-- how many of A examples worker k of n has -/
def shr (A n k : Nat) : Nat := (A + n - 1 - k) / n
theorem shr_int {A n k : Nat} (h : k < n) : ((A : Int) + (n : Int) - 1 - (k : Int)) / (n : Int) = (shr A n k : Int) := by
  unfold shr
  rw [show (A : Int) + (n : Int) - 1 - (k : Int) = ((A + n - 1 - k : Nat) : Int) by omega]
  rfl
/-- the parts can be those of one batch -/
def rdOk (n : Nat) (L : Nat → LV) : Prop := n ≤ 64 ∧ lsum L n ≤ 4096 ∧ ∀ k, k < n → (L k).r = shr (lsum L n) n k
/-- number k of the batch -/
def rdG (n : Nat) (L : Nat → LV) (k : Nat) : Int := (L (k % n)).D (k / n)
theorem lsum_up {L : Nat → LV} {n k : Nat} (h : k < n) : lsum L k + (L k).r ≤ lsum L n := by
  have : ∀ m, k + 1 ≤ m → lsum L (k + 1) ≤ lsum L m := by
    intro m hm
    induction m with
    | zero => omega
    | succ m ih =>
      by_cases e : k + 1 = m + 1
      · rw [e]; exact Nat.le_refl _
      · have := ih (by omega); show _ ≤ lsum L m + (L m).r; omega
  exact this n h
theorem rd_at {n : Nat} {L : Nat → LV} (h : rdOk n L) {k : Nat} (hk : k < lsum L n) : 0 < n ∧ k % n < n ∧ k / n < (L (k % n)).r := by
  have n0 : 0 < n := by
    rcases Nat.eq_zero_or_pos n with e | e
    · subst e; exact absurd hk (by show ¬ k < 0; omega)
    · exact e
  have m0 := Nat.mod_lt k n0
  refine ⟨n0, m0, ?_⟩
  rw [h.2.2 _ m0]
  unfold shr
  rw [Nat.lt_div_iff_mul_lt n0]
  have := Nat.div_add_mod k n
  rw [Nat.mul_comm] at this
  omega
/-- element i of a list of lists -/
theorem ll_at {B n : Nat} {w : World} {a : Option Addr} {L : Nat → LV} (h : LL B w a n L) {i : Nat} (hi : i < n) : ∃ blk off, a = some ⟨blk, off, none⟩ ∧ blk < B ∧ w.cell? ⟨blk, off + i, none⟩ = some (.slice (L i).a (L i).r (L i).cap) ∧ Ints B w (L i).a (L i).r (L i).D := by
  rcases h with h | ⟨blk, off, e, hB, hc⟩
  · omega
  · exact ⟨blk, off, e, hB, hc i hi⟩
set_option maxHeartbeats 1000000 in
theorem elemW (N : Nat) (F : Nat) (cs : Array Value) (G : Nat → Int) (w : World) (hN : (N : Int) ≤ 4194304) (hG : ∀ k, k < N → bd (G k)) (eF : ∀ args w, (callFunc F args).run Try.prog w = .ok (.enter F args) w)
    (hf : ∀ (k : Nat) (W : World), k < N → Below w.heap.size w W → Calls Try.prog F (#[.int .i64 k] ++ cs) W fun e W' => e = .returned (.int .i64 (G k)) ∧ Below W.heap.size W W') :
    Calls Try.prog 27 #[.int .i64 N, .func (.func F) #[] cs] w fun e w' => e = .returned (.slice (some ⟨w.heap.size, 0, none⟩) N N) ∧ Rw w' w.heap.size N G ∧ w.heap.size < w'.heap.size ∧ Below w.heap.size w w' := by
  have hmk := make_int N (by omega)
  have HF := hide hf
  have HG := hide hG
  clear hf hG
  go_enter Try.func27, Try.ntmps27
  go_wp2_with fail
  go_loopw [11] (fun i wx => ∃ k : Nat, k ≤ N ∧ i = .int .i64 k ∧ Rw wx w.heap.size N (fun t => if t < k then G t else 0) ∧ w.heap.size < wx.heap.size ∧ Below w.heap.size w wx) (fun i _ => N - (intOf i).toNat)
  case atStart => exact ⟨0, Nat.zero_le _, rfl, (rw_new w N _).same (fun t ht => by simp), by simp, (Below.refl _ _).alloc (Nat.le_refl _) _⟩
  case round =>
    obtain ⟨k, hk, rfl, hw, hs, hb⟩ := hrel
    have HW := hide hw
    have HB := hide hb
    clear hw hb
    by_cases hlt : k < N
    · have hkI : (k : Int) < N := by omega
      go_wp2_with fail
      refine (HF.out k _ hlt HB.out).mono ?_
      rintro e w1 ⟨rfl, b1⟩
      have HW1 := hide (HW.out.below b1 hs)
      have HB1 := hide (HB.out.trans (b1.mono HB.out.size))
      have hs1 : w.heap.size < w1.heap.size := Nat.lt_of_lt_of_le hs b1.size
      obtain ⟨c2, f2, _⟩ := HW1.out k hlt
      clear b1
      go_wp2_with fail
      go_roundw
      case rel => exact ⟨k + 1, by omega, by go_num, (HW1.out.set k (G k) (HG.out k hlt)).same (fun t ht => by by_cases c : t = k <;> by_cases c2 : t < k <;> simp [c, c2] <;> omega), by simpa [World.setCell] using hs1, HB1.out.setCell (p := ⟨w.heap.size, k, none⟩) (Nat.le_refl _) _⟩
      case measure => simp [intOf]; omega
    · have e : k = N := by omega
      go_wp2_with fail
      go_ret
      exact ⟨rfl, HW.out.same (fun t ht => by simp; intro; omega), hs, HB.out⟩
theorem shareF (A n k : Nat) (w : World) (h : k < n) (hn : n ≤ 64) (hA : A ≤ 1048576) :
    Calls Try.prog 26 #[.int .i64 k, .int .i64 n, .int .i64 A] w fun e w' => e = .returned (.int .i64 (shr A n k)) ∧ w' = w := by
  have E := hide (shr_int (A := A) h)
  have n1 : (1 : Int) ≤ n := by omega
  have nz : ((n : Int) == 0) = false := beq_eq_false_iff_ne.2 (by omega)
  have kI : (k : Int) < n := by omega
  have hnI : (n : Int) ≤ 64 := by omega
  have hAI : (A : Int) ≤ 1048576 := by omega
  have p0 : (0 : Int) ≤ (A : Int) + (n : Int) - 1 - (k : Int) := by omega
  go_enter Try.func26, Try.ntmps26
  go_wp2_with fail
  go_ret
  exact ⟨ret_int E.out, rfl⟩
set_option maxHeartbeats 1000000 in
theorem round1 (B : Nat) (a : Option Addr) (n cap k P0 P1 : Nat) (L : Nat → LV) (W : World) (hL : LL B W a n L) (ok : rdOk n L) (hk : k < lsum L n)
    (h0 : W.cell? ⟨P0, 0, none⟩ = some (.slice a n cap)) (h1 : W.cell? ⟨P1, 0, none⟩ = some (.int .i64 n)) :
    Calls Try.prog 28 #[.int .i64 k, .pointer (some ⟨P0, 0, none⟩), .pointer (some ⟨P1, 0, none⟩)] W fun e w' => e = .returned (.int .i64 (rdG n L k)) ∧ Below W.heap.size W w' := by
  obtain ⟨n0, m0, d0⟩ := rd_at ok hk
  obtain ⟨blk, off, rfl, -, c0, hi⟩ := ll_at hL m0
  obtain ⟨q, hq⟩ : ∃ q, k % n = q := ⟨_, rfl⟩
  obtain ⟨d, hd⟩ : ∃ d, k / n = d := ⟨_, rfl⟩
  have E := hide (show rdG n L k = (L q).D d by unfold rdG; rw [hq, hd])
  have kq : (k : Int) % (n : Int) = (q : Int) := by rw [← hq]; rfl
  have kd : (k : Int) / (n : Int) = (d : Int) := by rw [← hd]; rfl
  rw [hq] at c0 hi m0 d0
  rw [hd] at d0
  generalize L q = X at *
  obtain ⟨xa, xr, xc, xD⟩ := X
  dsimp only at *
  rcases hi with hz | ⟨b, o, rfl, -, hc⟩
  · omega
  have c1 := cell_regrown (hc d d0).1
  have k0 := cell_regrown h0
  have k1 := cell_regrown h1
  have k2 := cell_regrown c0
  have dk : d ≤ k := by rw [← hd]; exact Nat.div_le_self _ _
  have kA : k < 4096 := by have := ok.2.1; omega
  have wd : wrap64 (d : Int) = (d : Int) := by unfold wrap64; omega
  have qI : (q : Int) < (n : Int) := by omega
  have dI : (d : Int) < (xr : Int) := by omega
  have n1 : (1 : Int) ≤ n := by omega
  have nz : ((n : Int) == 0) = false := beq_eq_false_iff_ne.2 (by omega)
  clear hc c0 h0 h1 hL ok hk hq hd n0
  go_enter Try.func28, Try.ntmps28
  go_wp2_with fail
  refine wp_region_quiet_below (by kernel_rfl) (by kernel_rfl) ?_
  repeat (go_big_quiet_step (fail))
  refine wpQuiet_nil ?_
  intro _ hw'
  obtain ⟨⟨dq, osq⟩, hw''⟩ := hw'
  subst hw''
  go_wp2_with fail
  go_ret
  exact ⟨ret_int E.out.symm, below_regrown _ dq osq⟩
/-- how long what is put together is -/
theorem implRound (a : Option Addr) (n cap m : Nat) (L : Nat → LV) (w : World) (h : LL w.heap.size w a n L) (hs : lsum L n ≤ 1048576) (hn : n ≤ 1048576) (m1 : rdOk n L → m = lsum L n) (m0 : ¬ rdOk n L → m = 0) :
    Calls Try.prog 13 #[.slice a n cap] w fun e w' => ∃ a' c, e = .returned (.slice a' m c) ∧ OwnL w.heap.size w' a' m (rdG n L) ∧ Below w.heap.size w w' := by
  have M1 := hide m1
  have M0 := hide m0
  have HS := hide hs
  obtain ⟨W1, hW1⟩ : ∃ W1, w.alloc (.cells #[.slice a n cap] 30) = W1 := ⟨_, rfl⟩
  have b1 := hide (show Below w.heap.size w W1 from hW1 ▸ (Below.refl _ _).alloc (Nat.le_refl _) _)
  have p1 : W1.cell? ⟨w.heap.size, 0, none⟩ = some (.slice a n cap) := by rw [← hW1]; simp [go_sem]
  have z1 := hide (show W1.heap.size = w.heap.size + 1 by rw [← hW1]; simp)
  obtain ⟨W2, hW2⟩ : ∃ W2, W1.alloc (.cells #[.int .i64 n] 3) = W2 := ⟨_, rfl⟩
  have b2 := hide (show Below W1.heap.size W1 W2 from hW2 ▸ (Below.refl _ _).alloc (Nat.le_refl _) _)
  have p2 : W2.cell? ⟨w.heap.size, 0, none⟩ = some (.slice a n cap) := by rw [b2.out.cell (p := ⟨w.heap.size, 0, none⟩) (by show w.heap.size < _; have := z1.out; omega)]; exact p1
  have c2 : W2.cell? ⟨W1.heap.size, 0, none⟩ = some (.int .i64 n) := by rw [← hW2]; simp [go_sem]
  have B2 := hide (b1.out.trans (b2.out.mono b1.out.size))
  have H2 := hide (h.below B2.out)
  have Z2 := hide (show W1.heap.size < W2.heap.size by rw [← hW2]; simp)
  have nI : (n : Int) ≤ 1048576 := by omega
  clear h hs m1 m0
  go_enter Try.func13, Try.ntmps13
  go_wp2_with fail
  clear hW1 hW2 p1
  go_loopw [4, 13] (fun c i wx => ∃ k : Nat, k ≤ n ∧ i = .int .i64 (k : Int) ∧ c = .int .i64 (lsum L k : Int) ∧ wx = W2) (fun _ i _ => n - (intOf i).toNat)
  case atStart => exact ⟨0, Nat.zero_le _, rfl, rfl, rfl⟩
  case round =>
    obtain ⟨k, hk, rfl, rfl, rfl⟩ := hrel
    by_cases c : k < n
    · have kI : (k : Int) < (n : Int) := by omega
      have up := lsum_up (L := L) c
      obtain ⟨blk, off, rfl, -, ck, -⟩ := ll_at H2.out c
      obtain ⟨x, hx⟩ : ∃ x, (L k).r = x := ⟨_, rfl⟩
      obtain ⟨y, hy⟩ : ∃ y, lsum L k = y := ⟨_, rfl⟩
      have NX := hide (show lsum L (k + 1) = y + x by show lsum L k + (L k).r = _; rw [hy, hx])
      rw [hx] at ck up
      rw [hy] at up ⊢
      have yx : (y : Int) + (x : Int) ≤ 1048576 := by have := HS.out; omega
      have y0 : (0 : Int) ≤ (y : Int) + (x : Int) := by omega
      clear up hx hy
      go_wp2_with fail
      go_roundw
      case rel => exact ⟨k + 1, by omega, by go_num, by rw [NX.out]; go_num, trivial⟩
      case measure => simp [intOf]; omega
    · obtain rfl : k = n := by omega
      have cF : decide ((k : Int) < (k : Int)) = false := by simp
      clear c
      obtain ⟨A, hA⟩ : ∃ A, lsum L k = A := ⟨_, rfl⟩
      have HA := hide hA
      rw [hA] at HS M1 ⊢
      clear hA
      by_cases g1 : 64 < k
      · have g1' : (64 : Int) < (k : Int) := by omega
        obtain rfl : m = 0 := M0.out (fun q => by have := q.1; omega)
        go_wp2_with fail
        go_ret
        first | exact ⟨_, ⟨_, rfl⟩, .inl rfl, B2.out.alloc B2.out.size _⟩ | exact ⟨_, _, rfl, .inl rfl, B2.out.alloc B2.out.size _⟩
      have f1 : decide ((64 : Int) < (k : Int)) = false := decide_eq_false (by omega)
      have f1' : decide (64 < k) = false := decide_eq_false (by omega)
      by_cases g2 : 4096 < A
      · have g2' : (4096 : Int) < (A : Int) := by omega
        obtain rfl : m = 0 := M0.out (fun q => by have := q.2.1; rw [HA.out] at this; omega)
        go_wp2_with fail
        go_ret
        first | exact ⟨_, ⟨_, rfl⟩, .inl rfl, B2.out.alloc B2.out.size _⟩ | exact ⟨_, _, rfl, .inl rfl, B2.out.alloc B2.out.size _⟩
      have f2 : decide ((4096 : Int) < (A : Int)) = false := decide_eq_false (by omega)
      have f2' : decide (4096 < A) = false := decide_eq_false (by omega)
      have k64 := hide (show k ≤ 64 by omega)
      have A4 := hide (show A ≤ 4096 by omega)
      clear g1 g2
      go_wp2_with fail
      clear f1 f1' f2 f2'
      go_loopw [31] (fun i wx => ∃ j : Nat, j ≤ k ∧ i = .int .i64 (j : Int) ∧ (∀ t, t < j → (L t).r = shr A k t) ∧ wx = wr) (fun i _ => k - (intOf i).toNat)
      case atStart => exact ⟨0, Nat.zero_le _, rfl, fun t ht => by omega, rfl⟩
      case round =>
        obtain ⟨j, hj, rfl, hall, rfl⟩ := hrel
        have ALL := hide hall
        clear hall
        by_cases cj : j < k
        · have jI : (j : Int) < (k : Int) := by omega
          obtain ⟨blk, off, rfl, -, ck, -⟩ := ll_at H2.out cj
          obtain ⟨x, hx⟩ : ∃ x, (L j).r = x := ⟨_, rfl⟩
          obtain ⟨y, hy⟩ : ∃ y, shr A k j = y := ⟨_, rfl⟩
          have C := hide (fun W => shareF A k j W cj k64.out (by have := A4.out; omega))
          rw [hy] at C
          rw [hx] at ck
          have XY := hide (show (L j).r = x ∧ shr A k j = y from ⟨hx, hy⟩)
          clear hx hy
          by_cases e : x = y
          · subst e
            have N := hide (show ∀ t, t < j + 1 → (L t).r = shr A k t from fun t ht => by
              by_cases q : t = j
              · subst q; rw [XY.out.1, XY.out.2]
              · exact ALL.out t (by omega))
            go_wp2_with fail
            refine (C.out _).mono ?_
            rintro e1 w4 ⟨rfl, hq⟩; have hq := hq.symm; subst hq
            go_wp2_with fail
            go_roundw
            case rel => exact ⟨j + 1, by omega, by go_num, N.out, trivial⟩
            case measure => simp [intOf]; omega
          · have e2 : ¬ ((x : Int) = (y : Int)) := by omega
            obtain rfl : m = 0 := M0.out (fun q => by have := q.2.2 j cj; rw [HA.out, XY.out.1, XY.out.2] at this; exact e this)
            go_wp2_with fail
            refine (C.out _).mono ?_
            rintro e1 w4 ⟨rfl, hq⟩; have hq := hq.symm; subst hq
            go_wp2_with fail
            go_ret
            first | exact ⟨_, ⟨_, rfl⟩, .inl rfl, B2.out.alloc B2.out.size _⟩ | exact ⟨_, _, rfl, .inl rfl, B2.out.alloc B2.out.size _⟩
        · obtain rfl : j = k := by omega
          have ok := hide (show rdOk j L from ⟨k64.out, by rw [HA.out]; exact A4.out, fun t ht => by rw [HA.out]; exact ALL.out t ht⟩)
          obtain rfl : m = A := M1.out ok.out
          have cF : decide ((j : Int) < (j : Int)) = false := by simp
          have hmf : ∀ (fn : Fn) (first cap : Array Value) (w : World), (Instr.makeFunc fn first cap).run Try.prog w = .ok (.func fn first cap) w := fun _ _ _ _ => rfl
          have BD := hide (show ∀ q, q < m → bd (rdG j L q) from fun q hq => by
            obtain ⟨n0, m0, d0⟩ := rd_at ok.out (by rw [HA.out]; exact hq)
            obtain ⟨blk, off, -, -, -, hi⟩ := ll_at H2.out m0
            exact hi.bd _ d0)
          have C := hide (elemW m 28 #[.pointer (some ⟨w.heap.size, 0, none⟩), .pointer (some ⟨W1.heap.size, 0, none⟩)] (rdG j L) wr (by have := A4.out; omega) BD.out (fun _ _ => by rfl)
            (fun q W hq hW => round1 w.heap.size a j cap q _ _ L W (H2.out.below (hW.mono (by have := Z2.out; have := z1.out; omega))) ok.out (by rw [HA.out]; exact hq)
              (by rw [hW.cell (p := ⟨w.heap.size, 0, none⟩) (by show w.heap.size < _; have := Z2.out; have := z1.out; omega)]; exact p2) (by rw [hW.cell (p := ⟨W1.heap.size, 0, none⟩) Z2.out]; exact c2)))
          clear cj
          go_wp2_with fail
          refine C.out.mono ?_
          rintro e1 w4 ⟨rfl, q1, q2, q3⟩
          have Q1 := hide q1
          have B4 := hide (B2.out.trans (q3.mono B2.out.size))
          clear q1 q2 q3
          go_wp2_with fail
          go_ret
          exact ⟨_, _, rfl, .inr ⟨_, rfl, B2.out.size, Q1.out⟩, B4.out⟩
end Wj
end Go.Proofs.Ytcnopdonnjemmab
