/- Clipped gradients of the program. -/
import Derived.Test.YtflbhlepmjiejaaEh
import Derived.Test.YtflbhlepmjiejaaEc
import Derived.Shelf.Abstract
namespace Go.Proofs.Ytflbhlepmjiejaa
namespace Vo
open Go.ChangeShapes Go.WideShapes Go.ChangeAt Go.RowKit Go.Joins Go.Sort
open Vl
set_option linter.unusedVariables false
set_option linter.unusedSimpArgs false
/-- what is rounded of at most K times d stays within K -/
theorem nrv_abs {n d K : Int} (d0 : 1 ≤ d) (K0 : 0 ≤ K) (h0 : -(K * d) ≤ n) (h1 : n ≤ K * d) : -K ≤ nrv n d ∧ nrv n d ≤ K := by
  have e1 := Int.tmod_add_mul_tdiv n d
  have t1 : n.tmod d < d := Int.tmod_lt_of_pos n (by omega)
  have t0 : -d < n.tmod d := by
    have := Int.tmod_lt_of_pos (-n) (show 0 < d by omega)
    rw [Int.neg_tmod] at this
    omega
  unfold nrv Nea.rd
  generalize n.tdiv d = q at *
  generalize n.tmod d = t at *
  have key : ∀ c : Int, q ≤ c ∨ c + 1 ≤ q := fun c => by omega
  have up : q ≤ K := by
    rcases key K with h | h
    · exact h
    · have := Int.mul_le_mul_of_nonneg_left h (show 0 ≤ d by omega)
      have e : d * (K + 1) = K * d + d := by rw [Int.mul_add, Int.mul_one, Int.mul_comm]
      omega
  have dn : -K ≤ q := by
    rcases key (-K - 1) with h | h
    · have := Int.mul_le_mul_of_nonneg_left h (show 0 ≤ d by omega)
      have e : d * (-K - 1) = -(K * d) - d := by rw [Int.mul_sub, Int.mul_one, Int.mul_neg, Int.mul_comm]
      omega
    · omega
  have upE : q = K → t ≤ 0 := fun h => by
    subst h
    have e : d * q = q * d := Int.mul_comm _ _
    omega
  have dnE : q = -K → 0 ≤ t := fun h => by
    subst h
    have e : d * -K = -(K * d) := by rw [Int.mul_neg, Int.mul_comm]
    omega
  split
  · have : ¬ q = -K := fun h => by have := dnE h; omega
    split <;> omega
  · by_cases hq : q = K
    · have := upE hq
      have : t = 0 := by omega
      subst this
      rw [if_neg (by omega)]
      omega
    · split <;> omega
theorem nrv_clip {x m v : Int} (x0 : -16777216 ≤ x) (x1 : x ≤ 16777216) (m0 : 0 ≤ m) (c : m < v) : -16777216 ≤ nrv (x * m) v ∧ nrv (x * m) v ≤ 16777216 := by
  have h1 : x * m ≤ 16777216 * v := by
    have a1 : x * m ≤ 16777216 * m := Int.mul_le_mul_of_nonneg_right x1 m0
    omega
  have h0 : -(16777216 * v) ≤ x * m := by
    have a1 : -16777216 * m ≤ x * m := Int.mul_le_mul_of_nonneg_right x0 m0
    omega
  exact nrv_abs (by omega) (by decide) h0 h1
set_option maxHeartbeats 1000000 in
theorem elemN (N : Nat) (F : Nat) (cs : Array Value) (G : Nat → Int) (w : World) (hN : (N : Int) ≤ 4194304) (hG : ∀ k, k < N → bd (G k)) (eF : ∀ args w, (callFunc F args).run Try.prog w = .ok (.enter F args) w)
    (hf : ∀ (k : Nat) (W : World), k < N → Below w.heap.size w W → Calls Try.prog F (#[.int .i64 k] ++ cs) W fun e W' => e = .returned (.int .i64 (G k)) ∧ Below W.heap.size W W') :
    Calls Try.prog 69 #[.int .i64 N, .func (.func F) #[] cs] w fun e w' => e = .returned (.slice (some ⟨w.heap.size, 0, none⟩) N N) ∧ Rw w' w.heap.size N G ∧ w.heap.size < w'.heap.size ∧ Below w.heap.size w w' := by
  have hmk := make_int N (by omega)
  have HF := hide hf
  have HG := hide hG
  clear hf hG
  go_enter Try.func69, Try.ntmps69
  go_wp2_with fail
  go_loopw [11] (fun i wx => ∃ k : Nat, k ≤ N ∧ i = .int .i64 k ∧ Rw wx w.heap.size N (fun t => if t < k then G t else 0) ∧ w.heap.size < wx.heap.size ∧ Below w.heap.size w wx) (fun i _ => N - (intOf i).toNat)
  case atStart => exact ⟨0, Nat.zero_le _, rfl, (rw_new w N _).same (fun t ht => by simp), by simp, (Below.refl _ _).alloc (Nat.le_refl _) _⟩
  case round =>
    obtain ⟨k, hk, rfl, hw, hs, hb⟩ := hrel
    have HW := hide hw
    have HB := hide hb
    clear hw hb
    by_cases hlt : k < N
    · have hkI : (k : Int) < N := by omega
      go_wp2_with fail
      refine (HF.out k _ hlt HB.out).mono ?_
      rintro e w1 ⟨rfl, b1⟩
      have HW1 := hide (HW.out.below b1 hs)
      have HB1 := hide (HB.out.trans (b1.mono HB.out.size))
      have hs1 : w.heap.size < w1.heap.size := Nat.lt_of_lt_of_le hs b1.size
      obtain ⟨c2, f2, _⟩ := HW1.out k hlt
      clear b1
      go_wp2_with fail
      go_roundw
      case rel => exact ⟨k + 1, by omega, by go_num, (HW1.out.set k (G k) (HG.out k hlt)).same (fun t ht => by by_cases c : t = k <;> by_cases c2 : t < k <;> simp [c, c2] <;> omega), by simpa [World.setCell] using hs1, HB1.out.setCell (p := ⟨w.heap.size, k, none⟩) (Nat.le_refl _) _⟩
      case measure => simp [intOf]; omega
    · have e : k = N := by omega
      go_wp2_with fail
      go_ret
      exact ⟨rfl, HW.out.same (fun t ht => by simp; intro; omega), hs, HB.out⟩
set_option maxHeartbeats 1000000 in
theorem clip1 (B : Nat) (a : Option Addr) (r cap k P0 P1 P2 : Nat) (S : Nat → Int) (m v : Int) (W : World) (h : Ints B W a r S) (hk : k < r) (r4 : (r : Int) ≤ 4096)
    (h0 : W.cell? ⟨P0, 0, none⟩ = some (.slice a r cap)) (h1 : W.cell? ⟨P1, 0, none⟩ = some (.int .i64 m)) (h2 : W.cell? ⟨P2, 0, none⟩ = some (.int .i64 v))
    (x0 : -16777216 ≤ S k) (x1 : S k ≤ 16777216) (m0 : 0 ≤ m) (m1 : m ≤ 1073741824) (v0 : 1 ≤ v) (v1 : v ≤ 2147483648) :
    Calls Try.prog 74 #[.int .i64 k, .pointer (some ⟨P0, 0, none⟩), .pointer (some ⟨P1, 0, none⟩), .pointer (some ⟨P2, 0, none⟩)] W fun e w' => e = .returned (.int .i64 (nrv (S k * m) v)) ∧ Below W.heap.size W w' := by
  obtain ⟨p0, p1⟩ := mul_gm x0 x1 m0 m1
  have wm : IntKind.i64.wrap (S k * m) = S k * m := wid (by omega)
  have CN := hide (fun d os => Calls.regrown_of (d := d) (os := os) (w := W) (nearI (S k * m) v 18014398509481984 p0 p1 (by decide) v0 (by omega) _))
  obtain hz | ⟨b, off, rfl, -, hc⟩ := h
  · omega
  have c1 := cell_regrown (hc k hk).1
  have k0 := cell_regrown h0
  have k1 := cell_regrown h1
  have k2 := cell_regrown h2
  have kI : (k : Int) < (r : Int) := by omega
  obtain ⟨x, hx⟩ : ∃ x, S k = x := ⟨_, rfl⟩
  rw [hx] at c1 wm CN ⊢
  obtain ⟨y, hy⟩ : ∃ y, nrv (x * m) v = y := ⟨_, rfl⟩
  rw [hy] at CN ⊢
  clear hc h0 h1 h2 p0 p1 m0 m1 v0 v1 x0 x1 hx hy
  go_enter Try.func74, Try.ntmps74
  go_wp2_with fail
  refine wp_region_quiet_below (by kernel_rfl) (by kernel_rfl) ?_
  repeat (go_big_quiet_step (first | (go_at_call 68; exact CN.out _ _)))
  refine wpQuiet_nil ?_
  intro _ hw'
  obtain ⟨⟨dq, osq⟩, hw''⟩ := hw'
  subst hw''
  go_wp2_with fail
  go_ret
  exact ⟨rfl, below_regrown _ dq osq⟩
/-- the variables of Clip: the list, most -/
def CB (w W : World) (a : Option Addr) (r cap : Nat) (m : Int) : Prop := w.heap.size + 1 < W.heap.size ∧ W.cell? ⟨w.heap.size, 0, none⟩ = some (.slice a r cap) ∧ W.cell? ⟨w.heap.size + 1, 0, none⟩ = some (.int .i64 m) ∧ Below w.heap.size w W
theorem CB.new (w : World) (a : Option Addr) (r cap : Nat) (m : Int) : CB w ((w.alloc (.cells #[.slice a r cap] 28)).alloc (.cells #[.int .i64 m] 3)) a r cap m :=
  ⟨by simp, by simp [go_sem], by simp [go_sem], ((Below.refl _ _).alloc (Nat.le_refl _) _).alloc (by simp) _⟩
theorem CB.below {w W W' : World} {a : Option Addr} {r cap : Nat} {m : Int} (h : CB w W a r cap m) (b : Below W.heap.size W W') : CB w W' a r cap m := by
  obtain ⟨h0, h1, h2, h3⟩ := h
  exact ⟨Nat.lt_of_lt_of_le h0 b.size, by rw [b.cell (p := ⟨w.heap.size, 0, none⟩) (by show w.heap.size < _; omega)]; exact h1, by rw [b.cell (p := ⟨w.heap.size + 1, 0, none⟩) h0]; exact h2, h3.trans (b.mono h3.size)⟩
set_option maxHeartbeats 1000000 in
theorem iClip_no1 (B : Nat) (a : Option Addr) (r cap : Nat) (S : Nat → Int) (m : Int) (w : World) (hB : B ≤ w.heap.size) (h : Ints B w a r S) (hr : (r : Int) ≤ 1048576) (g : grd r S = false) (G : Nat → Int) :
    Calls Try.prog 71 #[.slice a r cap, .int .i64 m] w (ListR 0 G w) := by
  obtain ⟨W, hW⟩ : ∃ W, (w.alloc (.cells #[.slice a r cap] 28)).alloc (.cells #[.int .i64 m] 3) = W := ⟨_, rfl⟩
  have K := hide (hW ▸ CB.new w a r cap m)
  obtain ⟨-, c0, c1, b0⟩ := K.out
  have C := hide (gradI B a r cap S false W (Nat.le_trans hB b0.size) (h.below (b0.mono hB)) hr g)
  clear h hB g b0
  go_enter Try.func71, Try.ntmps71
  go_wp2_with fail
  refine C.out.mono ?_
  rintro e1 w1 ⟨rfl, b1⟩
  have b2 := (K.out.below b1).2.2.2
  go_wp2_with fail
  go_ret
  exact ⟨_, _, rfl, .inl rfl, b2.alloc b2.size _⟩
set_option maxHeartbeats 1000000 in
theorem iClip_no2 (B : Nat) (a : Option Addr) (r cap : Nat) (S : Nat → Int) (m : Int) (w : World) (hB : B ≤ w.heap.size) (h : Ints B w a r S) (hr : (r : Int) ≤ 1048576) (hm : bd m) (g : grd r S = true) (g2 : decide (0 ≤ m ∧ m ≤ 1073741824) = false) (G : Nat → Int) :
    Calls Try.prog 71 #[.slice a r cap, .int .i64 m] w (ListR 0 G w) := by
  obtain ⟨W, hW⟩ : ∃ W, (w.alloc (.cells #[.slice a r cap] 28)).alloc (.cells #[.int .i64 m] 3) = W := ⟨_, rfl⟩
  have K := hide (hW ▸ CB.new w a r cap m)
  obtain ⟨-, c0, c1, b0⟩ := K.out
  have C := hide (gradI B a r cap S true W (Nat.le_trans hB b0.size) (h.below (b0.mono hB)) hr g)
  have C2 := hide (fun w => lengthF m false hm g2 w)
  clear h hB g b0 hm g2
  go_enter Try.func71, Try.ntmps71
  go_wp2_with fail
  refine C.out.mono ?_
  rintro e1 w1 ⟨rfl, b1⟩
  replace K := hide (K.out.below b1)
  clear c0 c1 b1
  obtain ⟨-, c0, c1, -⟩ := K.out
  go_wp2_with fail
  refine (C2.out _).mono ?_
  rintro e1 w2 ⟨rfl, b2⟩
  have b3 := (K.out.below b2).2.2.2
  go_wp2_with fail
  go_ret
  exact ⟨_, _, rfl, .inl rfl, b3.alloc b3.size _⟩
set_option maxHeartbeats 2000000 in
theorem iClip_yes (B : Nat) (a : Option Addr) (r cap : Nat) (S : Nat → Int) (m v : Int) (w : World) (hB : B ≤ w.heap.size) (h : Ints B w a r S) (hm : bd m) (hn : a = none → r = 0 ∧ cap = 0) (g : grd r S = true) (g2 : decide (0 ≤ m ∧ m ≤ 1073741824) = true) (v1 : v ≤ 2147483648)
    (hN : ∀ B w a cap, B ≤ w.heap.size → Ints B w a r S → Calls Try.prog 73 #[.slice a r cap] w fun e w' => e = .returned (.int .i64 v) ∧ Below w.heap.size w w') :
    Calls Try.prog 71 #[.slice a r cap, .int .i64 m] w (ListR r (clp S m v) w) := by
  obtain ⟨W, hW⟩ : ∃ W, (w.alloc (.cells #[.slice a r cap] 28)).alloc (.cells #[.int .i64 m] 3) = W := ⟨_, rfl⟩
  have K := hide (hW ▸ CB.new w a r cap m)
  obtain ⟨-, c0, c1, b0⟩ := K.out
  obtain ⟨hall, r4⟩ := grd_of g
  obtain ⟨m0, m1⟩ := of_decide_eq_true g2
  have HL := hide hall
  have M0 := hide m0
  have M1 := hide m1
  have V1 := hide v1
  have C := hide (gradI B a r cap S true W (Nat.le_trans hB b0.size) (h.below (b0.mono hB)) (by omega) g)
  have C2 := hide (fun w => lengthF m true hm g2 w)
  have H := hide h
  have HN := hide hN
  have HA := hide hn
  clear h g b0 hm g2 hN hall m0 m1 v1 hn
  go_enter Try.func71, Try.ntmps71
  go_wp2_with fail
  refine C.out.mono ?_
  rintro e1 w1 ⟨rfl, b1⟩
  replace K := hide (K.out.below b1)
  clear c0 c1 b1
  obtain ⟨-, c0, c1, -⟩ := K.out
  go_wp2_with fail
  refine (C2.out _).mono ?_
  rintro e1 w2 ⟨rfl, b2⟩
  replace K := hide (K.out.below b2)
  clear c0 c1 b2
  obtain ⟨-, c0, c1, bb⟩ := K.out
  have HN2 := hide (HN.out B _ a cap (Nat.le_trans hB bb.size) (H.out.below (bb.mono hB)))
  clear bb
  go_wp2_with fail
  refine HN2.out.mono ?_
  rintro e1 w3 ⟨rfl, b3⟩
  replace K := hide (K.out.below b3)
  clear c0 c1 b3 hW
  obtain ⟨W3, hW3⟩ : ∃ W3, w3.alloc (.cells #[.int .i64 v] 3) = W3 := ⟨_, rfl⟩
  have n3 : Below w3.heap.size w3 W3 := hW3 ▸ (Below.refl _ _).alloc (Nat.le_refl _) _
  have c2 : W3.cell? ⟨w3.heap.size, 0, none⟩ = some (.int .i64 v) := by rw [← hW3]; simp [go_sem]
  have z3 : w3.heap.size < W3.heap.size := by rw [← hW3]; simp
  replace K := hide (K.out.below n3)
  obtain ⟨zz, c0, c1, bb⟩ := K.out
  have BB := hide bb
  have HI := hide (H.out.below (bb.mono hB))
  have SB := hide (Nat.le_trans hB bb.size)
  have C3 := hide c2
  have Z3 := hide z3
  clear n3 bb zz z3
  by_cases cv : m < v
  · have cv' : decide (v ≤ m) = false := decide_eq_false (by omega)
    have EX := hide (show clp S m v = fun j => nrv (S j * m) v by funext j; unfold clp; rw [if_pos cv])
    have hbd := hide (show ∀ j, j < r → bd (nrv (S j * m) v) from fun j hj => by
      obtain ⟨x0, x1⟩ := HL.out j hj
      obtain ⟨p0, p1⟩ := mul_gm x0 x1 M0.out M1.out
      have := nrv_bd (S j * m) v 18014398509481984 p0 p1
      exact ⟨by omega, by omega⟩)
    have CV := hide cv
    clear cv
    go_wp2_with fail
    refine (elemN r 74 #[.pointer (some ⟨w.heap.size, 0, none⟩), .pointer (some ⟨w.heap.size + 1, 0, none⟩), .pointer (some ⟨w3.heap.size, 0, none⟩)] (fun j => nrv (S j * m) v) _ (by omega) hbd.out (enters_of Try.func74 (by kernel_rfl) rfl) (fun k X hk hX => clip1 B a r cap k _ _ _ S m v X (HI.out.below (hX.mono SB.out)) hk r4 (K.out.below hX).2.1 (K.out.below hX).2.2.1 ((hX.cell (p := ⟨w3.heap.size, 0, none⟩) Z3.out).trans C3.out) (HL.out k hk).1 (HL.out k hk).2 M0.out M1.out (by have := CV.out; have := M0.out; omega) V1.out)).mono ?_
    rintro e1 w4 ⟨rfl, q4, s4, b4⟩
    go_wp2_with fail
    go_ret
    rw [EX.out]
    exact ⟨_, _, rfl, .inr ⟨_, rfl, BB.out.size, q4⟩, BB.out.trans (b4.mono BB.out.size)⟩
  · have cv' : v ≤ m := by omega
    have EX := hide (show clp S m v = S by funext j; unfold clp; rw [if_neg cv])
    clear cv
    go_wp2_with fail
    refine (clone B a r cap S _ HI.out SB.out (by omega) HA.out).mono ?_
    rintro e1 w4 ⟨u, rfl, q4, b4⟩
    obtain ⟨a', c', rfl, hO⟩ := q4.own
    have HO := hide hO
    clear hO q4
    go_wp2_with fail
    go_ret
    rw [EX.out]
    exact ⟨_, _, rfl, HO.out.mono BB.out.size, BB.out.trans (b4.mono BB.out.size)⟩
/-- what is clipped: both sides answer one list -/
theorem clipBoth (r : Nat) (S : Nat → Int) (m : Int) (hr : (r : Int) ≤ 1048576) (hm : bd m) : ∃ (n : Nat) (G : Nat → Int), n ≤ r ∧ (grd r S = true → 0 ≤ m ∧ m ≤ 1073741824 → n = r ∧ grd r G = true) ∧
    (∀ B w a cap, B ≤ w.heap.size → Ints B w a r S → Calls Try.prog 34 #[.slice a r cap, .int .i64 m] w (ListR n G w)) ∧
    (∀ B w a cap, B ≤ w.heap.size → (a = none → r = 0 ∧ cap = 0) → Ints B w a r S → Calls Try.prog 71 #[.slice a r cap, .int .i64 m] w (ListR n G w)) := by
  cases g : grd r S
  · exact ⟨0, fun _ => 0, by omega, fun h => absurd h Bool.false_ne_true, fun B w a cap hB h => sClip_no1 B a r cap S m w hB h hr g _, fun B w a cap hB _ h => iClip_no1 B a r cap S m w hB h hr g _⟩
  cases g2 : decide (0 ≤ m ∧ m ≤ 1073741824)
  · exact ⟨0, fun _ => 0, by omega, fun _ h => absurd h (of_decide_eq_false g2), fun B w a cap hB h => sClip_no2 B a r cap S m w hB h hr g g2 _, fun B w a cap hB _ h => iClip_no2 B a r cap S m w hB h hr hm g g2 _⟩
  obtain ⟨v, ⟨v0, v1⟩, hv, hs, hi⟩ := normBoth r S hr
  obtain ⟨hall, r4⟩ := grd_of g
  obtain ⟨m0, m1⟩ := of_decide_eq_true g2
  refine ⟨r, clp S m v, Nat.le_refl _, fun _ _ => ⟨rfl, grd_mk (fun j hj => ?_) r4⟩, fun B w a cap hB h => sClip_yes B a r cap S m v w hB h g g2 v1 hs, fun B w a cap hB hn h => iClip_yes B a r cap S m v w hB h hm hn g g2 v1 hi⟩
  obtain ⟨x0, x1⟩ := hall j hj
  unfold clp
  by_cases c : m < v
  · rw [if_pos c]
    exact nrv_clip x0 x1 m0 c
  · rw [if_neg c]; exact ⟨x0, x1⟩
end Vo
end Go.Proofs.Ytflbhlepmjiejaa
