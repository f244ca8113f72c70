/- Which mover a rule has, what a step goes by: the program (written by tools/genoj.py). -/
import Derived.Test.YtflbhlepmjiejaaOi
import Derived.Test.YtflbhlepmjiejaaEi
import Derived.Test.YtflbhlepmjiejaaEk
namespace Go.Proofs.Ytflbhlepmjiejaa
namespace Vo
open Go.ChangeShapes Go.WideShapes Go.ChangeAt Go.RowKit Go.Joins Go.Sort
open Vl
set_option linter.unusedVariables false
set_option linter.unusedSimpArgs false
theorem mover1 (p l m n k z o y s g : Int) (w : World) :
    Calls Try.prog 64 #[.agg #[.int .i64 1, .int .i64 p, .int .i64 l, .int .i64 m, .int .i64 n, .int .i64 k, .int .i64 z, .int .i64 o, .int .i64 y, .int .i64 s, .int .i64 g]] w fun e w' => e = .returned (.iface 93 (.agg #[])) ∧ Below w.heap.size w w' := by
  obtain ⟨W1, hW1⟩ : ∃ W1, w.alloc (.cells #[.int .i64 1, .int .i64 p, .int .i64 l, .int .i64 m, .int .i64 n, .int .i64 k, .int .i64 z, .int .i64 o, .int .i64 y, .int .i64 s, .int .i64 g] 27) = W1 := ⟨_, rfl⟩
  have n1 : Below w.heap.size w W1 := hW1 ▸ (Below.refl _ _).alloc (Nat.le_refl _) _
  have c0 : W1.cell? ⟨w.heap.size, 0, none⟩ = some (.int .i64 1) := by rw [← hW1]; simp [go_sem]
  have c5 : W1.cell? ⟨w.heap.size, 5, none⟩ = some (.int .i64 k) := by rw [← hW1]; simp [go_sem]
  have c6 : W1.cell? ⟨w.heap.size, 6, none⟩ = some (.int .i64 z) := by rw [← hW1]; simp [go_sem]
  have c7 : W1.cell? ⟨w.heap.size, 7, none⟩ = some (.int .i64 o) := by rw [← hW1]; simp [go_sem]
  obtain ⟨W2, hW2⟩ : ∃ W2, W1.alloc (.cells #[.nilIface, .iface 93 (.agg #[]), .iface 95 (.agg #[.int .i64 k]), .iface 97 (.agg #[.int .i64 k, .int .i64 z, .int .i64 o])] 98) = W2 := ⟨_, rfl⟩
  have n2 : Below W1.heap.size W1 W2 := hW2 ▸ (Below.refl _ _).alloc (Nat.le_refl _) _
  have z1 : w.heap.size < W1.heap.size := by rw [← hW1]; simp
  have e0 : W2.cell? ⟨w.heap.size, 0, none⟩ = some (.int .i64 1) := (n2.cell (p := ⟨w.heap.size, 0, none⟩) z1).trans c0
  have eK : W2.cell? ⟨W1.heap.size, 1, none⟩ = some (.iface 93 (.agg #[])) := by rw [← hW2]; simp [go_sem]
  go_enter Try.func64, Try.ntmps64
  go_wp2_with fail
  go_ret
  exact ⟨rfl, n1.trans (n2.mono n1.size)⟩
theorem mover2 (p l m n k z o y s g : Int) (w : World) :
    Calls Try.prog 64 #[.agg #[.int .i64 2, .int .i64 p, .int .i64 l, .int .i64 m, .int .i64 n, .int .i64 k, .int .i64 z, .int .i64 o, .int .i64 y, .int .i64 s, .int .i64 g]] w fun e w' => e = .returned (.iface 95 (.agg #[.int .i64 k])) ∧ Below w.heap.size w w' := by
  obtain ⟨W1, hW1⟩ : ∃ W1, w.alloc (.cells #[.int .i64 2, .int .i64 p, .int .i64 l, .int .i64 m, .int .i64 n, .int .i64 k, .int .i64 z, .int .i64 o, .int .i64 y, .int .i64 s, .int .i64 g] 27) = W1 := ⟨_, rfl⟩
  have n1 : Below w.heap.size w W1 := hW1 ▸ (Below.refl _ _).alloc (Nat.le_refl _) _
  have c0 : W1.cell? ⟨w.heap.size, 0, none⟩ = some (.int .i64 2) := by rw [← hW1]; simp [go_sem]
  have c5 : W1.cell? ⟨w.heap.size, 5, none⟩ = some (.int .i64 k) := by rw [← hW1]; simp [go_sem]
  have c6 : W1.cell? ⟨w.heap.size, 6, none⟩ = some (.int .i64 z) := by rw [← hW1]; simp [go_sem]
  have c7 : W1.cell? ⟨w.heap.size, 7, none⟩ = some (.int .i64 o) := by rw [← hW1]; simp [go_sem]
  obtain ⟨W2, hW2⟩ : ∃ W2, W1.alloc (.cells #[.nilIface, .iface 93 (.agg #[]), .iface 95 (.agg #[.int .i64 k]), .iface 97 (.agg #[.int .i64 k, .int .i64 z, .int .i64 o])] 98) = W2 := ⟨_, rfl⟩
  have n2 : Below W1.heap.size W1 W2 := hW2 ▸ (Below.refl _ _).alloc (Nat.le_refl _) _
  have z1 : w.heap.size < W1.heap.size := by rw [← hW1]; simp
  have e0 : W2.cell? ⟨w.heap.size, 0, none⟩ = some (.int .i64 2) := (n2.cell (p := ⟨w.heap.size, 0, none⟩) z1).trans c0
  have eK : W2.cell? ⟨W1.heap.size, 2, none⟩ = some (.iface 95 (.agg #[.int .i64 k])) := by rw [← hW2]; simp [go_sem]
  go_enter Try.func64, Try.ntmps64
  go_wp2_with fail
  go_ret
  exact ⟨rfl, n1.trans (n2.mono n1.size)⟩
theorem mover3 (p l m n k z o y s g : Int) (w : World) :
    Calls Try.prog 64 #[.agg #[.int .i64 3, .int .i64 p, .int .i64 l, .int .i64 m, .int .i64 n, .int .i64 k, .int .i64 z, .int .i64 o, .int .i64 y, .int .i64 s, .int .i64 g]] w fun e w' => e = .returned (.iface 97 (.agg #[.int .i64 k, .int .i64 z, .int .i64 o])) ∧ Below w.heap.size w w' := by
  obtain ⟨W1, hW1⟩ : ∃ W1, w.alloc (.cells #[.int .i64 3, .int .i64 p, .int .i64 l, .int .i64 m, .int .i64 n, .int .i64 k, .int .i64 z, .int .i64 o, .int .i64 y, .int .i64 s, .int .i64 g] 27) = W1 := ⟨_, rfl⟩
  have n1 : Below w.heap.size w W1 := hW1 ▸ (Below.refl _ _).alloc (Nat.le_refl _) _
  have c0 : W1.cell? ⟨w.heap.size, 0, none⟩ = some (.int .i64 3) := by rw [← hW1]; simp [go_sem]
  have c5 : W1.cell? ⟨w.heap.size, 5, none⟩ = some (.int .i64 k) := by rw [← hW1]; simp [go_sem]
  have c6 : W1.cell? ⟨w.heap.size, 6, none⟩ = some (.int .i64 z) := by rw [← hW1]; simp [go_sem]
  have c7 : W1.cell? ⟨w.heap.size, 7, none⟩ = some (.int .i64 o) := by rw [← hW1]; simp [go_sem]
  obtain ⟨W2, hW2⟩ : ∃ W2, W1.alloc (.cells #[.nilIface, .iface 93 (.agg #[]), .iface 95 (.agg #[.int .i64 k]), .iface 97 (.agg #[.int .i64 k, .int .i64 z, .int .i64 o])] 98) = W2 := ⟨_, rfl⟩
  have n2 : Below W1.heap.size W1 W2 := hW2 ▸ (Below.refl _ _).alloc (Nat.le_refl _) _
  have z1 : w.heap.size < W1.heap.size := by rw [← hW1]; simp
  have e0 : W2.cell? ⟨w.heap.size, 0, none⟩ = some (.int .i64 3) := (n2.cell (p := ⟨w.heap.size, 0, none⟩) z1).trans c0
  have eK : W2.cell? ⟨W1.heap.size, 3, none⟩ = some (.iface 97 (.agg #[.int .i64 k, .int .i64 z, .int .i64 o])) := by rw [← hW2]; simp [go_sem]
  go_enter Try.func64, Try.ntmps64
  go_wp2_with fail
  go_ret
  exact ⟨rfl, n1.trans (n2.mono n1.size)⟩
set_option maxHeartbeats 1000000 in
theorem grad1 (B : Nat) (a : Option Addr) (r cap k P0 P1 : Nat) (S : Nat → Int) (f : Int) (W : World) (h : Ints B W a r S) (hk : k < r) (r4 : (r : Int) ≤ 4096)
    (h0 : W.cell? ⟨P0, 0, none⟩ = some (.slice a r cap)) (h1 : W.cell? ⟨P1, 0, none⟩ = some (.int .i64 f)) (x0 : -16777216 ≤ S k) (x1 : S k ≤ 16777216) (f0 : 1 ≤ f) (f1 : f ≤ 65536) :
    Calls Try.prog 70 #[.int .i64 k, .pointer (some ⟨P0, 0, none⟩), .pointer (some ⟨P1, 0, none⟩)] W fun e w' => e = .returned (.int .i64 (nrv (S k) f)) ∧ Below W.heap.size W w' := by
  have CN := hide (fun d os => Calls.regrown_of (d := d) (os := os) (w := W) (nearI (S k) f 16777216 x0 x1 (by decide) f0 (by omega) _))
  obtain hz | ⟨b, off, rfl, -, hc⟩ := h
  · omega
  have c1 := cell_regrown (hc k hk).1
  have k0 := cell_regrown h0
  have k1 := cell_regrown h1
  have kI : (k : Int) < (r : Int) := by omega
  obtain ⟨x, hx⟩ : ∃ x, S k = x := ⟨_, rfl⟩
  rw [hx] at c1 CN ⊢
  obtain ⟨y, hy⟩ : ∃ y, nrv x f = y := ⟨_, rfl⟩
  rw [hy] at CN ⊢
  clear hc h0 h1 f0 f1 x0 x1 hx hy
  go_enter Try.func70, Try.ntmps70
  go_wp2_with fail
  refine wp_region_quiet_below (by kernel_rfl) (by kernel_rfl) ?_
  repeat (go_big_quiet_step (first | (go_at_call 68; exact CN.out _ _)))
  refine wpQuiet_nil ?_
  intro _ hw'
  obtain ⟨⟨dq, osq⟩, hw''⟩ := hw'
  subst hw''
  go_wp2_with fail
  go_ret
  exact ⟨rfl, below_regrown _ dq osq⟩
set_option maxHeartbeats 2000000 in
theorem gradF (d p l m n k z o y s g : Int) (a : Option Addr) (r cap : Nat) (S G : Nat → Int) (f : Int) (w : World) (h : Ints w.heap.size w a r S) (r4 : (r : Int) ≤ 4096) (hS : ∀ j, j < r → -16777216 ≤ S j ∧ S j ≤ 16777216) (f0 : 1 ≤ f) (f1 : f ≤ 65536)
    (hG : (s ≤ 0 ∧ G = fun j => nrv (S j) f) ∨ (0 < s ∧ ∀ B w a cap, B ≤ w.heap.size → (a = none → r = 0 ∧ cap = 0) → Ints B w a r (fun j => nrv (S j) f) → Calls Try.prog 71 #[.slice a r cap, .int .i64 s] w (ListR r G w))) :
    Calls Try.prog 65 #[.agg #[.int .i64 d, .int .i64 p, .int .i64 l, .int .i64 m, .int .i64 n, .int .i64 k, .int .i64 z, .int .i64 o, .int .i64 y, .int .i64 s, .int .i64 g], .slice a r cap, .int .i64 f] w (ListR r G w) := by
  obtain ⟨W1, hW1⟩ : ∃ W1, w.alloc (.cells #[.int .i64 d, .int .i64 p, .int .i64 l, .int .i64 m, .int .i64 n, .int .i64 k, .int .i64 z, .int .i64 o, .int .i64 y, .int .i64 s, .int .i64 g] 27) = W1 := ⟨_, rfl⟩
  have n1 : Below w.heap.size w W1 := hW1 ▸ (Below.refl _ _).alloc (Nat.le_refl _) _
  have m1 : W1.cell? ⟨w.heap.size, 9, none⟩ = some (.int .i64 s) := by rw [← hW1]; simp [go_sem]
  have z1 : w.heap.size < W1.heap.size := by rw [← hW1]; simp
  obtain ⟨W2, hW2⟩ : ∃ W2, W1.alloc (.cells #[.slice a r cap] 28) = W2 := ⟨_, rfl⟩
  have n2 : Below W1.heap.size W1 W2 := hW2 ▸ (Below.refl _ _).alloc (Nat.le_refl _) _
  have m2 : W2.cell? ⟨W1.heap.size, 0, none⟩ = some (.slice a r cap) := by rw [← hW2]; simp [go_sem]
  have z2 : W1.heap.size < W2.heap.size := by rw [← hW2]; simp
  obtain ⟨W3, hW3⟩ : ∃ W3, W2.alloc (.cells #[.int .i64 f] 3) = W3 := ⟨_, rfl⟩
  have n3 : Below W2.heap.size W2 W3 := hW3 ▸ (Below.refl _ _).alloc (Nat.le_refl _) _
  have m3 : W3.cell? ⟨W2.heap.size, 0, none⟩ = some (.int .i64 f) := by rw [← hW3]; simp [go_sem]
  have z3 : W2.heap.size < W3.heap.size := by rw [← hW3]; simp
  have M1 := hide (show W3.cell? ⟨w.heap.size, 9, none⟩ = some (.int .i64 s) by rw [n3.cell (p := ⟨w.heap.size, 9, none⟩) (by show w.heap.size < _; omega), n2.cell (p := ⟨w.heap.size, 9, none⟩) z1]; exact m1)
  have M2 := hide (show W3.cell? ⟨W1.heap.size, 0, none⟩ = some (.slice a r cap) by rw [n3.cell (p := ⟨W1.heap.size, 0, none⟩) z2]; exact m2)
  have M3 := hide m3
  have BL := hide ((n1.trans (n2.mono n1.size)).trans (n3.mono (Nat.le_trans n1.size n2.size)))
  have HI := hide (h.below BL.out)
  have ZZ := hide (show w.heap.size < W3.heap.size ∧ W1.heap.size < W3.heap.size ∧ W2.heap.size < W3.heap.size from ⟨by omega, by omega, z3⟩)
  have HS := hide hS
  have HG := hide hG
  have F0 := hide (And.intro f0 f1)
  have hbd := hide (show ∀ j, j < r → bd (nrv (S j) f) from fun j hj => by have := nrv_bd (S j) f 16777216 (hS j hj).1 (hS j hj).2; exact ⟨by omega, by omega⟩)
  have c1 := M1.out
  have c2 := M2.out
  clear h hS hG n1 n2 n3 m1 m2 m3 z1 z2 z3 f0 f1
  go_enter Try.func65, Try.ntmps65
  go_wp2_with fail
  refine (elemN r 70 #[.pointer (some ⟨W1.heap.size, 0, none⟩), .pointer (some ⟨W2.heap.size, 0, none⟩)] (fun j => nrv (S j) f) _ (by omega) hbd.out (enters_of Try.func70 (by kernel_rfl) rfl) (fun k X hk hX => grad1 w.heap.size a r cap k _ _ S f X (HI.out.below (hX.mono (Nat.le_of_lt ZZ.out.1))) hk r4 ((hX.cell (p := ⟨W1.heap.size, 0, none⟩) ZZ.out.2.1).trans M2.out) ((hX.cell (p := ⟨W2.heap.size, 0, none⟩) ZZ.out.2.2).trans M3.out) (HS.out k hk).1 (HS.out k hk).2 F0.out.1 F0.out.2)).mono ?_
  rintro e1 w4 ⟨rfl, q4, s4, b4⟩
  have c4 : w4.cell? ⟨w.heap.size, 9, none⟩ = some (.int .i64 s) := (b4.cell (p := ⟨w.heap.size, 9, none⟩) ZZ.out.1).trans M1.out
  have Q4 := hide q4
  have S4 := hide s4
  replace BL := hide (BL.out.trans (b4.mono BL.out.size))
  have ZW := hide (Nat.le_of_lt ZZ.out.1)
  clear c1 c2 q4 s4 b4 hW1 hW2 hW3 HI HS F0 hbd M1 M2 M3
  rcases HG.out with ⟨g1, g2⟩ | ⟨g1, g2⟩
  · have g1' : decide (0 < s) = false := decide_eq_false (by omega)
    subst g2
    clear g1 HG
    go_wp2_with fail
    go_ret
    exact ⟨_, _, rfl, .inr ⟨_, rfl, ZW.out, Q4.out⟩, BL.out⟩
  · have CL := hide g2
    have g1' : decide (0 < s) = true := decide_eq_true g1
    clear g1 g2 HG
    go_wp2_with fail
    refine (CL.out _ _ _ r (Nat.le_refl _) (fun e => by cases e) (Q4.out.ints S4.out)).mono ?_
    rintro e1 w5 ⟨a5, c5, rfl, hO, b5⟩
    have HO := hide (hO.mono BL.out.size)
    replace BL := hide (BL.out.trans (b5.mono BL.out.size))
    clear hO b5
    go_wp2_with fail
    go_ret
    exact ⟨_, _, rfl, HO.out, BL.out⟩
end Vo
end Go.Proofs.Ytflbhlepmjiejaa
