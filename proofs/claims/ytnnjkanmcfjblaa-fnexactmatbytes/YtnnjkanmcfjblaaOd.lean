/- Products of matrices of bytes: the model (written by tools/genmat4.py). -/
import Derived.Test.YtnnjkanmcfjblaaOc
import Derived.Test.YtnnjkanmcfjblaaVn
import Derived.Test.YtnnjkanmcfjblaaQf
import Derived.Test.YtnnjkanmcfjblaaIm
namespace Go.Proofs.Ytnnjkanmcfjblaa
namespace Vo
open Go.ChangeShapes Go.WideShapes Go.ChangeAt Go.RowKit Go.Joins Go.Sort
open Vl
set_option linter.unusedVariables false
set_option linter.unusedSimpArgs false
theorem runBuild1 {o : Oper} {A : Act} {w : World} {x : Operand} {z : Int} (ho : o.op = .buildSlice 29 1 #[(0, x)]) (hx : A.eval x = .int .i64 z) : (execOp A.eval o).run Try.prog w = .ok (.value (.slice (some ⟨w.heap.size, 0, none⟩) 1 1)) (w.alloc (.cells #[.int .i64 z] 3)) := by
  unfold execOp
  rw [ho]
  simp only [List.map_toArray, List.map_cons, List.map_nil, hx]
  go_simp
theorem intV_new (w : World) (z : Int) (hz : bd z) : IntV 1 (fun _ => z) (.slice (some ⟨w.heap.size, 0, none⟩) 1 1) (w.alloc (.cells #[.int .i64 z] 3)) := ⟨_, rfl, fun t ht => by
  cases t with
  | zero => exact ⟨by simp [go_sem], by simp [go_sem], hz⟩
  | succ t => omega, by simp⟩
theorem runLoadSI {o : Oper} {A : Act} {w : World} {x : Operand} {b : Nat} {s z : Int} (ho : o.op = .load 26 x) (hx : A.eval x = .pointer (some ⟨b, 0, none⟩)) (h0 : w.cell? ⟨b, 0, none⟩ = some (.int .i64 s)) (h1 : w.cell? ⟨b, 1, none⟩ = some (.int .i64 z)) : (execOp A.eval o).run Try.prog w = .ok (.value (.agg #[.int .i64 s, .int .i64 z])) w := by
  unfold execOp
  rw [ho]
  simp only [hx]
  go_simp
/-- a list where that may be, none where not -/
def SMR (c : Prop) (P : Nat) (V : Nat → Int) (w : World) (e : Ending) (w' : World) : Prop := (c → ListR P V w e w') ∧ (¬ c → ListR 0 V w e w')
set_option maxHeartbeats 3000000 in
set_option maxRecDepth 100000 in
theorem sMat (xa ya za' : Option Addr) (r s q cap dap eap : Nat) (X Y Z : Nat → Int) (n m sa za sb zb sc zc mu sh : Int) (ok : Bool) (w : World) (hx : Ints w.heap.size w xa r X) (hy : Ints w.heap.size w ya s Y) (hz : Ints w.heap.size w za' q Z) (hn : bd n) (hm : bd m) (hr : (r : Int) ≤ 1048576) (hs : (s : Int) ≤ 1048576) (hq : (q : Int) ≤ 1048576) (hF : ∀ w, Calls Try.prog 5 #[.agg #[.int .i64 sa, .int .i64 za], .agg #[.int .i64 sb, .int .i64 zb], .agg #[.int .i64 sc, .int .i64 zc]] w fun e w' => e = .returned (.tuple #[.int .i64 mu, .int .i64 sh, .bool ok]) ∧ Below w.heap.size w w') (rc : r ≤ cap) (sd : s ≤ dap) (ba : bd sa) (bza : bd za) (bb : bd sb) (bzb : bd zb) (V : Nat → Int)
    (hV : MOk ok r s q X Y Z n m → ∀ k, k < r / n.toNat * m.toNat → bd (V k) ∧ ∀ w, Calls Try.prog 22 #[.int .i64 (cl (-1073741824) 1073741824 (mtD sa za sb zb n.toNat m.toNat X Y Z k)), .int .i64 mu, .int .i64 sh, .agg #[.int .i64 sc, .int .i64 zc]] w fun e w' => e = .returned (.int .i64 (V k)) ∧ Below w.heap.size w w') :
    Calls Try.prog 8 #[.slice xa r cap, .int .i64 n, .agg #[.int .i64 sa, .int .i64 za], .slice ya s dap, .int .i64 m, .agg #[.int .i64 sb, .int .i64 zb], .slice za' q eap, .agg #[.int .i64 sc, .int .i64 zc]] w (SMR (MOk ok r s q X Y Z n m) (r / n.toNat * m.toNat) V w) := by
  obtain ⟨i0, hi0, hz0, hz1, hz2⟩ := info_parts infoInt
  have HX := hide hx
  have HY := hide hy
  have HZ := hide hz
  have HFc := hide hF
  clear hx hy hz hF
  have CX := hide (fun (U : World) (b : Below w.heap.size w U) => bytesS w.heap.size xa r cap X U b.size (HX.out.below b) hr)
  have CY := hide (fun (U : World) (b : Below w.heap.size w U) => bytesS w.heap.size ya s dap Y U b.size (HY.out.below b) hs)
  have L0 := Lies.nil w
  have B0 : Below w.heap.size w w := Below.refl _ _
  obtain ⟨W1, hW1⟩ : ∃ W1, w.alloc (.cells #[.int .i64 sa, .int .i64 za] 26) = W1 := ⟨_, rfl⟩
  have nW1 : Below w.heap.size w W1 := hW1 ▸ (Below.refl _ _).alloc (Nat.le_refl _) _
  have L1' := L0.below nW1
  have B1 := B0.trans (nW1.mono B0.size)
  have L1'0 := L1'.new (x := (⟨w.heap.size, 0, none⟩, (.int .i64 sa))) (show W1.cell? _ = some _ by rw [← hW1]; simp [go_sem])
  have L1 := L1'0.new (x := (⟨w.heap.size, 1, none⟩, (.int .i64 za))) (show W1.cell? _ = some _ by rw [← hW1]; simp [go_sem])
  obtain ⟨W2, hW2⟩ : ∃ W2, W1.alloc (.cells #[.int .i64 sb, .int .i64 zb] 26) = W2 := ⟨_, rfl⟩
  have nW2 : Below W1.heap.size W1 W2 := hW2 ▸ (Below.refl _ _).alloc (Nat.le_refl _) _
  have L2' := L1.below nW2
  have B2 := B1.trans (nW2.mono B1.size)
  have L2'0 := L2'.new (x := (⟨W1.heap.size, 0, none⟩, (.int .i64 sb))) (show W2.cell? _ = some _ by rw [← hW2]; simp [go_sem])
  have L2 := L2'0.new (x := (⟨W1.heap.size, 1, none⟩, (.int .i64 zb))) (show W2.cell? _ = some _ by rw [← hW2]; simp [go_sem])
  obtain ⟨W3, hW3⟩ : ∃ W3, W2.alloc (.cells #[.int .i64 sc, .int .i64 zc] 26) = W3 := ⟨_, rfl⟩
  have nW3 : Below W2.heap.size W2 W3 := hW3 ▸ (Below.refl _ _).alloc (Nat.le_refl _) _
  have L3' := L2.below nW3
  have B3 := B2.trans (nW3.mono B2.size)
  have L3'0 := L3'.new (x := (⟨W2.heap.size, 0, none⟩, (.int .i64 sc))) (show W3.cell? _ = some _ by rw [← hW3]; simp [go_sem])
  have L3 := L3'0.new (x := (⟨W2.heap.size, 1, none⟩, (.int .i64 zc))) (show W3.cell? _ = some _ by rw [← hW3]; simp [go_sem])
  have LL := hide L3
  have L3 := hide L3
  have BL := hide B3
  have BL3 := hide B3
  clear nW1 nW2 nW3 L1' L2' L3' B1 B2 B3 L1 L2 L1'0 L2'0 L3'0 L0 B0
  obtain ⟨W4, hW4⟩ : ∃ W4, W3.alloc (.cells #[] 3) = W4 := ⟨_, rfl⟩
  have nW4 : Below W3.heap.size W3 W4 := hW4 ▸ (Below.refl _ _).alloc (Nat.le_refl _) _
  replace LL := hide (LL.out.below nW4)
  have OW := hide (show W4.ownsRow W3.heap.size 3 1 (.slice (some ⟨W3.heap.size, 0, none⟩) 0 0) 0 [] from hW4 ▸ ⟨rfl, .inr ⟨W3.heap.size, 0, #[], rfl, Nat.le_refl _, heap_alloc_new W3 _, Nat.le_refl _, by simp [maxLen], rfl, rfl⟩⟩)
  have BW := hide nW4
  have B4 := hide (BL.out.trans (nW4.mono BL.out.size))
  clear nW4
  have c0 : W4.cell? ⟨W2.heap.size, 1, none⟩ = some (.int .i64 zc) := LL.out (⟨W2.heap.size, 1, none⟩, (.int .i64 zc)) (.head _)
  have c1 : W4.cell? ⟨W2.heap.size, 0, none⟩ = some (.int .i64 sc) := LL.out (⟨W2.heap.size, 0, none⟩, (.int .i64 sc)) (.tail _ (.head _))
  have c2 : W4.cell? ⟨W1.heap.size, 1, none⟩ = some (.int .i64 zb) := LL.out (⟨W1.heap.size, 1, none⟩, (.int .i64 zb)) (.tail _ (.tail _ (.head _)))
  have c3 : W4.cell? ⟨W1.heap.size, 0, none⟩ = some (.int .i64 sb) := LL.out (⟨W1.heap.size, 0, none⟩, (.int .i64 sb)) (.tail _ (.tail _ (.tail _ (.head _))))
  have c4 : W4.cell? ⟨w.heap.size, 1, none⟩ = some (.int .i64 za) := LL.out (⟨w.heap.size, 1, none⟩, (.int .i64 za)) (.tail _ (.tail _ (.tail _ (.tail _ (.head _)))))
  have c5 : W4.cell? ⟨w.heap.size, 0, none⟩ = some (.int .i64 sa) := LL.out (⟨w.heap.size, 0, none⟩, (.int .i64 sa)) (.tail _ (.tail _ (.tail _ (.tail _ (.tail _ (.head _))))))
  cases ok
  · have NO := hide (show ¬ MOk false r s q X Y Z n m from fun h => absurd h.1 Bool.false_ne_true)
    clear hV hn hm CX CY
    go_enter Try.func8, Try.ntmps8
    go_wp2_with fail
    refine (HFc.out _).mono ?_; rintro e1 w1 ⟨rfl, q1⟩
    have BB := hide (B4.out.trans (q1.mono B4.out.size))
    have OW1 := hide (own_below OW.out q1)
    have BW1 := hide (BW.out.trans (q1.mono BW.out.size))
    have LL1 := hide (LL.out.below q1)
    clear q1
    go_wp2_with fail
    go_ret
    exact ⟨fun h => absurd h NO.out, fun _ => ⟨_, _, rfl, .inl rfl, BB.out⟩⟩
  cases g1 : decide (1 ≤ n ∧ n ≤ 4096)
  · have NO := hide (show ¬ MOk true r s q X Y Z n m from fun h => absurd h.2.1.1.1 (of_decide_eq_false g1))
    have C1 := hide (gInS n 1 4096 _ g1)
    clear hV hn hm CX CY g1
    go_enter Try.func8, Try.ntmps8
    go_wp2_with fail
    refine (HFc.out _).mono ?_; rintro e1 w1 ⟨rfl, q1⟩
    have BB := hide (B4.out.trans (q1.mono B4.out.size))
    have OW1 := hide (own_below OW.out q1)
    have BW1 := hide (BW.out.trans (q1.mono BW.out.size))
    have LL1 := hide (LL.out.below q1)
    clear q1
    go_wp2_with fail
    refine (C1.out _).mono ?_; rintro e1 w2 ⟨rfl, q2⟩
    replace BB := hide (BB.out.trans (q2.mono BB.out.size))
    replace OW1 := hide (own_below OW1.out q2)
    replace BW1 := hide (BW1.out.trans (q2.mono BW1.out.size))
    replace LL1 := hide (LL1.out.below q2)
    clear q2
    go_wp2_with fail
    go_ret
    exact ⟨fun h => absurd h NO.out, fun _ => ⟨_, _, rfl, .inl rfl, BB.out⟩⟩
  have C1 := hide (gInS n 1 4096 _ g1)
  cases g2 : decide (1 ≤ m ∧ m ≤ 4096)
  · have NO := hide (show ¬ MOk true r s q X Y Z n m from fun h => absurd h.2.1.1.2 (of_decide_eq_false g2))
    have C2 := hide (gInS m 1 4096 _ g2)
    clear hV hn hm CX CY g1 g2
    go_enter Try.func8, Try.ntmps8
    go_wp2_with fail
    refine (HFc.out _).mono ?_; rintro e1 w1 ⟨rfl, q1⟩
    have BB := hide (B4.out.trans (q1.mono B4.out.size))
    have OW1 := hide (own_below OW.out q1)
    have BW1 := hide (BW.out.trans (q1.mono BW.out.size))
    have LL1 := hide (LL.out.below q1)
    clear q1
    go_wp2_with fail
    refine (C1.out _).mono ?_; rintro e1 w2 ⟨rfl, q2⟩
    replace BB := hide (BB.out.trans (q2.mono BB.out.size))
    replace OW1 := hide (own_below OW1.out q2)
    replace BW1 := hide (BW1.out.trans (q2.mono BW1.out.size))
    replace LL1 := hide (LL1.out.below q2)
    clear q2
    go_wp2_with fail
    refine (C2.out _).mono ?_; rintro e1 w3 ⟨rfl, q3⟩
    replace BB := hide (BB.out.trans (q3.mono BB.out.size))
    replace OW1 := hide (own_below OW1.out q3)
    replace BW1 := hide (BW1.out.trans (q3.mono BW1.out.size))
    replace LL1 := hide (LL1.out.below q3)
    clear q3
    go_wp2_with fail
    go_ret
    exact ⟨fun h => absurd h NO.out, fun _ => ⟨_, _, rfl, .inl rfl, BB.out⟩⟩
  have C2 := hide (gInS m 1 4096 _ g2)
  cases g3 : bys r X
  · have NO := hide (show ¬ MOk true r s q X Y Z n m from fun h => by have a := h.2.1.2.2.2.2.2.2.2.1; have c := h.2.1.2.1; unfold bys at g3; rw [a, decide_eq_true c] at g3; exact absurd g3 (by decide))
    replace CX := hide (fun (U : World) (b : Below w.heap.size w U) => by have := CX.out U b; rw [g3] at this; exact this)
    clear hV hn hm CY g1 g2 g3
    go_enter Try.func8, Try.ntmps8
    go_wp2_with fail
    refine (HFc.out _).mono ?_; rintro e1 w1 ⟨rfl, q1⟩
    have BB := hide (B4.out.trans (q1.mono B4.out.size))
    have OW1 := hide (own_below OW.out q1)
    have BW1 := hide (BW.out.trans (q1.mono BW.out.size))
    have LL1 := hide (LL.out.below q1)
    clear q1
    go_wp2_with fail
    refine (C1.out _).mono ?_; rintro e1 w2 ⟨rfl, q2⟩
    replace BB := hide (BB.out.trans (q2.mono BB.out.size))
    replace OW1 := hide (own_below OW1.out q2)
    replace BW1 := hide (BW1.out.trans (q2.mono BW1.out.size))
    replace LL1 := hide (LL1.out.below q2)
    clear q2
    go_wp2_with fail
    refine (C2.out _).mono ?_; rintro e1 w3 ⟨rfl, q3⟩
    replace BB := hide (BB.out.trans (q3.mono BB.out.size))
    replace OW1 := hide (own_below OW1.out q3)
    replace BW1 := hide (BW1.out.trans (q3.mono BW1.out.size))
    replace LL1 := hide (LL1.out.below q3)
    clear q3
    go_wp2_with fail
    refine (CX.out _ BB.out).mono ?_; rintro e1 w4 ⟨rfl, q4⟩
    replace BB := hide (BB.out.trans (q4.mono BB.out.size))
    replace OW1 := hide (own_below OW1.out q4)
    replace BW1 := hide (BW1.out.trans (q4.mono BW1.out.size))
    replace LL1 := hide (LL1.out.below q4)
    clear q4
    go_wp2_with fail
    go_ret
    exact ⟨fun h => absurd h NO.out, fun _ => ⟨_, _, rfl, .inl rfl, BB.out⟩⟩
  replace CX := hide (fun (U : World) (b : Below w.heap.size w U) => by have := CX.out U b; rw [g3] at this; exact this)
  cases g4 : bys s Y
  · have NO := hide (show ¬ MOk true r s q X Y Z n m from fun h => by have a := h.2.1.2.2.2.2.2.2.2.2; have c := h.2.1.2.2.1; unfold bys at g4; rw [a, decide_eq_true c] at g4; exact absurd g4 (by decide))
    replace CY := hide (fun (U : World) (b : Below w.heap.size w U) => by have := CY.out U b; rw [g4] at this; exact this)
    clear hV hn hm g1 g2 g3 g4
    go_enter Try.func8, Try.ntmps8
    go_wp2_with fail
    refine (HFc.out _).mono ?_; rintro e1 w1 ⟨rfl, q1⟩
    have BB := hide (B4.out.trans (q1.mono B4.out.size))
    have OW1 := hide (own_below OW.out q1)
    have BW1 := hide (BW.out.trans (q1.mono BW.out.size))
    have LL1 := hide (LL.out.below q1)
    clear q1
    go_wp2_with fail
    refine (C1.out _).mono ?_; rintro e1 w2 ⟨rfl, q2⟩
    replace BB := hide (BB.out.trans (q2.mono BB.out.size))
    replace OW1 := hide (own_below OW1.out q2)
    replace BW1 := hide (BW1.out.trans (q2.mono BW1.out.size))
    replace LL1 := hide (LL1.out.below q2)
    clear q2
    go_wp2_with fail
    refine (C2.out _).mono ?_; rintro e1 w3 ⟨rfl, q3⟩
    replace BB := hide (BB.out.trans (q3.mono BB.out.size))
    replace OW1 := hide (own_below OW1.out q3)
    replace BW1 := hide (BW1.out.trans (q3.mono BW1.out.size))
    replace LL1 := hide (LL1.out.below q3)
    clear q3
    go_wp2_with fail
    refine (CX.out _ BB.out).mono ?_; rintro e1 w4 ⟨rfl, q4⟩
    replace BB := hide (BB.out.trans (q4.mono BB.out.size))
    replace OW1 := hide (own_below OW1.out q4)
    replace BW1 := hide (BW1.out.trans (q4.mono BW1.out.size))
    replace LL1 := hide (LL1.out.below q4)
    clear q4
    go_wp2_with fail
    refine (CY.out _ BB.out).mono ?_; rintro e1 w5 ⟨rfl, q5⟩
    replace BB := hide (BB.out.trans (q5.mono BB.out.size))
    replace OW1 := hide (own_below OW1.out q5)
    replace BW1 := hide (BW1.out.trans (q5.mono BW1.out.size))
    replace LL1 := hide (LL1.out.below q5)
    clear q5
    go_wp2_with fail
    go_ret
    exact ⟨fun h => absurd h NO.out, fun _ => ⟨_, _, rfl, .inl rfl, BB.out⟩⟩
  replace CY := hide (fun (U : World) (b : Below w.heap.size w U) => by have := CY.out U b; rw [g4] at this; exact this)
  obtain ⟨n0, n1⟩ := of_decide_eq_true g1
  obtain ⟨m0, m1⟩ := of_decide_eq_true g2
  have X1 : ib 0 255 r X = true := by unfold bys at g3; exact (Bool.and_eq_true _ _ ▸ g3).1
  have r4 : (r : Int) ≤ 4096 := by unfold bys at g3; exact of_decide_eq_true (Bool.and_eq_true _ _ ▸ g3).2
  have Y1 : ib 0 255 s Y = true := by unfold bys at g4; exact (Bool.and_eq_true _ _ ▸ g4).1
  have s4 : (s : Int) ≤ 4096 := by unfold bys at g4; exact of_decide_eq_true (Bool.and_eq_true _ _ ▸ g4).2
  obtain ⟨N, rfl⟩ := Int.eq_ofNat_of_zero_le (show 0 ≤ n by omega)
  obtain ⟨M, rfl⟩ := Int.eq_ofNat_of_zero_le (show 0 ≤ m by omega)
  have MO : Hid (MOk true r s q X Y Z N M ↔ (r % N = 0 ∧ s = N * M ∧ q = M ∧ r / N * M ≤ 4096 ∧ r / N * M * N ≤ 65536 ∧ ib (-1073741824) 1073741824 q Z = true)) := hide (by
      unfold MOk MFit
      simp only [Int.toNat_natCast]
      exact ⟨fun ⟨_, ⟨_, _, _, a, b, c, d, _⟩, e, f⟩ => ⟨a, b, by omega, c, d, f⟩, fun ⟨a, b, e, c, d, f⟩ => ⟨trivial, ⟨⟨⟨n0, n1⟩, m0, m1⟩, r4, s4, a, b, c, d, X1, Y1⟩, by omega, f⟩⟩)
  rw [Int.toNat_natCast] at hV ⊢
  rw [Int.toNat_natCast] at hV ⊢
  have n0' : 0 < N := by omega
  have nz : ((N : Int) == 0) = false := by simp; omega
  have nz' : ¬ (N : Int) = 0 := by omega
  obtain ⟨Q, hQ⟩ : ∃ Q, r / N = Q := ⟨_, rfl⟩
  obtain ⟨t, ht⟩ : ∃ t, r % N = t := ⟨_, rfl⟩
  obtain ⟨P, hP⟩ : ∃ P, Q * M = P := ⟨_, rfl⟩
  obtain ⟨T, hT⟩ : ∃ T, P * N = T := ⟨_, rfl⟩
  obtain ⟨A, hA⟩ : ∃ A, N * M = A := ⟨_, rfl⟩
  have Ql : Q ≤ 4096 := by rw [← hQ]; exact Nat.le_trans (Nat.div_le_self _ _) (by omega)
  have Pl : P ≤ 4096 * 4096 := by rw [← hP]; exact Nat.mul_le_mul Ql (by omega)
  have Tl : T ≤ 4096 * 4096 * 4096 := by rw [← hT]; exact Nat.mul_le_mul Pl (by omega)
  have Al : A ≤ 4096 * 4096 := by rw [← hA]; exact Nat.mul_le_mul (by omega) (by omega)
  have dq : (r : Int).tdiv (N : Int) = (Q : Int) := by rw [div_td, hQ]
  have dt : (r : Int).tmod (N : Int) = (t : Int) := by rw [mod_tm, ht]
  have wq : IntKind.i64.wrap (Q : Int) = Q := by rw [IntKind.wrap_i64]; omega
  have wp : IntKind.i64.wrap ((Q : Int) * (M : Int)) = (P : Int) := by rw [← Int.natCast_mul, hP, IntKind.wrap_i64]; omega
  have wv : IntKind.i64.wrap ((P : Int) * (N : Int)) = (T : Int) := by rw [← Int.natCast_mul, hT, IntKind.wrap_i64]; omega
  have wz : IntKind.i64.wrap ((N : Int) * (M : Int)) = (A : Int) := by rw [← Int.natCast_mul, hA, IntKind.wrap_i64]; omega
  have eR : t = 0 → Q * N = r := fun e => by have := Nat.div_add_mod r N; rw [hQ, ht, e, Nat.mul_comm] at this; omega
  rw [hQ, ht, hP, hT, hA] at MO
  rw [hQ, hP] at hV ⊢
  have HV := hide hV
  have HP := hide hP
  have ER := hide eR
  have HA := hide hA
  have HT := hide hT
  have NN := hide (And.intro (And.intro n0 n1) (And.intro m0 m1))
  have R4 := hide (And.intro r4 s4)
  have RC := hide (And.intro rc sd)
  have BD := hide (And.intro (And.intro ba bza) (And.intro bb bzb))
  have QL := hide Ql
  have ZQ := hide hq
  clear hQ ht hP hT hA hV eR n0 n1 m0 m1 r4 s4 rc sd ba bza bb bzb g1 g2 g3 g4 X1 Y1 Pl Tl Al Ql n0' hn hm hr hs hq
  by_cases g5 : t = 0
  case neg =>
    have NO := hide (show ¬ MOk true r s q X Y Z N M from fun h => g5 (MO.out.1 h).1)
    have e5 : ((t : Int) != 0) = true := by simp; omega
    have e5' : (t == 0) = false := by simp [g5]
    have e5'' : ¬ (t : Int) = 0 := by omega
    clear g5
    go_enter Try.func8, Try.ntmps8
    go_wp2_with fail
    refine (HFc.out _).mono ?_; rintro e1 w1 ⟨rfl, q1⟩
    have BB := hide (B4.out.trans (q1.mono B4.out.size))
    have OW1 := hide (own_below OW.out q1)
    have BW1 := hide (BW.out.trans (q1.mono BW.out.size))
    have LL1 := hide (LL.out.below q1)
    clear q1
    go_wp2_with fail
    refine (C1.out _).mono ?_; rintro e1 w2 ⟨rfl, q2⟩
    replace BB := hide (BB.out.trans (q2.mono BB.out.size))
    replace OW1 := hide (own_below OW1.out q2)
    replace BW1 := hide (BW1.out.trans (q2.mono BW1.out.size))
    replace LL1 := hide (LL1.out.below q2)
    clear q2
    go_wp2_with fail
    refine (C2.out _).mono ?_; rintro e1 w3 ⟨rfl, q3⟩
    replace BB := hide (BB.out.trans (q3.mono BB.out.size))
    replace OW1 := hide (own_below OW1.out q3)
    replace BW1 := hide (BW1.out.trans (q3.mono BW1.out.size))
    replace LL1 := hide (LL1.out.below q3)
    clear q3
    go_wp2_with fail
    refine (CX.out _ BB.out).mono ?_; rintro e1 w4 ⟨rfl, q4⟩
    replace BB := hide (BB.out.trans (q4.mono BB.out.size))
    replace OW1 := hide (own_below OW1.out q4)
    replace BW1 := hide (BW1.out.trans (q4.mono BW1.out.size))
    replace LL1 := hide (LL1.out.below q4)
    clear q4
    go_wp2_with fail
    refine (CY.out _ BB.out).mono ?_; rintro e1 w5 ⟨rfl, q5⟩
    replace BB := hide (BB.out.trans (q5.mono BB.out.size))
    replace OW1 := hide (own_below OW1.out q5)
    replace BW1 := hide (BW1.out.trans (q5.mono BW1.out.size))
    replace LL1 := hide (LL1.out.below q5)
    clear q5
    go_wp2_with fail
    go_ret
    exact ⟨fun h => absurd h NO.out, fun _ => ⟨_, _, rfl, .inl rfl, BB.out⟩⟩
  subst g5
  by_cases g6 : s = A
  case neg =>
    have NO := hide (show ¬ MOk true r s q X Y Z N M from fun h => g6 (MO.out.1 h).2.1)
    have e6 : ((s : Int) != (A : Int)) = true := by simp; omega
    clear g6
    go_enter Try.func8, Try.ntmps8
    go_wp2_with fail
    refine (HFc.out _).mono ?_; rintro e1 w1 ⟨rfl, q1⟩
    have BB := hide (B4.out.trans (q1.mono B4.out.size))
    have OW1 := hide (own_below OW.out q1)
    have BW1 := hide (BW.out.trans (q1.mono BW.out.size))
    have LL1 := hide (LL.out.below q1)
    clear q1
    go_wp2_with fail
    refine (C1.out _).mono ?_; rintro e1 w2 ⟨rfl, q2⟩
    replace BB := hide (BB.out.trans (q2.mono BB.out.size))
    replace OW1 := hide (own_below OW1.out q2)
    replace BW1 := hide (BW1.out.trans (q2.mono BW1.out.size))
    replace LL1 := hide (LL1.out.below q2)
    clear q2
    go_wp2_with fail
    refine (C2.out _).mono ?_; rintro e1 w3 ⟨rfl, q3⟩
    replace BB := hide (BB.out.trans (q3.mono BB.out.size))
    replace OW1 := hide (own_below OW1.out q3)
    replace BW1 := hide (BW1.out.trans (q3.mono BW1.out.size))
    replace LL1 := hide (LL1.out.below q3)
    clear q3
    go_wp2_with fail
    refine (CX.out _ BB.out).mono ?_; rintro e1 w4 ⟨rfl, q4⟩
    replace BB := hide (BB.out.trans (q4.mono BB.out.size))
    replace OW1 := hide (own_below OW1.out q4)
    replace BW1 := hide (BW1.out.trans (q4.mono BW1.out.size))
    replace LL1 := hide (LL1.out.below q4)
    clear q4
    go_wp2_with fail
    refine (CY.out _ BB.out).mono ?_; rintro e1 w5 ⟨rfl, q5⟩
    replace BB := hide (BB.out.trans (q5.mono BB.out.size))
    replace OW1 := hide (own_below OW1.out q5)
    replace BW1 := hide (BW1.out.trans (q5.mono BW1.out.size))
    replace LL1 := hide (LL1.out.below q5)
    clear q5
    go_wp2_with fail
    go_ret
    exact ⟨fun h => absurd h NO.out, fun _ => ⟨_, _, rfl, .inl rfl, BB.out⟩⟩
  have e6 : ((s : Int) != (A : Int)) = false := by simp; omega
  have G6 := hide g6
  clear g6
  by_cases g7 : q = M
  case neg =>
    have NO := hide (show ¬ MOk true r s q X Y Z N M from fun h => g7 (MO.out.1 h).2.2.1)
    have e7 : ((q : Int) != (M : Int)) = true := by simp; omega
    clear g7
    go_enter Try.func8, Try.ntmps8
    go_wp2_with fail
    refine (HFc.out _).mono ?_; rintro e1 w1 ⟨rfl, q1⟩
    have BB := hide (B4.out.trans (q1.mono B4.out.size))
    have OW1 := hide (own_below OW.out q1)
    have BW1 := hide (BW.out.trans (q1.mono BW.out.size))
    have LL1 := hide (LL.out.below q1)
    clear q1
    go_wp2_with fail
    refine (C1.out _).mono ?_; rintro e1 w2 ⟨rfl, q2⟩
    replace BB := hide (BB.out.trans (q2.mono BB.out.size))
    replace OW1 := hide (own_below OW1.out q2)
    replace BW1 := hide (BW1.out.trans (q2.mono BW1.out.size))
    replace LL1 := hide (LL1.out.below q2)
    clear q2
    go_wp2_with fail
    refine (C2.out _).mono ?_; rintro e1 w3 ⟨rfl, q3⟩
    replace BB := hide (BB.out.trans (q3.mono BB.out.size))
    replace OW1 := hide (own_below OW1.out q3)
    replace BW1 := hide (BW1.out.trans (q3.mono BW1.out.size))
    replace LL1 := hide (LL1.out.below q3)
    clear q3
    go_wp2_with fail
    refine (CX.out _ BB.out).mono ?_; rintro e1 w4 ⟨rfl, q4⟩
    replace BB := hide (BB.out.trans (q4.mono BB.out.size))
    replace OW1 := hide (own_below OW1.out q4)
    replace BW1 := hide (BW1.out.trans (q4.mono BW1.out.size))
    replace LL1 := hide (LL1.out.below q4)
    clear q4
    go_wp2_with fail
    refine (CY.out _ BB.out).mono ?_; rintro e1 w5 ⟨rfl, q5⟩
    replace BB := hide (BB.out.trans (q5.mono BB.out.size))
    replace OW1 := hide (own_below OW1.out q5)
    replace BW1 := hide (BW1.out.trans (q5.mono BW1.out.size))
    replace LL1 := hide (LL1.out.below q5)
    clear q5
    go_wp2_with fail
    go_ret
    exact ⟨fun h => absurd h NO.out, fun _ => ⟨_, _, rfl, .inl rfl, BB.out⟩⟩
  have e7 : ((q : Int) != (M : Int)) = false := by simp; omega
  have G7 := hide g7
  clear g7
  by_cases g8 : P ≤ 4096
  case neg =>
    have NO := hide (show ¬ MOk true r s q X Y Z N M from fun h => g8 (MO.out.1 h).2.2.2.1)
    have e8 : decide ((4096 : Int) < (P : Int)) = true := decide_eq_true (by omega)
    have e8' : decide (4096 < P) = true := decide_eq_true (by omega)
    clear g8
    go_enter Try.func8, Try.ntmps8
    go_wp2_with fail
    refine (HFc.out _).mono ?_; rintro e1 w1 ⟨rfl, q1⟩
    have BB := hide (B4.out.trans (q1.mono B4.out.size))
    have OW1 := hide (own_below OW.out q1)
    have BW1 := hide (BW.out.trans (q1.mono BW.out.size))
    have LL1 := hide (LL.out.below q1)
    clear q1
    go_wp2_with fail
    refine (C1.out _).mono ?_; rintro e1 w2 ⟨rfl, q2⟩
    replace BB := hide (BB.out.trans (q2.mono BB.out.size))
    replace OW1 := hide (own_below OW1.out q2)
    replace BW1 := hide (BW1.out.trans (q2.mono BW1.out.size))
    replace LL1 := hide (LL1.out.below q2)
    clear q2
    go_wp2_with fail
    refine (C2.out _).mono ?_; rintro e1 w3 ⟨rfl, q3⟩
    replace BB := hide (BB.out.trans (q3.mono BB.out.size))
    replace OW1 := hide (own_below OW1.out q3)
    replace BW1 := hide (BW1.out.trans (q3.mono BW1.out.size))
    replace LL1 := hide (LL1.out.below q3)
    clear q3
    go_wp2_with fail
    refine (CX.out _ BB.out).mono ?_; rintro e1 w4 ⟨rfl, q4⟩
    replace BB := hide (BB.out.trans (q4.mono BB.out.size))
    replace OW1 := hide (own_below OW1.out q4)
    replace BW1 := hide (BW1.out.trans (q4.mono BW1.out.size))
    replace LL1 := hide (LL1.out.below q4)
    clear q4
    go_wp2_with fail
    refine (CY.out _ BB.out).mono ?_; rintro e1 w5 ⟨rfl, q5⟩
    replace BB := hide (BB.out.trans (q5.mono BB.out.size))
    replace OW1 := hide (own_below OW1.out q5)
    replace BW1 := hide (BW1.out.trans (q5.mono BW1.out.size))
    replace LL1 := hide (LL1.out.below q5)
    clear q5
    go_wp2_with fail
    go_ret
    exact ⟨fun h => absurd h NO.out, fun _ => ⟨_, _, rfl, .inl rfl, BB.out⟩⟩
  have e8 : decide ((4096 : Int) < (P : Int)) = false := decide_eq_false (by omega)
  have e8' : decide (4096 < P) = false := decide_eq_false (by omega)
  have G8 := hide g8
  clear g8
  by_cases g9 : T ≤ 65536
  case neg =>
    have NO := hide (show ¬ MOk true r s q X Y Z N M from fun h => g9 (MO.out.1 h).2.2.2.2.1)
    have e9 : decide ((65536 : Int) < (T : Int)) = true := decide_eq_true (by omega)
    have e9' : decide (65536 < T) = true := decide_eq_true (by omega)
    clear g9
    go_enter Try.func8, Try.ntmps8
    go_wp2_with fail
    refine (HFc.out _).mono ?_; rintro e1 w1 ⟨rfl, q1⟩
    have BB := hide (B4.out.trans (q1.mono B4.out.size))
    have OW1 := hide (own_below OW.out q1)
    have BW1 := hide (BW.out.trans (q1.mono BW.out.size))
    have LL1 := hide (LL.out.below q1)
    clear q1
    go_wp2_with fail
    refine (C1.out _).mono ?_; rintro e1 w2 ⟨rfl, q2⟩
    replace BB := hide (BB.out.trans (q2.mono BB.out.size))
    replace OW1 := hide (own_below OW1.out q2)
    replace BW1 := hide (BW1.out.trans (q2.mono BW1.out.size))
    replace LL1 := hide (LL1.out.below q2)
    clear q2
    go_wp2_with fail
    refine (C2.out _).mono ?_; rintro e1 w3 ⟨rfl, q3⟩
    replace BB := hide (BB.out.trans (q3.mono BB.out.size))
    replace OW1 := hide (own_below OW1.out q3)
    replace BW1 := hide (BW1.out.trans (q3.mono BW1.out.size))
    replace LL1 := hide (LL1.out.below q3)
    clear q3
    go_wp2_with fail
    refine (CX.out _ BB.out).mono ?_; rintro e1 w4 ⟨rfl, q4⟩
    replace BB := hide (BB.out.trans (q4.mono BB.out.size))
    replace OW1 := hide (own_below OW1.out q4)
    replace BW1 := hide (BW1.out.trans (q4.mono BW1.out.size))
    replace LL1 := hide (LL1.out.below q4)
    clear q4
    go_wp2_with fail
    refine (CY.out _ BB.out).mono ?_; rintro e1 w5 ⟨rfl, q5⟩
    replace BB := hide (BB.out.trans (q5.mono BB.out.size))
    replace OW1 := hide (own_below OW1.out q5)
    replace BW1 := hide (BW1.out.trans (q5.mono BW1.out.size))
    replace LL1 := hide (LL1.out.below q5)
    clear q5
    go_wp2_with fail
    go_ret
    exact ⟨fun h => absurd h NO.out, fun _ => ⟨_, _, rfl, .inl rfl, BB.out⟩⟩
  have e9 : decide ((65536 : Int) < (T : Int)) = false := decide_eq_false (by omega)
  have e9' : decide (65536 < T) = false := decide_eq_false (by omega)
  have G9 := hide g9
  clear g9
  go_enter Try.func8, Try.ntmps8
  go_wp2_with fail
  refine (HFc.out _).mono ?_; rintro e1 w1 ⟨rfl, q1⟩
  have BB := hide (B4.out.trans (q1.mono B4.out.size))
  have OW1 := hide (own_below OW.out q1)
  have BW1 := hide (BW.out.trans (q1.mono BW.out.size))
  have LL1 := hide (LL.out.below q1)
  clear q1
  go_wp2_with fail
  refine (C1.out _).mono ?_; rintro e1 w2 ⟨rfl, q2⟩
  replace BB := hide (BB.out.trans (q2.mono BB.out.size))
  replace OW1 := hide (own_below OW1.out q2)
  replace BW1 := hide (BW1.out.trans (q2.mono BW1.out.size))
  replace LL1 := hide (LL1.out.below q2)
  clear q2
  go_wp2_with fail
  refine (C2.out _).mono ?_; rintro e1 w3 ⟨rfl, q3⟩
  replace BB := hide (BB.out.trans (q3.mono BB.out.size))
  replace OW1 := hide (own_below OW1.out q3)
  replace BW1 := hide (BW1.out.trans (q3.mono BW1.out.size))
  replace LL1 := hide (LL1.out.below q3)
  clear q3
  go_wp2_with fail
  refine (CX.out _ BB.out).mono ?_; rintro e1 w4 ⟨rfl, q4⟩
  replace BB := hide (BB.out.trans (q4.mono BB.out.size))
  replace OW1 := hide (own_below OW1.out q4)
  replace BW1 := hide (BW1.out.trans (q4.mono BW1.out.size))
  replace LL1 := hide (LL1.out.below q4)
  clear q4
  go_wp2_with fail
  refine (CY.out _ BB.out).mono ?_; rintro e1 w5 ⟨rfl, q5⟩
  replace BB := hide (BB.out.trans (q5.mono BB.out.size))
  replace OW1 := hide (own_below OW1.out q5)
  replace BW1 := hide (BW1.out.trans (q5.mono BW1.out.size))
  replace LL1 := hide (LL1.out.below q5)
  clear q5
  clear CX CY C1 C2 HFc LL OW BW B4 BL c0 c1 c2 c3 c4 c5
  skip
  go_wp2_with fail
  go_loopw [22] (fun i wx => ∃ j : Nat, j ≤ M ∧ i = .int .i64 j ∧ (∀ t, t < j → -1073741824 ≤ Z t ∧ Z t ≤ 1073741824) ∧ Below w5.heap.size w5 wx) (fun i _ => M - (intOf i).toNat)
  case atStart => exact ⟨0, Nat.zero_le _, rfl, fun t ht => absurd ht (by omega), Below.refl _ _⟩
  case round =>
    obtain ⟨j, hj, rfl, hall, hb⟩ := hrel
    have HB := hide hb
    have HALL := hide hall
    clear hb hall
    have BJ := hide (BB.out.trans (HB.out.mono BB.out.size))
    by_cases hjm : j < M
    · have jI : (j : Int) < (M : Int) := by omega
      have jq : (j : Int) < (q : Int) := by have := G7.out; omega
      have wj : IntKind.i64.wrap ((j : Int) + 1) = (j : Int) + 1 := by rw [IntKind.wrap_i64]; have := NN.out.2.2; omega
      obtain ⟨zb', zo, rfl, hz⟩ : ∃ zb' zo, za' = some ⟨zb', zo, none⟩ ∧ wr.cell? ⟨zb', zo + j, none⟩ = some (.int .i64 (Z j)) := by
          rcases HZ.out.below BJ.out with e | ⟨b, o, e, _, hc⟩
          · omega
          · exact ⟨b, o, e, (hc j (by omega)).1⟩
      cases gz : decide (-1073741824 ≤ Z j ∧ Z j ≤ 1073741824)
      · have NO := hide (show ¬ MOk true r s q X Y Z N M from fun h => absurd (ib_at (MO.out.1 h).2.2.2.2.2 j (by omega)) (of_decide_eq_false gz))
        have CZ := hide (gInS (Z j) (-1073741824) 1073741824 _ gz)
        obtain ⟨bv, hbv⟩ : ∃ bv, Z j = bv := ⟨_, rfl⟩
        rw [hbv] at hz CZ
        clear hbv gz
        go_wp2_with fail
        refine (CZ.out _).mono ?_; rintro e1 wz ⟨rfl, qz⟩
        have BE := BJ.out.trans (qz.mono BJ.out.size)
        go_wp2_with fail
        go_ret
        exact ⟨fun h => absurd h NO.out, fun _ => ⟨_, _, rfl, .inl rfl, BE⟩⟩
      · have GZ := hide (of_decide_eq_true gz)
        have CZ := hide (gInS (Z j) (-1073741824) 1073741824 _ gz)
        obtain ⟨bv, hbv⟩ : ∃ bv, Z j = bv := ⟨_, rfl⟩
        rw [hbv] at hz CZ
        have HBV := hide hbv
        clear hbv gz
        go_wp2_with fail
        refine (CZ.out _).mono ?_; rintro e1 wz ⟨rfl, qz⟩
        clear hz
        go_wp2_with fail
        go_roundw
        case rel => exact ⟨j + 1, by omega, by go_num, fun t ht => by
            by_cases c : t < j
            · exact HALL.out t c
            · obtain rfl : t = j := by omega
              exact GZ.out, HB.out.trans (qz.mono HB.out.size)⟩
        case measure => simp [intOf]; omega
    · obtain rfl : j = M := by omega
      have jM : decide ((j : Int) < (j : Int)) = false := decide_eq_false (by omega)
      have YES := hide (MO.out.2 ⟨by first | rfl | trivial, G6.out, G7.out, G8.out, G9.out, by unfold ib; exact decide_eq_true (fun t ht => HALL.out t (by have := G7.out; omega))⟩)
      have HVV := hide (HV.out YES.out)
      have OWr := hide (own_below OW1.out HB.out)
      have BWr := hide (BW1.out.trans (HB.out.mono BW1.out.size))
      have LLr := hide (LL1.out.below HB.out)
      have EQ := hide (ER.out (by first | rfl | trivial))
      have QM := hide (show 0 < j by have := NN.out.2.1; omega)
      clear HV MO OW1 BW1 LL1 HB e6 e7 e8 e8' e9 e9' wz dt dq wp wv nz nz' BB
      obtain ⟨X0, hX0⟩ : ∃ X0, wr = X0 := ⟨_, rfl⟩
      subst hX0
      go_wp2_with fail
      go_loopw [17, 23] (fun o i wx => ∃ k : Nat, k ≤ Q ∧ i = .int .i64 k ∧ wx.ownsRow W3.heap.size 3 1 o (k * j) (ints (k * j) V) ∧ Below W3.heap.size W3 wx) (fun _ i _ => Q - (intOf i).toNat)
      case atStart => exact ⟨0, Nat.zero_le _, rfl, by rw [Nat.zero_mul]; exact OWr.out, BWr.out⟩
      case round =>
        obtain ⟨k, hk, rfl, hown, hbo⟩ := hrel
        have HO := hide hown
        have HBO := hide hbo
        clear hown hbo
        by_cases hkq : k < Q
        · have kI : (k : Int) < (Q : Int) := by omega
          have wk : IntKind.i64.wrap ((k : Int) + 1) = (k : Int) + 1 := by rw [IntKind.wrap_i64]; have := QL.out; omega
          go_wp2_with fail
          go_loopw [17, 24] (fun o i wx => ∃ l : Nat, l ≤ j ∧ i = .int .i64 l ∧ wx.ownsRow W3.heap.size 3 1 o (k * j + l) (ints (k * j + l) V) ∧ Below W3.heap.size W3 wx) (fun _ i _ => j - (intOf i).toNat)
          case atStart => exact ⟨0, Nat.zero_le _, rfl, HO.out, HBO.out⟩
          case round =>
            obtain ⟨l, hl, rfl, hown2, hbi⟩ := hrel
            have HI := hide hown2
            have HBI := hide hbi
            clear hown2 hbi
            by_cases hlj : l < j
            · have lI : (l : Int) < (j : Int) := by omega
              have lq : (l : Int) < (q : Int) := by have := G7.out; omega
              have kk : k * j + l < P := by rw [← HP.out]; have := Nat.mul_le_mul_right j (show k + 1 ≤ Q from hkq); rw [Nat.succ_mul] at this; omega
              have ek : (k * j + l) / j = k := by rw [Nat.mul_comm, Nat.mul_add_div QM.out, Nat.div_eq_of_lt hlj]; rfl
              have el : (k * j + l) % j = l := by rw [Nat.mul_comm, Nat.mul_add_mod, Nat.mod_eq_of_lt hlj]
              obtain ⟨bv0, hR⟩ := HVV.out (k * j + l) kk
              unfold mtD at hR
              rw [ek, el] at hR
              have HR := hide hR
              have BV := hide bv0
              clear hR bv0 ek el
              obtain ⟨⟨n0, n1⟩, m0, m1⟩ := NN.out
              obtain ⟨r4, s4⟩ := R4.out
              have vr : (k + 1) * N ≤ r := by rw [← EQ.out]; exact Nat.mul_le_mul_right _ hkq
              have vs : (l + 1) * N ≤ s := by rw [G6.out, ← HA.out, Nat.mul_comm N]; exact Nat.mul_le_mul_right _ hlj
              rw [Nat.succ_mul] at vr vs
              obtain ⟨u, hu⟩ : ∃ u, k * N = u := ⟨_, rfl⟩
              obtain ⟨u', hu'⟩ : ∃ u', l * N = u' := ⟨_, rfl⟩
              rw [hu] at vr HR
              rw [hu'] at vs HR
              obtain ⟨v, hv⟩ : ∃ v, u + N = v := ⟨_, rfl⟩
              obtain ⟨v', hv'⟩ : ∃ v', u' + N = v' := ⟨_, rfl⟩
              rw [hv] at vr
              rw [hv'] at vs
              have wu : IntKind.i64.wrap ((k : Int) * (N : Int)) = (u : Int) := by rw [← Int.natCast_mul, hu, IntKind.wrap_i64]; omega
              have wu' : IntKind.i64.wrap ((l : Int) * (N : Int)) = (u' : Int) := by rw [← Int.natCast_mul, hu', IntKind.wrap_i64]; omega
              have wv : IntKind.i64.wrap ((u : Int) + (N : Int)) = (v : Int) := by rw [IntKind.wrap_i64]; omega
              have wv' : IntKind.i64.wrap ((u' : Int) + (N : Int)) = (v' : Int) := by rw [IntKind.wrap_i64]; omega
              have wl : IntKind.i64.wrap ((l : Int) + 1) = (l : Int) + 1 := by rw [IntKind.wrap_i64]; omega
              obtain ⟨rc, sd⟩ := RC.out
              have cI : (cap = u) = False := eq_false (by omega)
              have cI' : (dap = u') = False := eq_false (by omega)
              have uvI : (u : Int) ≤ v := by omega
              have vcI : (v : Int) ≤ cap := by omega
              have uvI' : (u' : Int) ≤ v' := by omega
              have vcI' : (v' : Int) ≤ dap := by omega
              have VU := hide (show v - u = N by omega)
              have VU' := hide (show v' - u' = N by omega)
              have VR := hide (show u + (v - u) ≤ r by omega)
              have VS := hide (show u' + (v' - u') ≤ s by omega)
              have P4 := hide (show k * j + l < 4096 by have := G8.out; omega)
              obtain ⟨A0, hA0⟩ : ∃ A0, wr = A0 := ⟨_, rfl⟩
              subst hA0
              have BI := hide (BL3.out.trans (HBI.out.mono BL3.out.size))
              have IX := (HX.out.below BI.out).mono BI.out.size
              have IY := (HY.out.below BI.out).mono BI.out.size
              have IZ := HZ.out.below BI.out
              obtain ⟨xb, xo, rfl⟩ : ∃ xb xo, xa = some ⟨xb, xo, none⟩ := by
                rcases IX with e | ⟨b, o, e, _⟩
                · omega
                · exact ⟨b, o, e⟩
              obtain ⟨yb, yo, rfl⟩ : ∃ yb yo, ya = some ⟨yb, yo, none⟩ := by
                rcases IY with e | ⟨b, o, e, _⟩
                · omega
                · exact ⟨b, o, e⟩
              obtain ⟨zb', zo, rfl, hz⟩ : ∃ zb' zo, za' = some ⟨zb', zo, none⟩ ∧ wr.cell? ⟨zb', zo + l, none⟩ = some (.int .i64 (Z l)) := by
                rcases IZ with e | ⟨b, o, e, _, hc⟩
                · omega
                · exact ⟨b, o, e, (hc l (by omega)).1⟩
              have zb0 := HALL.out l hlj
              have Db := dotV_bd sa za sb zb N N (fun t => X (u + t)) (fun t => Y (u' + t))
              obtain ⟨D, hD⟩ : ∃ D, dotV sa za sb zb N N (fun t => X (u + t)) (fun t => Y (u' + t)) = D := ⟨_, rfl⟩
              rw [hD] at Db HR
              obtain ⟨bv, hbv⟩ : ∃ bv, Z l = bv := ⟨_, rfl⟩
              rw [hbv] at hz HR zb0
              have wS : IntKind.i64.wrap (D + bv) = D + bv := by rw [IntKind.wrap_i64]; omega
              have HXr := hide IX
              have HYr := hide IY
              have HD := hide hD
              have LI := hide (L3.out.below HBI.out)
              have CD := hide (fun d os => Calls.regrown_of (d := d) (os := os) (w := wr) (specDot sa za sb zb (some ⟨xb, xo + u, none⟩) (v - u) (cap - u) (fun t => X (u + t)) (some ⟨yb, yo + u', none⟩) (v' - u') (dap - u') (fun t => Y (u' + t)) _ BD.out.1.1 BD.out.1.2 BD.out.2.1 BD.out.2.2 (ints_sub (HXr.out.below (below_regrown wr d os) |>.mono (below_regrown wr d os).size) VR.out) (ints_sub (HYr.out.below (below_regrown wr d os) |>.mono (below_regrown wr d os).size) VS.out) (by have := R4.out.1; have := VR.out; omega) (by have := R4.out.2; have := VS.out; omega)))
              have eD : dotV sa za sb zb (v - u) (v' - u') (fun t => X (u + t)) (fun t => Y (u' + t)) = D := by rw [VU.out, VU'.out]; exact HD.out
              rw [eD] at CD
              clear eD hD hbv IX IY IZ hu hu' hv hv' vr vs kk n0 n1 m0 m1 r4 s4 rc sd Db zb0
              have k5 := cell_regrown (show wr.cell? ⟨w.heap.size, 0, none⟩ = some (.int .i64 sa) from LI.out (⟨w.heap.size, 0, none⟩, (.int .i64 sa)) (.tail _ (.tail _ (.tail _ (.tail _ (.tail _ (.head _)))))))
              have k4 := cell_regrown (show wr.cell? ⟨w.heap.size, 1, none⟩ = some (.int .i64 za) from LI.out (⟨w.heap.size, 1, none⟩, (.int .i64 za)) (.tail _ (.tail _ (.tail _ (.tail _ (.head _))))))
              have k3 := cell_regrown (show wr.cell? ⟨W1.heap.size, 0, none⟩ = some (.int .i64 sb) from LI.out (⟨W1.heap.size, 0, none⟩, (.int .i64 sb)) (.tail _ (.tail _ (.tail _ (.head _)))))
              have k2 := cell_regrown (show wr.cell? ⟨W1.heap.size, 1, none⟩ = some (.int .i64 zb) from LI.out (⟨W1.heap.size, 1, none⟩, (.int .i64 zb)) (.tail _ (.tail _ (.head _))))
              have kz := cell_regrown hz
              clear hz
              go_wp2_with fail
              refine wp_region_quiet_below (by kernel_rfl) (by kernel_rfl) ?_
              repeat (go_big_quiet_step (first | (go_at_call 21; exact CD.out _ _)))
              refine wpQuiet_nil ?_
              intro _ hw'
              obtain ⟨⟨dq, osq⟩, hw''⟩ := hw'
              subst hw''
              obtain ⟨Z1, hZ1⟩ : ∃ Z1, Sort.grow (redrawn wr dq) osq = Z1 := ⟨_, rfl⟩
              have bz : Below wr.heap.size wr Z1 := hZ1 ▸ below_regrown _ _ _
              rw [hZ1]
              clear hZ1 k5 k4 k3 k2 kz CD
              replace HI := hide (own_below HI.out bz)
              replace HBI := hide (HBI.out.trans (bz.mono HBI.out.size))
              replace LI := hide (LI.out.below bz)
              clear bz cI cI' uvI uvI' vcI vcI' wu wu' wv wv'
              have CC := hide (fun w => clipB (-1073741824) 1073741824 (D + bv) w)
              have CR := hide HR.out
              obtain ⟨y, hy⟩ : ∃ y, cl (-1073741824) 1073741824 (D + bv) = y := ⟨_, rfl⟩
              rw [hy] at CC CR
              obtain ⟨x, hx⟩ : ∃ x, V (k * j + l) = x := ⟨_, rfl⟩
              rw [hx] at CR BV
              have EX := hide hx
              clear hy hx
              go_wp2_with fail
              refine Qf.facts2 8 (by kernel_rfl) (by kernel_rfl) (by kernel_rfl) (fun i v wx => match i with | 0 => v = u17 | 1 => v = .int .i64 (D + bv) | 2 => v = .int .i64 y | 3 => v = .int .i64 mu | 4 => v = .int .i64 sh | 5 => v = .agg #[.int .i64 sc, .int .i64 zc] | 6 => v = .int .i64 x | 7 => IntV 1 (fun _ => x) v wx | _ => True) ?stable ?steps ?rest
              case stable =>
                intro i v w1 w2 h hb
                match i, h with
                | 0, h => exact h
                | 1, h => exact h
                | 2, h => exact h
                | 3, h => exact h
                | 4, h => exact h
                | 5, h => exact h
                | 6, h => exact h
                | 7, h => exact h.below hb
                | _ + 8, h => exact h
              case steps =>
                intro i o hi ho s A wS hb hk hA hO
                match i, hi, ho, hk with
                | 0, _, ho, hk =>
                  cases ho
                  exact Qf.lands_move _ rfl _ ((hO 17 (by rfl)).trans rfl) ⟨Below.refl _ _, rfl⟩
                | 1, _, ho, hk =>
                  cases ho
                  exact Qf.lands_move _ rfl _ ((hO 25 (by rfl)).trans rfl) ⟨Below.refl _ _, rfl⟩
                | 2, _, ho, hk =>
                  cases ho
                  have h1 := hA 1 _ 147 (by decide) rfl rfl (by simp)
                  have e1 := hk 1 (by kernel_rfl)
                  rw [e1] at h1
                  refine Qf.lands_call 23 _ _ rfl (enters_of Try.func23 (by kernel_rfl) rfl) _ (by simp [h1]; exact ⟨rfl, rfl⟩) ((CC.out _).mono ?_)
                  rintro e wT ⟨rfl, bT⟩
                  exact ⟨_, rfl, bT, rfl⟩
                | 3, _, ho, hk =>
                  cases ho
                  exact Qf.lands_move _ rfl _ ((hO 18 (by rfl)).trans rfl) ⟨Below.refl _ _, rfl⟩
                | 4, _, ho, hk =>
                  cases ho
                  exact Qf.lands_move _ rfl _ ((hO 19 (by rfl)).trans rfl) ⟨Below.refl _ _, rfl⟩
                | 5, _, ho, hk =>
                  cases ho
                  have lb := LI.out.below hb
                  exact Qf.lands_val _ _ (runLoadSI rfl ((hO 15 (by rfl)).trans rfl) (lb (⟨W2.heap.size, 0, none⟩, (.int .i64 sc)) (.tail _ (.head _))) (lb (⟨W2.heap.size, 1, none⟩, (.int .i64 zc)) (.head _))) ⟨Below.refl _ _, rfl⟩
                | 6, _, ho, hk =>
                  cases ho
                  have h2 := hA 2 _ 148 (by decide) rfl rfl (by simp)
                  have e2 := hk 2 (by kernel_rfl)
                  rw [e2] at h2
                  have h3 := hA 3 _ 149 (by decide) rfl rfl (by simp)
                  have e3 := hk 3 (by kernel_rfl)
                  rw [e3] at h3
                  have h4 := hA 4 _ 150 (by decide) rfl rfl (by simp)
                  have e4 := hk 4 (by kernel_rfl)
                  rw [e4] at h4
                  have h5 := hA 5 _ 151 (by decide) rfl rfl (by simp)
                  have e5 := hk 5 (by kernel_rfl)
                  rw [e5] at h5
                  refine Qf.lands_call 22 _ _ rfl (enters_of Try.func22 (by kernel_rfl) rfl) _ (by simp [h2, h3, h4, h5]) ((CR.out _).mono ?_)
                  rintro e wT ⟨rfl, bT⟩
                  exact ⟨_, rfl, bT, rfl⟩
                | 7, _, ho, hk =>
                  cases ho
                  have h6 := hA 6 _ 152 (by decide) rfl rfl (by simp)
                  have e6 := hk 6 (by kernel_rfl)
                  rw [e6] at h6
                  exact Qf.lands_val _ _ (runBuild1 rfl h6) ⟨(Below.refl _ _).alloc (Nat.le_refl _) _, intV_new _ _ BV.out⟩
                | _ + 8, hi, _, _ => exact absurd hi (by omega)
              case rest =>
              intro s' Z2 hbS hk8
              have e0 : s' 0 = u17 := hk8 0 (by decide)
              have e1 : s' 1 = .int .i64 (D + bv) := hk8 1 (by decide)
              have e2 : s' 2 = .int .i64 y := hk8 2 (by decide)
              have e3 : s' 3 = .int .i64 mu := hk8 3 (by decide)
              have e4 : s' 4 = .int .i64 sh := hk8 4 (by decide)
              have e5 : s' 5 = .agg #[.int .i64 sc, .int .i64 zc] := hk8 5 (by decide)
              have e6 : s' 6 = .int .i64 x := hk8 6 (by decide)
              obtain ⟨g, e7, rg, lg⟩ := hk8 7 (by decide)
              simp only [List.take_succ_cons, List.take_zero, List.drop_succ_cons, List.drop_zero, Qf.lay, Qf.all1, if_true, e0, e1, e2, e3, e4, e5, e6, e7]
              simp only [Act.put, List.setIfInBounds_toArray, List.set_cons_succ, List.set_cons_zero]
              have NW := hide (ints_of (ad := ⟨g, 0, none⟩) (r := 1) (rg.ints lg) rfl)
              replace HI := hide (own_below HI.out hbS)
              replace HBI := hide (HBI.out.trans (hbS.mono HBI.out.size))
              clear hk8 e0 e1 e2 e3 e4 e5 e6 e7 hbS rg lg CC CR LI wS
              go_wp2_with (at_builtin; refine wpList_append_own _ rfl _ _ 29 rfl W3.heap.size 3 i0 (.int .i64 0) 1 8 Try.underlying29 hi0 hz0 hz1 hz2 rfl (by decide) _ _ _ rfl HI.out ⟨g, 0, none⟩ 1 1 (ints 1 (fun _ => x)) rfl rfl NW.out (ints_one _ _) (by have := P4.out; unfold maxLen; omega) (by have := P4.out; omega) (by have := HBI.out.size; simp; omega) ?_; intro v' w5' hown1 hgrow1 _)
              go_roundw
              case rel =>
                have hown2 := hown1
                rw [show ints 1 (fun _ => x) = [.int .i64 x] from rfl, ints_snoc' _ _ x EX.out] at hown2
                exact ⟨l + 1, by omega, by go_num, hown2, HBI.out.grown hgrow1 (by have := HBI.out.size; omega) (fun k hk => (HI.out.lt k hk).1)⟩
              case measure => simp [intOf]; omega
            · obtain rfl : l = j := by omega
              have lk : decide ((l : Int) < (l : Int)) = false := decide_eq_false (by omega)
              go_wp2_with fail
              go_roundw
              case rel => exact ⟨k + 1, by omega, by go_num, by rw [Nat.succ_mul]; exact HI.out, HBI.out⟩
              case measure => simp [intOf]; omega
        · obtain rfl : k = Q := by omega
          have lk : decide ((k : Int) < (k : Int)) = false := decide_eq_false (by omega)
          obtain ⟨a', c', rfl, hO⟩ := RowV.own (B := W3.heap.size) (w := wr) (D := V) ⟨HO.out, fun t ht => (HVV.out t (by rw [← HP.out]; exact ht)).1⟩
          have HOO := hide hO
          have BE := hide (BL3.out.trans (HBO.out.mono BL3.out.size))
          clear hO
          go_wp2_with fail
          go_ret
          refine ⟨fun _ => ⟨a', c', by rw [← HP.out]; rfl, ?_, BE.out⟩, fun h => absurd YES.out h⟩
          rw [← HP.out]
          exact HOO.out.mono BL3.out.size
end Vo
end Go.Proofs.Ytnnjkanmcfjblaa
