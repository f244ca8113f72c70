/- Sums of floats, the model's side. -/
import Derived.Test.YtmghmcnihiepiaaDoorTwo
import Derived.Test.YtmghmcnihiepiaaDoorFlM
import Derived.Lib.SmallJoins
namespace Go.Proofs.YtmghmcnihiepiaaDoor
namespace FlV
open Go.ChangeShapes Go.WideShapes Go.ChangeAt Go.RowKit Go.Joins
open Flo (hide ret_int ret_bool)
set_option linter.unusedVariables false
set_option linter.unusedSimpArgs false
theorem shl_iD (m : Nat) (D : Nat) (M : Int) (h : ((m * 2 ^ D : Nat) : Int) = M) (h1 : M ≤ 4611686018427387904) : IntKind.i64.wrap ((m : Int) * 2 ^ D) = M ∧ wrap64 ((m : Int) * 2 ^ D) = M := by
  have e : ((m : Int) * 2 ^ D) = ((m * 2 ^ D : Nat) : Int) := by simp
  rw [e, h]
  have h0 : 0 ≤ M := by rw [← h]; exact Int.natCast_nonneg _
  refine ⟨by rw [IntKind.wrap_i64]; omega, by simp only [wrap64]; omega⟩
set_option maxRecDepth 100000 in
set_option maxHeartbeats 4000000 in
theorem specAddNearD (a b : Int) (np nq nb mo : Bool) (ep eq : Int) (mp mq D : Nat) (kk M E r : Int) (w : World)
    (oA : ∀ w, Calls Tryd.prog 34 #[.int .i64 a] w fun e w' => e = .returned (.agg #[.int .i64 0, .bool np, .int .i64 mp, .int .i64 ep]) ∧ Below w.heap.size w w')
    (oB : ∀ w, Calls Tryd.prog 34 #[.int .i64 b] w fun e w' => e = .returned (.agg #[.int .i64 0, .bool nq, .int .i64 mq, .int .i64 eq]) ∧ Below w.heap.size w w')
    (x1 : -149 ≤ ep) (x2 : ep ≤ 104) (x3 : -149 ≤ eq) (x4 : eq ≤ 104) (y1 : (mp : Int) < 16777216) (y2 : (mq : Int) < 16777216)
    (hE : ep - 30 = E)
    (hP : ∀ w, Calls Tryd.prog 36 #[.bool nb, .int .i64 M, .int .i64 E, .bool mo] w fun e w' => e = .returned (.int .i64 r) ∧ w' = w)
    (hc1 : ep = eq) (hc2 : (mq : Int) ≤ (mp : Int))
    (hd : ep - eq ≤ 30) (hD : 30 - (ep - eq) = (D : Int)) (hD' : D ≤ 30) (hk : ((mq * 2 ^ D : Nat) : Int) = kk) (hk1 : kk ≤ 18014398509481984) (hmo : mo = false)
    (hf : ((np == nq) = true ∧ nb = np ∧ (mp : Int) * 1073741824 + kk = M) ∨ ((np == nq) = false ∧ (mp : Int) * 1073741824 - kk = M ∧ 0 < M ∧ nb = np) ∨ ((np == nq) = false ∧ (mp : Int) * 1073741824 - kk = M ∧ M = 0 ∧ nb = false)) :
    Calls Tryd.prog 19 #[.int .i64 a, .int .i64 b] w fun e w' => e = .returned (.int .i64 r) ∧ Below w.heap.size w w' := by
  have OA := hide oA
  have OB := hide oB
  have HP := hide hP
  obtain ⟨sh1, sh2⟩ := shl_iD mq D kk hk (by omega)
  have k0 : 0 ≤ kk := by rw [← hk]; exact Int.natCast_nonneg _
  have m10 : (0 : Int) ≤ (mp : Int) := Int.natCast_nonneg _
  have m20 : (0 : Int) ≤ (mq : Int) := Int.natCast_nonneg _
  have kt : ((D : Int)).toNat = D := Int.toNat_natCast D
  have km : min D 64 = D := by omega
  have D0 : (0 : Int) ≤ (D : Int) := Int.natCast_nonneg _
  have D1 : (D : Int) ≤ 30 := by omega
  have ku : IntKind.u64.wrap (D : Int) = (D : Int) := by simp [IntKind.wrap, IntKind.bits, IntKind.signed]; omega
  subst hmo
  have hk' : (mq : Int) * 1073741824 = kk := by rw [← hk, show D = 30 by omega]; simp
  clear oA oB hP hk
  subst hc1
  have c1 : decide (ep < ep) = false := decide_eq_false (by omega)
  have c2 : decide ((mp : Int) < (mq : Int)) = false := decide_eq_false (by omega)
  clear hc2 hD hD' sh1 sh2 kt km D0 D1 ku
  generalize (mp : Int) = zp at *
  generalize (mq : Int) = zq at *
  rcases hf with ⟨hs, hnb, hM⟩ | ⟨hs, hM, hM0, hnb⟩ | ⟨hs, hM, hM0, hnb⟩
  · rw [hnb] at HP
    clear hnb
    go_enter Tryd.func19, Tryd.ntmps19
    go_wp2_with fail
    refine (OA.out _).mono ?_; rintro e w1 ⟨rfl, b1⟩
    go_wp2_with fail
    refine (OB.out _).mono ?_; rintro e w2 ⟨rfl, b2⟩
    have sz := b2.size
    have sz1 := b1.size
    rw [World.size_alloc] at sz
    refine keep_then b2 w1.heap.size (by simp) ?_; intro g1 g2 g3 g4 g5 g6
    refine ne_then w1.heap.size w2.heap.size (by omega) ?_; intro n00 n00'
    refine ne_then w1.heap.size (w2.heap.size + 1) (by omega) ?_; intro n01 n01'
    go_wp2_with fail
    refine (HP.out _).mono ?_; rintro e w3 ⟨rfl, rfl⟩
    go_wp2_with fail
    go_ret
    exact ⟨rfl, by (repeat (first | with_reducible exact Below.refl _ _ | with_reducible apply bl_drew | with_reducible apply bl_alloc | (with_reducible apply bl_set; (focus (dsimp only; omega))) | (with_reducible apply bl_below; (focus (with_reducible assumption)))))⟩
  · rw [hnb] at HP
    clear hnb
    have hz : (M == 0) = false := beq_eq_false_iff_ne.2 (by omega)
    have hz2 : decide (M < 0) = false := decide_eq_false (by omega)
    go_enter Tryd.func19, Tryd.ntmps19
    go_wp2_with fail
    refine (OA.out _).mono ?_; rintro e w1 ⟨rfl, b1⟩
    go_wp2_with fail
    refine (OB.out _).mono ?_; rintro e w2 ⟨rfl, b2⟩
    have sz := b2.size
    have sz1 := b1.size
    rw [World.size_alloc] at sz
    refine keep_then b2 w1.heap.size (by simp) ?_; intro g1 g2 g3 g4 g5 g6
    refine ne_then w1.heap.size w2.heap.size (by omega) ?_; intro n00 n00'
    refine ne_then w1.heap.size (w2.heap.size + 1) (by omega) ?_; intro n01 n01'
    go_wp2_with fail
    refine (HP.out _).mono ?_; rintro e w3 ⟨rfl, rfl⟩
    go_wp2_with fail
    go_ret
    exact ⟨rfl, by (repeat (first | with_reducible exact Below.refl _ _ | with_reducible apply bl_drew | with_reducible apply bl_alloc | (with_reducible apply bl_set; (focus (dsimp only; omega))) | (with_reducible apply bl_below; (focus (with_reducible assumption)))))⟩
  · subst hM0
    rw [hnb] at HP
    clear hnb
    go_enter Tryd.func19, Tryd.ntmps19
    go_wp2_with fail
    refine (OA.out _).mono ?_; rintro e w1 ⟨rfl, b1⟩
    go_wp2_with fail
    refine (OB.out _).mono ?_; rintro e w2 ⟨rfl, b2⟩
    have sz := b2.size
    have sz1 := b1.size
    rw [World.size_alloc] at sz
    refine keep_then b2 w1.heap.size (by simp) ?_; intro g1 g2 g3 g4 g5 g6
    refine ne_then w1.heap.size w2.heap.size (by omega) ?_; intro n00 n00'
    refine ne_then w1.heap.size (w2.heap.size + 1) (by omega) ?_; intro n01 n01'
    go_wp2_with fail
    refine (HP.out _).mono ?_; rintro e w3 ⟨rfl, rfl⟩
    go_wp2_with fail
    go_ret
    exact ⟨rfl, by (repeat (first | with_reducible exact Below.refl _ _ | with_reducible apply bl_drew | with_reducible apply bl_alloc | (with_reducible apply bl_set; (focus (dsimp only; omega))) | (with_reducible apply bl_below; (focus (with_reducible assumption)))))⟩
end FlV
end Go.Proofs.YtmghmcnihiepiaaDoor
