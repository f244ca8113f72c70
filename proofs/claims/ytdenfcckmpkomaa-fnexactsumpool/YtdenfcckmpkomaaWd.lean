/- Pools of the program. -/
import Derived.Test.YtdenfcckmpkomaaWc
import Derived.Test.YtdenfcckmpkomaaLc
import Derived.Deep.RegionHeld3
namespace Go.Proofs.Ytdenfcckmpkomaa
namespace Vo
open Go.ChangeShapes Go.WideShapes Go.ChangeAt Go.RowKit Go.Joins Go.Sort
open Vl Vp Vr
set_option linter.unusedVariables false
set_option linter.unusedSimpArgs false
theorem pool_wraps {d z t : Int} (h1 : 1 ≤ z) (h2 : 1 ≤ t) (h3 : z ≤ d) (h4 : d ≤ 4096) : IntKind.i64.wrap (d - z) = d - z ∧ IntKind.i64.wrap ((d - z).tdiv t) = (d - z).tdiv t ∧ IntKind.i64.wrap ((d - z).tdiv t + 1) = poolH d z t ∧ 1 ≤ poolH d z t ∧ poolH d z t ≤ 4096 := by
  have e : (d - z).tdiv t = (d - z) / t := Int.tdiv_eq_ediv_of_nonneg (by omega)
  have a : 0 ≤ (d - z) / t := Int.ediv_nonneg (by omega) (by omega)
  have b : (d - z) / t ≤ d - z := Int.ediv_le_self _ (by omega)
  unfold poolH
  rw [e]
  exact ⟨wrap_in (by omega) (by omega), wrap_in (by omega) (by omega), wrap_in (by omega) (by omega), by omega, by omega⟩
/-- which way the tests go -/
theorem pool_ways {z t d : Int} : (decide (z < 1) = true ∧ ¬ (1 ≤ z ∧ 1 ≤ t ∧ z ≤ d)) ∨ (decide (z < 1) = false ∧ decide (t < 1) = true ∧ ¬ (1 ≤ z ∧ 1 ≤ t ∧ z ≤ d)) ∨ (decide (z < 1) = false ∧ decide (t < 1) = false ∧ decide (d < z) = true ∧ ¬ (1 ≤ z ∧ 1 ≤ t ∧ z ≤ d)) ∨ (decide (z < 1) = false ∧ decide (t < 1) = false ∧ decide (d < z) = false ∧ (1 ≤ z ∧ 1 ≤ t ∧ z ≤ d)) := by
  by_cases a1 : z < 1
  · exact .inl ⟨decide_eq_true a1, by omega⟩
  refine .inr ?_
  by_cases a2 : t < 1
  · exact .inl ⟨decide_eq_false a1, decide_eq_true a2, by omega⟩
  refine .inr ?_
  by_cases a3 : d < z
  · exact .inl ⟨decide_eq_false a1, decide_eq_false a2, decide_eq_true a3, by omega⟩
  exact .inr ⟨decide_eq_false a1, decide_eq_false a2, decide_eq_false a3, by omega⟩
set_option maxRecDepth 100000 in
set_option maxHeartbeats 2000000 in
theorem pooledAlong (op : Int) (K : Nat) (hm : Mix (two1 op)) (hK : TwoV op K) (B : Nat) (a b : Option Addr) (r s cap dap : Nat) (D S : Nat → Int) (x z t : Int) (w : World) (hB : B ≤ w.heap.size) (h : Ints B w a r D) (h' : Ints B w b s S) (hr : (r : Int) ≤ 1048576) (hs : (s : Int) ≤ 1048576) (hcap : r ≤ cap) :
    Calls Try.prog 82 #[.agg #[.slice a r cap, .slice b s dap], .int .i64 x, .int .i64 z, .int .i64 t, .func (.func K) #[] #[]] w fun e w' => TensC w.heap.size (poolA op r s D S x z t) w e w' := by
  obtain ⟨W0, hW0⟩ : ∃ W0, ((((w.alloc (.cells #[.slice a r cap, .slice b s dap] 26)).alloc (.cells #[.int .i64 z] 3)).alloc (.cells #[.int .i64 t] 3)).alloc (.cells #[.func (.func K) #[] #[]] 61)).alloc (.cells #[.slice none 0 0, .slice none 0 0] 26) = W0 := ⟨_, rfl⟩
  have hs0 : W0.heap.size = w.heap.size + 1 + 1 + 1 + 1 + 1 := by rw [← hW0]; simp
  have bl : Below w.heap.size w W0 := by rw [← hW0]; exact (((((Below.refl _ _).alloc (Nat.le_refl _) _).alloc (by simp) _).alloc (by simp; omega) _).alloc (by simp; omega) _).alloc (by simp; omega) _
  have n0 : Bx W0 w.heap.size (.slice a r cap) (.slice b s dap) := by rw [← hW0]; exact ⟨by simp [go_sem], by simp [go_sem]⟩
  have c1 : W0.cell? ⟨w.heap.size + 1, 0, none⟩ = some (.int .i64 z) := by rw [← hW0]; simp [go_sem]
  have c2 : W0.cell? ⟨w.heap.size + 1 + 1, 0, none⟩ = some (.int .i64 t) := by rw [← hW0]; simp [go_sem]
  have c3 : W0.cell? ⟨w.heap.size + 1 + 1 + 1, 0, none⟩ = some (.func (.func K) #[] #[]) := by rw [← hW0]; simp [go_sem]
  have m0 : Bx W0 (w.heap.size + 1 + 1 + 1 + 1) (.slice none 0 0) (.slice none 0 0) := by rw [← hW0]; exact ⟨by simp [go_sem], by simp [go_sem]⟩
  have g0 : Free W0 (w.heap.size + 1 + 1 + 1 + 1) := by rw [← hW0]; intro i; simp [go_sem]
  have H := hide (h.below (bl.mono hB))
  have H' := hide (h'.below (bl.mono hB))
  have BL := hide bl
  have HS0 := hide hs0
  have N0 := hide n0
  have C1 := hide c1
  have C2 := hide c2
  have C3 := hide c3
  have M0 := hide m0
  have G0 := hide g0
  have LA := hide (lenA_rng r s D S x)
  have HM := hide hm
  have HKV := hide hK
  obtain ⟨x0, x1⟩ := n0
  clear h h' bl m0 g0 hs0 hm hK
  go_enter Try.func82, Try.ntmps82
  go_wp2_with fail
  clear hW0
  refine (lengthAt B a b r s cap dap D S x _ (by have := HS0.out; omega) H.out H'.out hr hs).mono ?_
  rintro e w1 ⟨rfl, b1⟩
  have z0 := HS0.out
  have N1 := hide (N0.out.below b1 (by omega))
  have M1 := hide (M0.out.below b1 (by omega))
  have G1 := hide (G0.out.below b1 (by omega))
  have D1 := hide ((b1.cell (p := ⟨w.heap.size + 1, 0, none⟩) (by show w.heap.size + 1 < W0.heap.size; omega)).trans C1.out)
  have D2 := hide ((b1.cell (p := ⟨w.heap.size + 1 + 1, 0, none⟩) (by show w.heap.size + 1 + 1 < W0.heap.size; omega)).trans C2.out)
  have D3 := hide ((b1.cell (p := ⟨w.heap.size + 1 + 1 + 1, 0, none⟩) (by show w.heap.size + 1 + 1 + 1 < W0.heap.size; omega)).trans C3.out)
  have B1 := hide (BL.out.trans (b1.mono BL.out.size))
  have H1 := hide (H.out.below (b1.mono (by omega)))
  have H1' := hide (H'.out.below (b1.mono (by omega)))
  have s1 : w.heap.size + 1 + 1 + 1 + 1 < w1.heap.size := by have := b1.size; omega
  clear b1 x0 x1 c1 c2 c3 z0
  obtain ⟨x0, x1⟩ := N1.out
  have c1 := D1.out
  have c2 := D2.out
  obtain ⟨y0, y1⟩ := M1.out
  have gg := G1.out
  unfold Free at gg
  have LN := hide (show ∀ len : Nat, lenA r s D S x = (len : Int) → lenA r s D S x = (len : Int) from fun _ e => e)
  obtain ⟨ln, hln⟩ : ∃ ln, lenA r s D S x = ln := ⟨_, rfl⟩
  have HLN := hide hln
  rw [hln] at LA LN ⊢
  clear hln
  have NO := hide (fun (hz : ¬ (1 ≤ z ∧ 1 ≤ t ∧ z ≤ ln)) (w2 : World) (hb : Below w.heap.size w w2) => show TensC w.heap.size (poolA op r s D S x z t) w (.returned (.agg #[.slice none 0 0, .slice none 0 0])) w2 by rw [poolA_no (by rw [HLN.out]; exact hz)]; exact tensC_zero hb)
  rcases pool_ways (z := z) (t := t) (d := ln) with ⟨d1, no⟩ | ⟨d1, d2, no⟩ | ⟨d1, d2, d3, no⟩ | ⟨d1, d2, d3, yes⟩
  · have NN := hide no
    clear no
    go_wp2_with fail
    refine bodyPost_ret (v := .agg #[.slice none 0 0, .slice none 0 0]) (by simp [results, Try.results82, go_sem, y0, y1]) rfl (NO.out NN.out _ (by
      repeat (refine Below.setCell ?_ (by simp; omega) _)
      exact B1.out))
  · have NN := hide no
    clear no
    go_wp2_with fail
    refine bodyPost_ret (v := .agg #[.slice none 0 0, .slice none 0 0]) (by simp [results, Try.results82, go_sem, y0, y1]) rfl (NO.out NN.out _ (by
      repeat (refine Below.setCell ?_ (by simp; omega) _)
      exact B1.out))
  · have NN := hide no
    clear no
    go_wp2_with fail
    refine bodyPost_ret (v := .agg #[.slice none 0 0, .slice none 0 0]) (by simp [results, Try.results82, go_sem, y0, y1]) rfl (NO.out NN.out _ (by
      repeat (refine Below.setCell ?_ (by simp; omega) _)
      exact B1.out))
  obtain ⟨q1, q2, q3, q4, q5⟩ := pool_wraps yes.1 yes.2.1 yes.2.2 LA.out.2
  have t0 : (t == 0) = false := by have := yes.2.1; simp; omega
  have ez := hide (show poolA op r s D S x z t = lineP r s D S x (poolH ln z t) (poolG op z.toNat t.toNat) by rw [poolA_yes (by rw [HLN.out]; exact yes), HLN.out]; rfl)
  have YES := hide yes
  obtain ⟨P, hP⟩ : ∃ P, poolH ln z t = P := ⟨_, rfl⟩
  have HP := hide hP
  obtain ⟨b', hb'⟩ : ∃ b', (ln - z).tdiv t = b' := ⟨_, rfl⟩
  rw [hP] at q3 q4 q5 ez
  rw [hb'] at q2 q3
  have CL := hide (fun (W : World) (hW : Below w1.heap.size w1 W) => linewiseC 113 #[.pointer (some ⟨w.heap.size + 1 + 1, 0, none⟩), .pointer (some ⟨w.heap.size + 1, 0, none⟩), .pointer (some ⟨w.heap.size + 1 + 1 + 1, 0, none⟩)] (poolG op z.toNat t.toNat) B a b r s cap dap D S x P W (by have := hW.size; omega) (H1.out.below (hW.mono (by omega))) (H1'.out.below (hW.mono (by omega))) hr hs hcap (by unfold bd; omega) (enters_of Try.func113 (by kernel_rfl) rfl) (fun len N e1 e2 l1 l2 => by
    have e3 := HLN.out
    have y := YES.out
    have ep := HP.out
    have la := LA.out
    have e4 : ln = (len : Int) := by rw [← e3]; exact e1
    have zc : (z.toNat : Int) = z := Int.toNat_of_nonneg (by omega)
    exact pool1 op K HM.out HKV.out (w.heap.size + 1 + 1) (w.heap.size + 1) (w.heap.size + 1 + 1 + 1) t z.toNat len N W ((hW.cell (p := ⟨w.heap.size + 1 + 1, 0, none⟩) (by show w.heap.size + 1 + 1 < w1.heap.size; omega)).trans D2.out) (by rw [zc]; exact (hW.cell (p := ⟨w.heap.size + 1, 0, none⟩) (by show w.heap.size + 1 < w1.heap.size; omega)).trans D1.out) ((hW.cell (p := ⟨w.heap.size + 1 + 1 + 1, 0, none⟩) (by show w.heap.size + 1 + 1 + 1 < w1.heap.size; omega)).trans D3.out) ⟨by have := hW.size; omega, by have := hW.size; omega, by have := hW.size; omega⟩ (by omega) y.2.1 (by omega) (by omega) (by rw [zc, ← e4, ep]; exact e2.symm)))
  obtain ⟨T, hT⟩ : ∃ T, lineP r s D S x P (poolG op z.toNat t.toNat) = T := ⟨_, rfl⟩
  rw [hT] at CL ez
  clear hT
  have A0 := hide (show Below w1.heap.size w1 w1.drew from (Below.refl _ _).drew)
  have F0 := hide (fun (W : World) (hW : Below w1.drew.heap.size w1.drew W) => show Below w1.heap.size w1 W from A0.out.trans hW)
  have F1 := hide (fun (W : World) (hW : Below w1.heap.size w1 W) => N1.out.below hW (by omega))
  have F2 := hide (fun (W : World) (hW : Below w1.heap.size w1 W) => (hW.cell (p := ⟨w.heap.size + 1, 0, none⟩) (by show w.heap.size + 1 < w1.heap.size; omega)).trans D1.out)
  have F3 := hide (fun (W : World) (hW : Below w1.heap.size w1 W) => (hW.cell (p := ⟨w.heap.size + 1 + 1, 0, none⟩) (by show w.heap.size + 1 + 1 < w1.heap.size; omega)).trans D2.out)
  have F4 := hide (fun (W : World) (hW : Below w1.heap.size w1 W) => M1.out.below hW (by omega))
  have F5 := hide (fun (W : World) (hW : Below w1.heap.size w1 W) => G1.out.below hW (by omega))
  have tne : ¬ (t = 0) := by have := YES.out.2.1; omega
  clear hP yes y0 y1 gg q4 q5
  go_wp2_with fail
  go_region_held3 (fun w' => w'.cell? ⟨w.heap.size, 0, none⟩ = some (.slice a r cap) ∧ w'.cell? ⟨w.heap.size, 1, none⟩ = some (.slice b s dap) ∧ w'.cell? ⟨w.heap.size + 1, 0, none⟩ = some (.int .i64 z) ∧ w'.cell? ⟨w.heap.size + 1 + 1, 0, none⟩ = some (.int .i64 t))
    ((try dsimp only) <;> (repeat' apply And.intro) <;> (repeat (first | with_reducible assumption | with_reducible apply drew_old | (with_reducible apply set_other; (focus (first | (dsimp only; omega) | (simp; done) | (simp; omega)))) | assumption)))
    (first
    | (go_at_call 66
       refine (CL.out _ A0.out).mono ?_
       rintro e w2 ⟨ta, tb, tc, td, rfl, tz, b2, rm⟩
       have b2' := hide (F0.out w2 b2)
       obtain ⟨u0, u1⟩ := F1.out w2 b2'.out
       have u2 := F2.out w2 b2'.out
       have u3 := F3.out w2 b2'.out
       obtain ⟨y0, y1⟩ := F4.out w2 b2'.out
       have gg := F5.out w2 b2'.out
       unfold Free at gg
       have TZ := hide tz
       have RMM := hide rm
       clear tz b2 rm))
  all_goals (go_wp2_with fail)
  refine bodyPost_ret (v := .agg #[.slice ta T.r tc, .slice tb T.s td]) (by simp [results, Try.results82, go_sem, y0, y1]) rfl ?_
  show TensC w.heap.size (poolA op r s D S x z t) w _ _
  rw [ez.out]
  exact tensC_end TZ.out (P := w.heap.size + 1 + 1 + 1 + 1) (by show w.heap.size + 1 + 1 + 1 + 1 < w1.heap.size; omega) (by omega) (B1.out.trans (b2'.out.mono B1.out.size)) RMM.out
set_option maxRecDepth 100000 in
set_option maxHeartbeats 2000000 in
theorem pooledF (op : Int) (K : Nat) (hm : Mix (two1 op)) (hK : TwoV op K) (B : Nat) (a b : Option Addr) (r s cap dap : Nat) (D S : Nat → Int) (z t : Int) (w : World) (hB : B ≤ w.heap.size) (h : Ints B w a r D) (h' : Ints B w b s S) (hr : (r : Int) ≤ 1048576) (hs : (s : Int) ≤ 1048576) (hcap : r ≤ cap) :
    Calls Try.prog 50 #[.agg #[.slice a r cap, .slice b s dap], .int .i64 z, .int .i64 t, .func (.func K) #[] #[]] w fun e w' => TensR w.heap.size (poolP op r s D S z t) w e w' := by
  obtain ⟨W0, hW0⟩ : ∃ W0, (w.alloc (.cells #[.slice a r cap, .slice b s dap] 26)).alloc (.cells #[.slice none 0 0, .slice none 0 0] 26) = W0 := ⟨_, rfl⟩
  have hs0 : W0.heap.size = w.heap.size + 1 + 1 := by rw [← hW0]; simp
  have bl : Below w.heap.size w W0 := by rw [← hW0]; exact ((Below.refl _ _).alloc (Nat.le_refl _) _).alloc (by simp) _
  have n0 : Bx W0 w.heap.size (.slice a r cap) (.slice b s dap) := by rw [← hW0]; exact ⟨by simp [go_sem], by simp [go_sem]⟩
  have m0 : Bx W0 (w.heap.size + 1) (.slice none 0 0) (.slice none 0 0) := by rw [← hW0]; exact ⟨by simp [go_sem], by simp [go_sem]⟩
  have g0 : Free W0 (w.heap.size + 1) := by rw [← hW0]; intro i; simp [go_sem]
  have wl : IntKind.i64.wrap ((r : Int) - 1) = (r : Int) - 1 := wrap_in (by omega) (by omega)
  have wl2 : IntKind.i64.wrap ((r : Int) - 1 - 1) = (r : Int) - 2 := by rw [wrap_in (by omega) (by omega)]; omega
  have H := hide (h.below (bl.mono hB))
  have H' := hide (h'.below (bl.mono hB))
  have BL := hide bl
  have HS0 := hide hs0
  have M0 := hide m0
  have G0 := hide g0
  have P1 := hide (fun (W : World) (hW : B ≤ W.heap.size) hi hi' => pooledAlong op K hm hK B a b r s cap dap D S ((r : Int) - 2) z t W hW hi hi' hr hs hcap)
  have P2 := hide (fun (ta tb : Option Addr) (tc td tr ts : Nat) (TD TS : Nat → Int) (W : World) hi hi' (h1 : (tr : Int) ≤ 1048576) (h2 : (ts : Int) ≤ 1048576) (h3 : tr ≤ tc) => pooledAlong op K hm hK W.heap.size ta tb tr ts tc td TD TS ((r : Int) - 1) z t W (Nat.le_refl _) hi hi' h1 h2 h3)
  have le1 := poolA_le op r s D S ((r : Int) - 2) z t
  have EZ := hide (show poolP op r s D S z t = poolA op (poolA op r s D S ((r : Int) - 2) z t).r (poolA op r s D S ((r : Int) - 2) z t).s (poolA op r s D S ((r : Int) - 2) z t).D (poolA op r s D S ((r : Int) - 2) z t).S ((r : Int) - 1) z t from rfl)
  obtain ⟨T, hT⟩ : ∃ T, poolA op r s D S ((r : Int) - 2) z t = T := ⟨_, rfl⟩
  rw [hT] at P1 EZ le1
  obtain ⟨V, hV⟩ : ∃ V, poolA op T.r T.s T.D T.S ((r : Int) - 1) z t = V := ⟨_, rfl⟩
  rw [hV] at EZ
  have HVV := hide hV
  obtain ⟨x0, x1⟩ := n0
  clear h h' bl m0 g0 hs0 hm hK hT hV
  go_enter Try.func50, Try.ntmps50
  go_wp2_with fail
  clear hW0
  refine (P1.out _ (by have := HS0.out; omega) H.out H'.out).mono ?_
  rintro e w1 ⟨ta, tb, tc, td, rfl, tz, b1, rm⟩
  have TZ := hide tz
  have RM := hide rm
  have z0 := HS0.out
  have M1 := hide (M0.out.below b1 (by omega))
  have G1 := hide (G0.out.below b1 (by omega))
  have B1 := hide (BL.out.trans (b1.mono BL.out.size))
  have s1 : w.heap.size + 1 < w1.heap.size := by have := b1.size; omega
  clear tz rm b1 x0 x1 z0
  go_wp2_with fail
  refine (P2.out ta tb tc td T.r T.s T.D T.S _ TZ.out.d.ints TZ.out.t.ints (by omega) (by omega) RM.out).mono ?_
  rw [HVV.out]
  rintro e w2 ⟨va, vb, vc, vd, rfl, vz, b2, _⟩
  have VZ := hide vz
  have M2 := hide (M1.out.below b2 (by omega))
  have G2 := hide (G1.out.below b2 (by omega))
  have B2 := hide (B1.out.trans (b2.mono B1.out.size))
  clear vz b2
  obtain ⟨y0, y1⟩ := M2.out
  have gg := G2.out
  unfold Free at gg
  go_wp2_with fail
  refine bodyPost_ret (v := .agg #[.slice va V.r vc, .slice vb V.s vd]) (by simp [results, Try.results50, go_sem, y0, y1]) rfl ?_
  show TensR w.heap.size (poolP op r s D S z t) w _ _
  rw [EZ.out]
  exact tens_end VZ.out (P := w.heap.size + 1) (by omega) (by omega) B2.out
set_option maxRecDepth 100000 in
set_option maxHeartbeats 1000000 in
theorem sumPoolF (B : Nat) (a b : Option Addr) (r s cap dap : Nat) (D S : Nat → Int) (z t : Int) (w : World) (hB : B ≤ w.heap.size) (h : Ints B w a r D) (h' : Ints B w b s S) (hr : (r : Int) ≤ 1048576) (hs : (s : Int) ≤ 1048576) (hcap : r ≤ cap) :
    Calls Try.prog 19 #[.agg #[.slice a r cap, .slice b s dap], .int .i64 z, .int .i64 t] w fun e w' => TensR w.heap.size (poolP 1 r s D S z t) w e w' := by
  obtain ⟨W0, hW0⟩ : ∃ W0, (w.alloc (.cells #[.slice a r cap, .slice b s dap] 26)).alloc (.cells #[.slice none 0 0, .slice none 0 0] 26) = W0 := ⟨_, rfl⟩
  have hs0 : W0.heap.size = w.heap.size + 1 + 1 := by rw [← hW0]; simp
  have bl : Below w.heap.size w W0 := by rw [← hW0]; exact ((Below.refl _ _).alloc (Nat.le_refl _) _).alloc (by simp) _
  have n0 : Bx W0 w.heap.size (.slice a r cap) (.slice b s dap) := by rw [← hW0]; exact ⟨by simp [go_sem], by simp [go_sem]⟩
  have m0 : Bx W0 (w.heap.size + 1) (.slice none 0 0) (.slice none 0 0) := by rw [← hW0]; exact ⟨by simp [go_sem], by simp [go_sem]⟩
  have g0 : Free W0 (w.heap.size + 1) := by rw [← hW0]; intro i; simp [go_sem]
  have BL := hide bl
  have HS0 := hide hs0
  have M0 := hide m0
  have G0 := hide g0
  have P1 := hide (pooledF 1 52 mix1 twoV1 B a b r s cap dap D S z t W0 (by omega) (h.below (bl.mono hB)) (h'.below (bl.mono hB)) hr hs hcap)
  obtain ⟨V, hV⟩ : ∃ V, poolP 1 r s D S z t = V := ⟨_, rfl⟩
  rw [hV] at P1 ⊢
  obtain ⟨x0, x1⟩ := n0
  clear h h' bl m0 g0 hs0 hV
  go_enter Try.func19, Try.ntmps19
  go_wp2_with fail
  clear hW0
  refine P1.out.mono ?_
  rintro e w2 ⟨va, vb, vc, vd, rfl, vz, b2⟩
  have VZ := hide vz
  have z0 := HS0.out
  have M2 := hide (M0.out.below b2 (by omega))
  have G2 := hide (G0.out.below b2 (by omega))
  have B2 := hide (BL.out.trans (b2.mono BL.out.size))
  clear vz b2 z0
  obtain ⟨y0, y1⟩ := M2.out
  have gg := G2.out
  unfold Free at gg
  go_wp2_with fail
  refine bodyPost_ret (v := .agg #[.slice va V.r vc, .slice vb V.s vd]) (by simp [results, Try.results19, go_sem, y0, y1]) rfl ?_
  exact tens_end VZ.out (P := w.heap.size + 1) (by have := HS0.out; omega) (by omega) B2.out
theorem twoOf5 (w : World) : Calls Try.prog 51 #[.int .i64 5] w fun e w' => e = .returned (.func (.func 86) #[] #[]) ∧ w' = w := by
  go_enter Try.func51, Try.ntmps51
  go_wp2_with fail
  go_ret
  exact ⟨rfl, rfl⟩
set_option maxRecDepth 100000 in
set_option maxHeartbeats 1000000 in
theorem maxPoolF (B : Nat) (a b : Option Addr) (r s cap dap : Nat) (D S : Nat → Int) (z t : Int) (w : World) (hB : B ≤ w.heap.size) (h : Ints B w a r D) (h' : Ints B w b s S) (hr : (r : Int) ≤ 1048576) (hs : (s : Int) ≤ 1048576) (hcap : r ≤ cap) :
    Calls Try.prog 17 #[.agg #[.slice a r cap, .slice b s dap], .int .i64 z, .int .i64 t] w fun e w' => TensR w.heap.size (poolP 5 r s D S z t) w e w' := by
  obtain ⟨W0, hW0⟩ : ∃ W0, (w.alloc (.cells #[.slice a r cap, .slice b s dap] 26)).alloc (.cells #[.slice none 0 0, .slice none 0 0] 26) = W0 := ⟨_, rfl⟩
  have hs0 : W0.heap.size = w.heap.size + 1 + 1 := by rw [← hW0]; simp
  have bl : Below w.heap.size w W0 := by rw [← hW0]; exact ((Below.refl _ _).alloc (Nat.le_refl _) _).alloc (by simp) _
  have n0 : Bx W0 w.heap.size (.slice a r cap) (.slice b s dap) := by rw [← hW0]; exact ⟨by simp [go_sem], by simp [go_sem]⟩
  have m0 : Bx W0 (w.heap.size + 1) (.slice none 0 0) (.slice none 0 0) := by rw [← hW0]; exact ⟨by simp [go_sem], by simp [go_sem]⟩
  have g0 : Free W0 (w.heap.size + 1) := by rw [← hW0]; intro i; simp [go_sem]
  have BL := hide bl
  have HS0 := hide hs0
  have M0 := hide m0
  have G0 := hide g0
  have P1 := hide (pooledF 5 86 mix5 twoV5 B a b r s cap dap D S z t W0.drew (by show B ≤ W0.heap.size; omega) (h.below (bl.drew.mono hB)) (h'.below (bl.drew.mono hB)) hr hs hcap)
  obtain ⟨V, hV⟩ : ∃ V, poolP 5 r s D S z t = V := ⟨_, rfl⟩
  rw [hV] at P1 ⊢
  have F0 := hide (fun (W : World) (hW : Below W0.drew.heap.size W0.drew W) => show Below W0.heap.size W0 W from (Below.refl _ _).drew.trans hW)
  have F1 := hide (fun (W : World) (hW : Below W0.heap.size W0 W) => n0.below hW (by omega))
  have F4 := hide (fun (W : World) (hW : Below W0.heap.size W0 W) => M0.out.below hW (by omega))
  have F5 := hide (fun (W : World) (hW : Below W0.heap.size W0 W) => G0.out.below hW (by omega))
  obtain ⟨x0, x1⟩ := n0
  clear h h' bl m0 g0 hs0 hV
  go_enter Try.func17, Try.ntmps17
  go_wp2_with fail
  clear hW0
  go_region_held3 (fun w' => w'.cell? ⟨w.heap.size, 0, none⟩ = some (.slice a r cap) ∧ w'.cell? ⟨w.heap.size, 1, none⟩ = some (.slice b s dap))
    ((try dsimp only) <;> (repeat' apply And.intro) <;> (repeat (first | with_reducible assumption | with_reducible apply drew_old | (with_reducible apply set_other; (focus (first | (dsimp only; omega) | (simp; done) | (simp; omega)))) | assumption)))
    (first
    | (go_at_call 51; refine (twoOf5 _).mono ?_; rintro e w1 ⟨rfl, rfl⟩)
    | (go_at_call 50
       refine P1.out.mono ?_
       rintro e w2 ⟨va, vb, vc, vd, rfl, vz, b2⟩
       have b2' := hide (F0.out w2 b2)
       obtain ⟨u0, u1⟩ := F1.out w2 b2'.out
       obtain ⟨y0, y1⟩ := F4.out w2 b2'.out
       have gg := F5.out w2 b2'.out
       unfold Free at gg
       have VZ := hide vz
       clear vz b2))
  all_goals (go_wp2_with fail)
  refine bodyPost_ret (v := .agg #[.slice va V.r vc, .slice vb V.s vd]) (by simp [results, Try.results17, go_sem, y0, y1]) rfl ?_
  exact tens_end VZ.out (P := w.heap.size + 1) (by show w.heap.size + 1 < W0.heap.size; have := HS0.out; omega) (by omega) (BL.out.trans (b2'.out.mono BL.out.size))
end Vo
end Go.Proofs.Ytdenfcckmpkomaa
