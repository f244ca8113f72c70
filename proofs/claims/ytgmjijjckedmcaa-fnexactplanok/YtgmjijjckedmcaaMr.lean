/- A nest that was copied stays, whatever becomes of what lay there before. -/
import Derived.Test.YtgmjijjckedmcaaJf
namespace Go.Proofs.Ytgmjijjckedmcaa
namespace Vo
open Go.ChangeShapes Go.WideShapes Go.ChangeAt Go.RowKit Go.Joins Go.Sort
open Vl Vp
set_option linter.unusedVariables false
set_option linter.unusedSimpArgs false
def NCopyK (v : NV) (w : World) (e : Ending) (w' : World) : Prop := ∃ u : NV, e = .returned u.val ∧ (∀ W', Kept (fun q => q < w.heap.size) w' W' → u.read W'.heap.size W') ∧ NSame v u ∧ Below w.heap.size w w'
set_option maxHeartbeats 1000000 in
theorem szNestK (B : Nat) (v : NV) (l : Int) (w : World) (hB : B ≤ w.heap.size) (h : v.read B w) (hl : v.len 9223372036854775807) (l0 : 0 ≤ l) (l1 : l ≤ 1048576) :
    Calls Try.prog 5 #[v.val, .int .i64 l] w fun e w' => ∃ x : Int, e = .returned (.int .i64 x) ∧ (0 ≤ x → v.len 1048576 ∧ x ≤ 1048576) ∧ Below w.heap.size w w' := by
  obtain ⟨sa, sn, scap, SD, ia, i, icap, ID, fa, fn, fcap, FF, ka, kn, kcap, KK, oa, on, ocap, OD⟩ := v
  obtain ⟨_, _, h3, h4, _⟩ := h
  obtain ⟨l2, l3, ⟨l4, l5⟩, ⟨l6, l7⟩, l8⟩ := hl
  have bl := hide (show Below w.heap.size w (w.alloc (.cells #[.slice sa sn scap, .slice ia i icap, .slice fa fn fcap, .slice ka kn kcap, .slice oa on ocap] 26)) from (Below.refl _ _).alloc (Nat.le_refl _) _)
  have H3 := hide h3
  have H4 := hide h4
  have L5 := hide l5
  have L7 := hide l7
  clear h3 h4 l5 l7
  unfold NV.val
  dsimp only at *
  go_enter Try.func5, Try.ntmps5
  go_wp2_with fail
  refine (szIntS sa sn scap l _ l0 l1 l2).mono ?_; rintro e w1 ⟨x, rfl, hx, rfl⟩
  have HX := hide hx
  clear hx
  by_cases hx0 : x < 0
  · go_wp2_with fail
    go_ret
    exact ⟨_, rfl, fun h => by omega, bl.out⟩
  have hx0' : decide (x < 0) = false := by rw [decide_eq_false_iff_not]; exact hx0
  have hxl : x ≤ 1048576 := by have := HX.out; unfold Sz at this; omega
  have hx1 : 0 ≤ x := by omega
  clear hx0
  go_wp2_with fail
  refine (szIntS ia i icap x _ hx1 hxl l3).mono ?_; rintro e w1 ⟨y, rfl, hy, rfl⟩
  have HY := hide hy
  clear hy
  by_cases hy0 : y < 0
  · go_wp2_with fail
    go_ret
    exact ⟨_, rfl, fun h => by omega, bl.out⟩
  have hy0' : decide (y < 0) = false := by rw [decide_eq_false_iff_not]; exact hy0
  have hyl : y ≤ 1048576 := by have := HY.out; unfold Sz at this; omega
  have hy1 : 0 ≤ y := by omega
  clear hy0
  go_wp2_with fail
  refine (szFixS B fa fn fcap FF y _ (Nat.le_trans hB bl.out.size) (H3.out.below (bl.out.mono hB)) l4 L5.out hy1 hyl).mono ?_; rintro e w2 ⟨z, rfl, hz, b2⟩
  have HZ := hide hz
  have hc := old_cells b2
  have c0 := fun i => hc w.heap.size i (by simp)
  have BL2 := hide (bl.out.trans (b2.mono bl.out.size))
  have ws2 : w.heap.size < w2.heap.size := by have := b2.size; simp at this; omega
  clear hz b2 hc
  by_cases hz0 : z < 0
  · go_wp2_with fail
    go_ret
    exact ⟨_, rfl, fun h => by omega, BL2.out⟩
  have hz0' : decide (z < 0) = false := by rw [decide_eq_false_iff_not]; exact hz0
  have hz1 : 0 ≤ z := by omega
  obtain ⟨hzl, zn, zs⟩ := HZ.out hz1
  have ZS := hide zs
  clear hz0 zs
  go_wp2_with fail
  refine (szKernelS B ka kn kcap KK z _ (Nat.le_trans hB BL2.out.size) (H4.out.below (BL2.out.mono hB)) l6 L7.out hz1 hzl).mono ?_; rintro e w3 ⟨t, rfl, ht, b3⟩
  have HT := hide ht
  have hc := old_cells b3
  have c1 := fun i => hc w.heap.size i (by omega)
  have BL3 := hide (BL2.out.trans (b3.mono BL2.out.size))
  clear ht b3 hc
  by_cases ht0 : t < 0
  · go_wp2_with fail
    go_ret
    exact ⟨_, rfl, fun h => by omega, BL3.out⟩
  have ht0' : decide (t < 0) = false := by rw [decide_eq_false_iff_not]; exact ht0
  have ht1 : 0 ≤ t := by omega
  obtain ⟨htl, tn, ts⟩ := HT.out ht1
  have TS := hide ts
  clear ht0 ts
  go_wp2_with fail
  refine (szIntS oa on ocap t _ ht1 htl l8).mono ?_; rintro e w4 ⟨q, rfl, hq, rfl⟩
  have HQ := hide hq
  clear hq
  by_cases hq0 : q < 0
  · go_wp2_with fail
    go_ret
    exact ⟨_, rfl, fun h => by omega, BL3.out⟩
  have hq0' : decide (q < 0) = false := by rw [decide_eq_false_iff_not]; exact hq0
  go_wp2_with fail
  go_ret
  refine ⟨_, rfl, fun _ => ?_, BL3.out⟩
  have e1 := HX.out
  have e2 := HY.out
  have e3 := HQ.out
  unfold Sz at e1 e2 e3
  exact ⟨⟨by show (sn : Int) ≤ 1048576; omega, by show (i : Int) ≤ 1048576; omega, ⟨zn, flen_of ZS.out⟩, ⟨tn, TS.out⟩, by show (on : Int) ≤ 1048576; omega⟩, by omega⟩
set_option maxRecDepth 100000 in
set_option maxHeartbeats 2000000 in
theorem toNestK (B : Nat) (v : NV) (w : World) (hB : B ≤ w.heap.size) (h : v.read B w) (hl : v.len 1048576) :
    Calls Try.prog 7 #[v.val] w (NCopyK v w) := by
  obtain ⟨sa, sn, scap, SD, ia, i, icap, ID, fa, fn, fcap, FF, ka, kn, kcap, KK, oa, on, ocap, OD⟩ := v
  obtain ⟨h1, h2, h3, h4, h5⟩ := h
  obtain ⟨l2, l3, ⟨l4, l5⟩, ⟨l6, l7⟩, l8⟩ := hl
  have H1 := hide h1
  have H2 := hide h2
  have H3 := hide h3
  have H4 := hide h4
  have H5 := hide h5
  have L5 := hide l5
  have L7 := hide l7
  clear h1 h2 h3 h4 h5 l5 l7
  unfold NV.val
  dsimp only at *
  obtain ⟨W0, hW0⟩ : ∃ W0, ((w.alloc (.cells #[.slice sa sn scap, .slice ia i icap, .slice fa fn fcap, .slice ka kn kcap, .slice oa on ocap] 26)).alloc (.cells #[.slice none 0 0, .slice none 0 0, .slice none 0 0, .slice none 0 0, .slice none 0 0] 33)).alloc (.cells #[.slice none 0 0, .slice none 0 0, .slice none 0 0, .slice none 0 0, .slice none 0 0] 33) = W0 := ⟨_, rfl⟩
  have k0 := TN.new w (.slice sa sn scap) (.slice ia i icap) (.slice fa fn fcap) (.slice ka kn kcap) (.slice oa on ocap) (.slice none 0 0) (.slice none 0 0) (.slice none 0 0) (.slice none 0 0) (.slice none 0 0) 26 33
  rw [hW0] at k0
  have K0 := hide k0
  obtain ⟨p0, p1, p2, p3, p4⟩ := k0.x
  clear k0
  go_enter Try.func7, Try.ntmps7
  go_wp2_with fail
  clear hW0 p0 p1 p2 p3 p4
  have z0 := K0.out.z
  refine (toIntS B sa sn scap SD _ (H1.out.below (K0.out.b.mono hB)) (Nat.le_trans hB K0.out.b.size) l2).mono ?_
  rintro e w1 ⟨rfl, q1, s1, b1⟩
  have K1 := hide (K0.out.below b1)
  have Q1 := hide q1
  clear b1 q1
  obtain ⟨a0, a1, a2, a3, a4⟩ := K1.out.x
  obtain ⟨t0, t1, t2, t3, t4⟩ := K1.out.t
  have g0 := K1.out.g
  unfold Fr at g0
  go_wp2_with fail
  clear a0 a1 a2 a3 a4 t0 t1 t2 t3 t4 g0
  have kp := Kept.setCell w1 ⟨w.heap.size + 1 + 1, 0, none⟩ (.slice (some ⟨W0.heap.size, 0, none⟩) sn sn)
  have J1 := hide (K1.out.put 0 (.slice (some ⟨W0.heap.size, 0, none⟩) sn sn) (K1.out.t.set _).1)
  have Q1' := hide (Q1.out.kept kp (by show ¬ W0.heap.size = w.heap.size + 1 + 1; omega))
  have y1 := Nat.lt_of_lt_of_le s1 kp.size
  clear K1 Q1 s1 kp
  generalize w1.setCell ⟨w.heap.size + 1 + 1, 0, none⟩ (.slice (some ⟨W0.heap.size, 0, none⟩) sn sn) = E1 at *
  refine (toIntS B ia i icap ID _ (H2.out.below (J1.out.b.mono hB)) (Nat.le_trans hB J1.out.b.size) l3).mono ?_
  rintro e w2 ⟨rfl, q2, s2, b2⟩
  have K2 := hide (J1.out.below b2)
  have Q1 := hide (Q1'.out.below b2 y1)
  have Q2 := hide q2
  clear b2 q2 J1 Q1'
  obtain ⟨a0, a1, a2, a3, a4⟩ := K2.out.x
  obtain ⟨t0, t1, t2, t3, t4⟩ := K2.out.t
  have g0 := K2.out.g
  unfold Fr at g0
  go_wp2_with fail
  clear a0 a1 a2 a3 a4 t0 t1 t2 t3 t4 g0
  have kp := Kept.setCell w2 ⟨w.heap.size + 1 + 1, 1, none⟩ (.slice (some ⟨E1.heap.size, 0, none⟩) i i)
  have J2 := hide (K2.out.put 1 (.slice (some ⟨E1.heap.size, 0, none⟩) i i) (K2.out.t.set _).2.1)
  have Q1' := hide (Q1.out.kept kp (by show ¬ W0.heap.size = w.heap.size + 1 + 1; omega))
  have Q2' := hide (Q2.out.kept kp (by show ¬ E1.heap.size = w.heap.size + 1 + 1; omega))
  have y2 := Nat.lt_of_lt_of_le s2 kp.size
  clear K2 Q1 Q2 s2 kp
  generalize w2.setCell ⟨w.heap.size + 1 + 1, 1, none⟩ (.slice (some ⟨E1.heap.size, 0, none⟩) i i) = E2 at *
  refine (toFixS B fa fn fcap FF _ (Nat.le_trans hB J2.out.b.size) (H3.out.below (J2.out.b.mono hB)) l4 L5.out).mono ?_
  rintro e w3 ⟨U, lim, rfl, q3, s3, b3⟩
  have K3 := hide (J2.out.below b3)
  have Q1 := hide (Q1'.out.below b3 (by omega))
  have Q2 := hide (Q2'.out.below b3 y2)
  have y3 := q3.lt
  have Q3 := hide q3
  have S3 := hide s3
  clear b3 q3 s3 J2 Q1' Q2'
  obtain ⟨a0, a1, a2, a3, a4⟩ := K3.out.x
  obtain ⟨t0, t1, t2, t3, t4⟩ := K3.out.t
  have g0 := K3.out.g
  unfold Fr at g0
  go_wp2_with fail
  clear a0 a1 a2 a3 a4 t0 t1 t2 t3 t4 g0
  have kp := Kept.setCell w3 ⟨w.heap.size + 1 + 1, 2, none⟩ (.slice (some ⟨E2.heap.size, 0, none⟩) fn fn)
  have J3 := hide (K3.out.put 2 (.slice (some ⟨E2.heap.size, 0, none⟩) fn fn) (K3.out.t.set _).2.2.1)
  have Q1' := hide (Q1.out.kept kp (by show ¬ W0.heap.size = w.heap.size + 1 + 1; omega))
  have Q2' := hide (Q2.out.kept kp (by show ¬ E1.heap.size = w.heap.size + 1 + 1; omega))
  have Q3' := hide (Q3.out.kept kp (fun q c c' => by have c' : q = w.heap.size + 1 + 1 := c'; omega))
  have y4 := Nat.lt_of_lt_of_le y3 kp.size
  clear K3 Q1 Q2 Q3 y3 kp
  generalize w3.setCell ⟨w.heap.size + 1 + 1, 2, none⟩ (.slice (some ⟨E2.heap.size, 0, none⟩) fn fn) = E3 at *
  refine (toKernelS B ka kn kcap KK _ (Nat.le_trans hB J3.out.b.size) (H4.out.below (J3.out.b.mono hB)) l6 L7.out).mono ?_
  rintro e w4 ⟨V, rfl, q4, s4, b4⟩
  have K4 := hide (J3.out.below b4)
  have Q1 := hide (Q1'.out.below b4 (by omega))
  have Q2 := hide (Q2'.out.below b4 (by omega))
  have Q3 := hide (Q3'.out.below b4)
  have y5 := q4.lt
  have Q4 := hide q4
  have S4 := hide s4
  clear b4 q4 s4 J3 Q1' Q2' Q3'
  obtain ⟨a0, a1, a2, a3, a4⟩ := K4.out.x
  obtain ⟨t0, t1, t2, t3, t4⟩ := K4.out.t
  have g0 := K4.out.g
  unfold Fr at g0
  go_wp2_with fail
  clear a0 a1 a2 a3 a4 t0 t1 t2 t3 t4 g0
  have kp := Kept.setCell w4 ⟨w.heap.size + 1 + 1, 3, none⟩ (.slice (some ⟨E3.heap.size, 0, none⟩) kn kn)
  have J4 := hide (K4.out.put 3 (.slice (some ⟨E3.heap.size, 0, none⟩) kn kn) (K4.out.t.set _).2.2.2.1)
  have Q1' := hide (Q1.out.kept kp (by show ¬ W0.heap.size = w.heap.size + 1 + 1; omega))
  have Q2' := hide (Q2.out.kept kp (by show ¬ E1.heap.size = w.heap.size + 1 + 1; omega))
  have Q3' := hide (Q3.out.kept kp (fun q c c' => by have c' : q = w.heap.size + 1 + 1 := c'; omega))
  have Q4' := hide (Q4.out.kept kp (fun q c c' => by have c' : q = w.heap.size + 1 + 1 := c'; omega))
  have y6 := Nat.lt_of_lt_of_le y5 kp.size
  clear K4 Q1 Q2 Q3 Q4 y5 kp
  generalize w4.setCell ⟨w.heap.size + 1 + 1, 3, none⟩ (.slice (some ⟨E3.heap.size, 0, none⟩) kn kn) = E4 at *
  refine (toIntS B oa on ocap OD _ (H5.out.below (J4.out.b.mono hB)) (Nat.le_trans hB J4.out.b.size) l8).mono ?_
  rintro e w5 ⟨rfl, q5, s5, b5⟩
  have K5 := hide (J4.out.below b5)
  have Q1 := hide (Q1'.out.below b5 (by omega))
  have Q2 := hide (Q2'.out.below b5 (by omega))
  have Q3 := hide (Q3'.out.below b5)
  have Q4 := hide (Q4'.out.below b5)
  have Q5 := hide q5
  clear b5 q5 J4 Q1' Q2' Q3' Q4'
  obtain ⟨a0, a1, a2, a3, a4⟩ := K5.out.x
  obtain ⟨t0, t1, t2, t3, t4⟩ := K5.out.t
  obtain ⟨r0, r1, r2, r3, r4⟩ := K5.out.r
  have g0 := K5.out.g
  have f0 := K5.out.f
  have BB := hide K5.out.b
  unfold Fr at g0 f0
  clear K5
  go_wp2_with fail
  refine bodyPost_ret (v := NV.val ⟨some ⟨W0.heap.size, 0, none⟩, sn, sn, SD, some ⟨E1.heap.size, 0, none⟩, i, i, ID, some ⟨E2.heap.size, 0, none⟩, fn, fn, U, some ⟨E3.heap.size, 0, none⟩, kn, kn, V, some ⟨E4.heap.size, 0, none⟩, on, on, OD⟩) (by simp [results, Try.results7, go_sem, NV.val, r0, r1, r2, r3, r4]) rfl ?_
  have fin : ∀ F, Kept (fun q => q = w.heap.size + 1 ∨ q = w.heap.size + 1 + 1) w5 F → NCopyK ⟨sa, sn, scap, SD, ia, i, icap, ID, fa, fn, fcap, FF, ka, kn, kcap, KK, oa, on, ocap, OD⟩ w (.returned (NV.val ⟨some ⟨W0.heap.size, 0, none⟩, sn, sn, SD, some ⟨E1.heap.size, 0, none⟩, i, i, ID, some ⟨E2.heap.size, 0, none⟩, fn, fn, U, some ⟨E3.heap.size, 0, none⟩, kn, kn, V, some ⟨E4.heap.size, 0, none⟩, on, on, OD⟩)) F := by
    intro F kf
    refine ⟨_, rfl, fun W' k' => ?_, ⟨⟨rfl, rfl⟩, ⟨rfl, rfl⟩, ⟨rfl, S3.out⟩, ⟨rfl, S4.out⟩, ⟨rfl, rfl⟩⟩, BB.out.trans (kf.below BB.out.size (fun q c => by omega))⟩
    have kk : Kept (fun q => q < w.heap.size + 1 + 1 + 1) w5 W' := (kf.mono (fun q _ e => by have e : q = w.heap.size + 1 ∨ q = w.heap.size + 1 + 1 := e; show q < w.heap.size + 1 + 1 + 1; omega)).trans (k'.mono (fun q _ e => by have e : q < w.heap.size := e; show q < w.heap.size + 1 + 1 + 1; omega))
    have sz := kk.size
    exact ⟨(Q1.out.kept kk (by omega)).ints (by omega), (Q2.out.kept kk (by omega)).ints (by omega), (Q3.out.kept kk (fun q c c' => by omega)).read, (Q4.out.kept kk (fun q c c' => by omega)).read, (Q5.out.kept kk (by omega)).ints (by omega)⟩
  have big : ∀ (W : World) (p : Nat) (j : Nat) (x : Value), (p = w.heap.size + 1 ∨ p = w.heap.size + 1 + 1) → Kept (fun q => q = w.heap.size + 1 ∨ q = w.heap.size + 1 + 1) W (W.setCell ⟨p, j, none⟩ x) := fun W p j x hp => (Kept.setCell W ⟨p, j, none⟩ x).mono (fun q _ e => by have e : q = p := e; rw [e]; exact hp)
  refine fin _ ?_
  refine Vl.Kept.trans ?_ (big _ _ _ _ (.inl rfl))
  refine Vl.Kept.trans ?_ (big _ _ _ _ (.inl rfl))
  refine Vl.Kept.trans ?_ (big _ _ _ _ (.inl rfl))
  refine Vl.Kept.trans ?_ (big _ _ _ _ (.inl rfl))
  refine Vl.Kept.trans ?_ (big _ _ _ _ (.inl rfl))
  exact big _ _ _ _ (.inr rfl)
end Vo
end Go.Proofs.Ytgmjijjckedmcaa
