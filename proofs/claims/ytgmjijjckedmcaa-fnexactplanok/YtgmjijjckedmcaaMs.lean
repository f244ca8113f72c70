/- Plans in memory: measured, copied, compared; plans that come in. -/
import Derived.Test.YtgmjijjckedmcaaMq
import Derived.Test.YtgmjijjckedmcaaMr
import Derived.Test.YtgmjijjckedmcaaJr
namespace Go.Proofs.Ytgmjijjckedmcaa
namespace Vo
open Go.ChangeShapes Go.WideShapes Go.ChangeAt Go.RowKit Go.Joins Go.Sort
open Vl Vp
set_option linter.unusedVariables false
set_option linter.unusedSimpArgs false
set_option maxHeartbeats 1000000 in
theorem szPlan (B : Nat) (p : PV) (l : Int) (w : World) (hB : B ≤ w.heap.size) (h : p.read B w) (hl : p.len 9223372036854775807) (l0 : 0 ≤ l) (l1 : l ≤ 1048576) :
    Calls Try.prog 14 #[p.val, .int .i64 l] w fun e w' => ∃ x : Int, e = .returned (.int .i64 x) ∧ (0 ≤ x → p.len 1048576) ∧ Below w.heap.size w w' := by
  obtain ⟨W1, hW1⟩ : ∃ W1, w.alloc (.cells #[.slice p.v.sa p.v.sn p.v.scap, .slice p.v.ia p.v.i p.v.icap, .slice p.v.fa p.v.fn p.v.fcap, .slice p.v.ka p.v.kn p.v.kcap, .slice p.v.oa p.v.on p.v.ocap, .slice p.oa p.r p.ocap, .int .i64 p.ar] 41) = W1 := ⟨_, rfl⟩
  have B1 := hide (show Below w.heap.size w W1 by rw [← hW1]; exact (Below.refl _ _).alloc (Nat.le_refl _) _)
  have c7 := Cells7.new w (.slice p.v.sa p.v.sn p.v.scap) (.slice p.v.ia p.v.i p.v.icap) (.slice p.v.fa p.v.fn p.v.fcap) (.slice p.v.ka p.v.kn p.v.kcap) (.slice p.v.oa p.v.on p.v.ocap) (.slice p.oa p.r p.ocap) (.int .i64 p.ar) 41
  rw [hW1] at c7
  have C1 := hide c7
  have z1 : w.heap.size < W1.heap.size := World.block_lt_of_cell? _ _ c7.1
  have CN := hide (fun x h0 h1 => szNestK B p.v x W1 (Nat.le_trans hB B1.out.size) (h.1.below (B1.out.mono hB)) hl.1 h0 h1)
  unfold NV.val at CN
  have rl := hl.2
  obtain ⟨p0, p1, p2, p3, p4, p5, p6⟩ := c7
  have C2 := hide (CN.out l l0 l1)
  unfold PV.val
  clear h hl CN
  go_enter Try.func14, Try.ntmps14
  go_wp2_with fail
  refine C2.out.mono ?_
  rintro e w1 ⟨x, rfl, hx, b1⟩
  have HX := hide hx
  have BB := hide (B1.out.trans (b1.mono B1.out.size))
  have C3 := hide (C1.out.below b1 z1)
  clear hx b1 p0 p1 p2 p3 p4 p5 p6 hW1 C2
  obtain ⟨p0, p1, p2, p3, p4, p5, p6⟩ := C3.out
  by_cases hx0 : x < 0
  · go_wp2_with fail
    go_ret
    exact ⟨_, rfl, fun h => by omega, BB.out⟩
  have hx0' : decide (x < 0) = false := by rw [decide_eq_false_iff_not]; exact hx0
  have hx1 : 0 ≤ x := by omega
  have LN := hide (HX.out hx1).1
  have hxl := (HX.out hx1).2
  clear hx0
  go_wp2_with fail
  refine (szIntS p.oa p.r p.ocap x _ hx1 hxl rl).mono ?_
  rintro e w2 ⟨y, rfl, hy, hw2⟩
  have hw2 := hw2.symm
  subst hw2
  have HY := hide hy
  clear hy
  by_cases hy0 : y < 0
  · go_wp2_with fail
    go_ret
    exact ⟨_, rfl, fun h => by omega, BB.out⟩
  have hy0' : decide (y < 0) = false := by rw [decide_eq_false_iff_not]; exact hy0
  go_wp2_with fail
  go_ret
  refine ⟨_, rfl, fun _ => ⟨LN.out, ?_⟩, BB.out⟩
  have := HY.out
  unfold Sz at this
  omega
/-- what comes of copying a plan -/
def PSame (p u : PV) : Prop := NSame p.v u.v ∧ u.r = p.r ∧ u.O = p.O ∧ u.ar = p.ar
def PCopy (p : PV) (w : World) (e : Ending) (w' : World) : Prop := ∃ u : PV, e = .returned u.val ∧ u.read w'.heap.size w' ∧ PSame p u ∧ Below w.heap.size w w'
theorem PSame.both {p u1 u2 : PV} (h : PSame p u1) (h' : PSame p u2) : PSame u1 u2 := ⟨h.1.both h'.1, by rw [h.2.1, h'.2.1], by rw [h.2.2.1, h'.2.2.1], by rw [h.2.2.2, h'.2.2.2]⟩
theorem PSame.len {p u : PV} {m : Int} (h : PSame p u) (hl : p.len m) : u.len m := ⟨h.1.len hl.1, by rw [h.2.1]; exact hl.2⟩
set_option maxRecDepth 100000 in
set_option maxHeartbeats 4000000 in
theorem toPlan (B : Nat) (p : PV) (w : World) (hB : B ≤ w.heap.size) (h : p.read B w) (hl : p.len 1048576) :
    Calls Try.prog 16 #[p.val] w (PCopy p w) := by
  have HR := hide h
  have L1 := hide hl.1
  have l2 := hl.2
  clear h hl
  obtain ⟨W0, hW0⟩ : ∃ W0, ((w.alloc (.cells #[.slice p.v.sa p.v.sn p.v.scap, .slice p.v.ia p.v.i p.v.icap, .slice p.v.fa p.v.fn p.v.fcap, .slice p.v.ka p.v.kn p.v.kcap, .slice p.v.oa p.v.on p.v.ocap, .slice p.oa p.r p.ocap, .int .i64 p.ar] 41)).alloc (.cells #[.slice none 0 0, .slice none 0 0, .slice none 0 0, .slice none 0 0, .slice none 0 0, .slice none 0 0, .int .i64 0] 45)).alloc (.cells #[.slice none 0 0, .slice none 0 0, .slice none 0 0, .slice none 0 0, .slice none 0 0, .slice none 0 0, .int .i64 0] 45) = W0 := ⟨_, rfl⟩
  have k0 := TK.new w (.slice p.v.sa p.v.sn p.v.scap) (.slice p.v.ia p.v.i p.v.icap) (.slice p.v.fa p.v.fn p.v.fcap) (.slice p.v.ka p.v.kn p.v.kcap) (.slice p.v.oa p.v.on p.v.ocap) (.slice p.oa p.r p.ocap) (.int .i64 p.ar) (.slice none 0 0) (.slice none 0 0) (.slice none 0 0) (.slice none 0 0) (.slice none 0 0) (.slice none 0 0) (.int .i64 0) 41 45
  rw [hW0] at k0
  have K0 := hide k0
  have z0 := k0.z
  obtain ⟨p0, p1, p2, p3, p4, p5, p6⟩ := k0.x
  have CN := hide (toNestK B p.v W0 (Nat.le_trans hB k0.b.size) (HR.out.1.below (k0.b.mono hB)) L1.out)
  clear k0
  unfold NV.val at CN
  unfold PV.val
  go_enter Try.func16, Try.ntmps16
  go_wp2_with fail
  refine CN.out.mono ?_
  rintro e w1 ⟨⟨sa1, sn1, sc1, SD1, ia1, i1, ic1, ID1, fa1, fn1, fc1, FF1, ka1, kn1, kc1, KK1, oa1, on1, oc1, OD1⟩, rfl, ku, su, b1⟩
  dsimp only [NV.val]
  have K1 := hide (K0.out.below b1)
  have SU := hide su
  have KU := hide ku
  clear b1 su ku p0 p1 p2 p3 p4 p5 p6 hW0 CN
  obtain ⟨a0, a1, a2, a3, a4, a5, a6⟩ := K1.out.x
  obtain ⟨t0, t1, t2, t3, t4, t5, t6⟩ := K1.out.t
  have g0 := K1.out.g
  unfold Fr at g0
  go_wp2_with fail
  clear a0 a1 a2 a3 a4 a5 a6 t0 t1 t2 t3 t4 t5 t6 g0
  have P0 := K1.out.put 0 (.slice sa1 sn1 sc1) (K1.out.t.set _).1
  have P1 := P0.put 1 (.slice ia1 i1 ic1) (P0.t.set _).2.1
  have P2 := P1.put 2 (.slice fa1 fn1 fc1) (P1.t.set _).2.2.1
  have P3 := P2.put 3 (.slice ka1 kn1 kc1) (P2.t.set _).2.2.2.1
  have P4 := P3.put 4 (.slice oa1 on1 oc1) (P3.t.set _).2.2.2.2.1
  have J1 := hide P4
  have kp : Kept (· = w.heap.size + 1 + 1) w1 (((((w1.setCell ⟨w.heap.size + 1 + 1, 0, none⟩ (.slice sa1 sn1 sc1)).setCell ⟨w.heap.size + 1 + 1, 1, none⟩ (.slice ia1 i1 ic1)).setCell ⟨w.heap.size + 1 + 1, 2, none⟩ (.slice fa1 fn1 fc1)).setCell ⟨w.heap.size + 1 + 1, 3, none⟩ (.slice ka1 kn1 kc1)).setCell ⟨w.heap.size + 1 + 1, 4, none⟩ (.slice oa1 on1 oc1)) := ((((Kept.setCell w1 ⟨w.heap.size + 1 + 1, 0, none⟩ (.slice sa1 sn1 sc1)).trans (Kept.setCell _ ⟨w.heap.size + 1 + 1, 1, none⟩ (.slice ia1 i1 ic1))).trans (Kept.setCell _ ⟨w.heap.size + 1 + 1, 2, none⟩ (.slice fa1 fn1 fc1))).trans (Kept.setCell _ ⟨w.heap.size + 1 + 1, 3, none⟩ (.slice ka1 kn1 kc1))).trans (Kept.setCell _ ⟨w.heap.size + 1 + 1, 4, none⟩ (.slice oa1 on1 oc1))
  have KE := hide (fun (W' : World) (k' : Kept (fun q => q < W0.heap.size) (((((w1.setCell ⟨w.heap.size + 1 + 1, 0, none⟩ (.slice sa1 sn1 sc1)).setCell ⟨w.heap.size + 1 + 1, 1, none⟩ (.slice ia1 i1 ic1)).setCell ⟨w.heap.size + 1 + 1, 2, none⟩ (.slice fa1 fn1 fc1)).setCell ⟨w.heap.size + 1 + 1, 3, none⟩ (.slice ka1 kn1 kc1)).setCell ⟨w.heap.size + 1 + 1, 4, none⟩ (.slice oa1 on1 oc1)) W') => KU.out W' ((kp.mono (fun q _ e => by have e : q = w.heap.size + 1 + 1 := e; show q < W0.heap.size; omega)).trans k'))
  clear P0 P1 P2 P3 P4 K1 KU kp
  generalize (((((w1.setCell ⟨w.heap.size + 1 + 1, 0, none⟩ (.slice sa1 sn1 sc1)).setCell ⟨w.heap.size + 1 + 1, 1, none⟩ (.slice ia1 i1 ic1)).setCell ⟨w.heap.size + 1 + 1, 2, none⟩ (.slice fa1 fn1 fc1)).setCell ⟨w.heap.size + 1 + 1, 3, none⟩ (.slice ka1 kn1 kc1)).setCell ⟨w.heap.size + 1 + 1, 4, none⟩ (.slice oa1 on1 oc1)) = E1 at *
  refine (toIntS B p.oa p.r p.ocap p.O _ (HR.out.2.1.below (J1.out.b.mono hB)) (Nat.le_trans hB J1.out.b.size) l2).mono ?_
  rintro e w2 ⟨rfl, q2, s2, b2⟩
  have K2 := hide (J1.out.below b2)
  have KE2 := hide (fun (W' : World) (k' : Kept (fun q => q < W0.heap.size) w2 W') => KE.out W' ((Kept.of_below b2).trans k'))
  have Q2 := hide q2
  have zE := J1.out.z
  clear b2 q2 J1 KE
  obtain ⟨a0, a1, a2, a3, a4, a5, a6⟩ := K2.out.x
  obtain ⟨t0, t1, t2, t3, t4, t5, t6⟩ := K2.out.t
  obtain ⟨r0, r1, r2, r3, r4, r5, r6⟩ := K2.out.r
  have g0 := K2.out.g
  have f0 := K2.out.f
  have BB := hide K2.out.b
  unfold Fr at g0 f0
  clear K2
  go_wp2_with fail
  refine bodyPost_ret (v := PV.val ⟨⟨sa1, sn1, sc1, SD1, ia1, i1, ic1, ID1, fa1, fn1, fc1, FF1, ka1, kn1, kc1, KK1, oa1, on1, oc1, OD1⟩, some ⟨E1.heap.size, 0, none⟩, p.r, p.r, p.O, p.ar⟩) (by simp [results, Try.results16, go_sem, PV.val, r0, r1, r2, r3, r4, r5, r6]) rfl ?_
  have fin : ∀ F, Kept (fun q => q = w.heap.size + 1 ∨ q = w.heap.size + 1 + 1) w2 F → PCopy p w (.returned (PV.val ⟨⟨sa1, sn1, sc1, SD1, ia1, i1, ic1, ID1, fa1, fn1, fc1, FF1, ka1, kn1, kc1, KK1, oa1, on1, oc1, OD1⟩, some ⟨E1.heap.size, 0, none⟩, p.r, p.r, p.O, p.ar⟩)) F := by
    intro F kf
    have sz := kf.size
    exact ⟨_, rfl, ⟨KE2.out F (kf.mono (fun q _ e => by have e : q = w.heap.size + 1 ∨ q = w.heap.size + 1 + 1 := e; show q < W0.heap.size; omega)), (Q2.out.kept kf (by omega)).ints (by omega), HR.out.2.2⟩, ⟨SU.out, rfl, rfl, rfl⟩, BB.out.trans (kf.below BB.out.size (fun q c => by omega))⟩
  have big : ∀ (W : World) (p : Nat) (i : Nat) (v : Value), (p = w.heap.size + 1 ∨ p = w.heap.size + 1 + 1) → Kept (fun q => q = w.heap.size + 1 ∨ q = w.heap.size + 1 + 1) W (W.setCell ⟨p, i, none⟩ v) := fun W p i v hp => (Kept.setCell W ⟨p, i, none⟩ v).mono (fun q _ e => by have e : q = p := e; rw [e]; exact hp)
  refine fin _ ?_
  refine Vl.Kept.trans ?_ (big _ _ _ _ (.inl rfl))
  refine Vl.Kept.trans ?_ (big _ _ _ _ (.inl rfl))
  refine Vl.Kept.trans ?_ (big _ _ _ _ (.inl rfl))
  refine Vl.Kept.trans ?_ (big _ _ _ _ (.inl rfl))
  refine Vl.Kept.trans ?_ (big _ _ _ _ (.inl rfl))
  refine Vl.Kept.trans ?_ (big _ _ _ _ (.inl rfl))
  refine Vl.Kept.trans ?_ (big _ _ _ _ (.inl rfl))
  refine Vl.Kept.trans ?_ (big _ _ _ _ (.inr rfl))
  exact big _ _ _ _ (.inr rfl)
end Vo
end Go.Proofs.Ytgmjijjckedmcaa
