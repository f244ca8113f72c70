/- Places in order of lives: the greatest first, then what begins first. -/
import Derived.Test.YtbdcbanbnbaoiaaSz
import Derived.Test.YtbdcbanbnbaoiaaMb
import Derived.Test.YtbdcbanbnbaoiaaQt
namespace Go.Proofs.Ytbdcbanbnbaoiaa
namespace Vo
open Go.ChangeShapes Go.WideShapes Go.ChangeAt Go.RowKit Go.Joins Go.Sort
open Vl Vp
set_option linter.unusedVariables false
set_option linter.unusedSimpArgs false
/-- the key of a life -/
def kyM (x : MV) : Int := x.f - x.s * 1000
def keyM (C : Nat → MV) (p : Int) : Int := kyM (C p.toNat)
theorem cmpI_rng (x y : Int) : -1 ≤ cmpI x y ∧ cmpI x y ≤ 1 := by
  unfold cmpI
  by_cases a : x < y <;> by_cases b : y < x <;> simp [a, b]
def orI (x y : Int) : Int := if x ≠ 0 then x else y
theorem or_key {x y : MV} (hx : MOk x) (hy : MOk y) : orI (cmpI y.s x.s) (cmpI x.f y.f) = cmpI (kyM x) (kyM y) := by
  have h1 := hx.1; have h2 := hx.2; have h3 := hy.1; have h4 := hy.2
  unfold orI cmpI kyM
  by_cases c1 : y.s < x.s
  · rw [if_pos c1, if_pos (show x.f - x.s * 1000 < y.f - y.s * 1000 by omega)]; rfl
  · by_cases c2 : x.s < y.s
    · rw [if_neg c1, if_pos c2, if_neg (show ¬ (x.f - x.s * 1000 < y.f - y.s * 1000) by omega), if_pos (show y.f - y.s * 1000 < x.f - x.s * 1000 by omega)]; rfl
    · rw [if_neg c1, if_neg c2, if_neg (show ¬ ((0 : Int) ≠ 0) by omega)]
      by_cases c3 : x.f < y.f
      · rw [if_pos c3, if_pos (by omega)]
      · by_cases c4 : y.f < x.f
        · rw [if_neg c3, if_pos c4, if_neg (by omega), if_pos (by omega)]
        · rw [if_neg c3, if_neg c4, if_neg (by omega), if_neg (by omega)]
set_option maxHeartbeats 1000000 in
theorem orF (B : Nat) (a : Option Addr) (cap : Nat) (D : Nat → Int) (w : World) (h : Ints B w a 2 D) :
    Calls Try.prog 35 #[.slice a 2 cap] w fun e w' => e = .returned (.int .i64 (orI (D 0) (D 1))) ∧ w' = w := by
  rcases h with h0 | ⟨b, off, rfl, hbB, hc⟩
  · omega
  obtain ⟨c0, _⟩ := hc 0 (by omega)
  obtain ⟨c1, _⟩ := hc 1 (by omega)
  obtain ⟨x, hx⟩ : ∃ x, D 0 = x := ⟨_, rfl⟩
  obtain ⟨y, hy⟩ : ∃ y, D 1 = y := ⟨_, rfl⟩
  rw [hx] at c0 ⊢
  rw [hy] at c1 ⊢
  have c0' : w.cell? ⟨b, off, none⟩ = some (.int .i64 x) := c0
  clear hc hx hy
  go_enter Try.func35, Try.ntmps35
  go_wp2_with fail
  go_loopw [8] (fun i wx => ∃ k : Nat, k ≤ 2 ∧ i = .int .i64 k ∧ (0 < k → x = 0) ∧ (1 < k → y = 0) ∧ wx = w) (fun i _ => 2 - (intOf i).toNat)
  case atStart => exact ⟨0, by omega, rfl, fun q => by omega, fun q => by omega, rfl⟩
  case round =>
    obtain ⟨k, hk, rfl, h0, h1, hw⟩ := hrel
    have hw := hw.symm
    subst hw
    by_cases k2 : k = 2
    · have e := hide (show orI x y = 0 by unfold orI; rw [h0 (by omega), h1 (by omega)]; rfl)
      subst k2
      clear h0 h1
      go_wp2_with fail
      go_ret
      exact ⟨by rw [e.out]; rfl, rfl⟩
    · by_cases k1 : k = 1
      · have x0 := hide (h0 (by omega))
        have e := hide (show orI x y = y by unfold orI; rw [x0.out]; rfl)
        subst k1
        clear h0 h1
        by_cases y0 : y = 0
        · have y1 : (y != 0) = false := by simp [y0]
          have Y0 := hide y0
          clear y0
          go_wp2_with fail
          go_roundw
          case rel => exact ⟨2, by omega, by go_num, fun _ => x0.out, fun _ => Y0.out, by first | rfl | trivial⟩
          case measure => simp [intOf]
        · have y1 : (y != 0) = true := by simp [y0]
          clear y0
          go_wp2_with fail
          go_ret
          exact ⟨by rw [e.out]; rfl, rfl⟩
      · have k0 : k = 0 := by omega
        subst k0
        clear h0 h1
        by_cases y0 : x = 0
        · have y1 : (x != 0) = false := by simp [y0]
          have Y0 := hide y0
          clear y0
          go_wp2_with fail
          go_roundw
          case rel => exact ⟨1, by omega, by go_num, fun _ => Y0.out, fun q => by omega, by first | rfl | trivial⟩
          case measure => simp [intOf]
        · have y1 : (x != 0) = true := by simp [y0]
          have e := hide (show orI x y = x by unfold orI; rw [if_pos y0])
          clear y0
          go_wp2_with fail
          go_ret
          exact ⟨by rw [e.out]; rfl, rfl⟩
set_option maxHeartbeats 2000000 in
theorem placingF (x y : MV) (w : World) : Calls Try.prog 14 #[.agg #[.int .i64 x.b, .int .i64 x.s, .int .i64 x.f, .int .i64 x.t], .agg #[.int .i64 y.b, .int .i64 y.s, .int .i64 y.f, .int .i64 y.t]] w fun e w' => e = .returned (.int .i64 (orI (cmpI y.s x.s) (cmpI x.f y.f))) ∧ Below w.heap.size w w' := by
  have C1 := hide (fun W => compareF y.s x.s W)
  have C2 := hide (fun W => compareF x.f y.f W)
  obtain ⟨W0, hW0⟩ : ∃ W0, (w.alloc (.cells #[.int .i64 x.b, .int .i64 x.s, .int .i64 x.f, .int .i64 x.t] 31)).alloc (.cells #[.int .i64 y.b, .int .i64 y.s, .int .i64 y.f, .int .i64 y.t] 31) = W0 := ⟨_, rfl⟩
  have BL := hide (show Below w.heap.size w W0 by rw [← hW0]; exact ((Below.refl _ _).alloc (Nat.le_refl _) _).alloc (by simp) _)
  have k1 : W0.cell? ⟨w.heap.size, 1, none⟩ = some (.int .i64 x.s) := by rw [← hW0]; simp [go_sem]
  have k2 : W0.cell? ⟨w.heap.size, 2, none⟩ = some (.int .i64 x.f) := by rw [← hW0]; simp [go_sem]
  have k3 : W0.cell? ⟨w.heap.size + 1, 1, none⟩ = some (.int .i64 y.s) := by rw [← hW0]; simp [go_sem]
  have k4 : W0.cell? ⟨w.heap.size + 1, 2, none⟩ = some (.int .i64 y.f) := by rw [← hW0]; simp [go_sem]
  obtain ⟨p, hp⟩ : ∃ p, cmpI y.s x.s = p := ⟨_, rfl⟩
  obtain ⟨q, hq⟩ : ∃ q, cmpI x.f y.f = q := ⟨_, rfl⟩
  rw [hp] at C1 ⊢
  rw [hq] at C2 ⊢
  have bp : bd p ∧ bd q := by rw [← hp, ← hq]; have := cmpI_rng y.s x.s; have := cmpI_rng x.f y.f; exact ⟨⟨by omega, by omega⟩, ⟨by omega, by omega⟩⟩
  clear hp hq
  go_enter Try.func14, Try.ntmps14
  go_wp2_with fail
  clear hW0
  refine Qt.region_tail_lit 10 (by kernel_rfl) (by kernel_rfl) ?_
  simp only [List.take_succ_cons, List.take_zero, List.drop_succ_cons, List.drop_zero]
  repeat (go_big_quiet_step (first | (go_at_call_of 36 (Value.int .i64 x.s); exact Calls.quiet_of_same (C1.out _)) | (go_at_call_of 36 (Value.int .i64 x.f); exact Calls.quiet_of_same (C2.out _))))
  refine wpQuiet_nil ?_
  intro _ hw'
  obtain ⟨nq, hw''⟩ := hw'
  subst hw''
  have BZ := hide (BL.out.trans ((below_drewN (Below.refl W0.heap.size W0) nq).mono BL.out.size))
  generalize W0.drewN nq = Y at BZ ⊢
  have CO := hide (orF (Y.heap.size + 1) (some ⟨Y.heap.size, 0, none⟩) 2 (fun t => if t = 0 then p else q) (Y.alloc (.cells #[.int .i64 p, .int .i64 q] 3)) (.inr ⟨Y.heap.size, 0, rfl, by omega, fun j hj => by
    rcases Nat.lt_or_ge j 1 with e | e
    · have e : j = 0 := by omega
      subst e
      exact ⟨by simp [go_sem], bp.1⟩
    · have e : j = 1 := by omega
      subst e
      exact ⟨by simp [go_sem], bp.2⟩⟩))
  have B2 := hide (BZ.out.trans (((Below.refl Y.heap.size Y).alloc (Nat.le_refl _) (.cells #[.int .i64 p, .int .i64 q] 3)).mono BZ.out.size))
  clear k1 k2 k3 k4
  go_wp2_with fail
  refine CO.out.mono ?_
  rintro e W3 ⟨rfl, rfl⟩
  go_wp2_with fail
  go_ret
  exact ⟨rfl, B2.out⟩
set_option maxHeartbeats 2000000 in
theorem plcM (B N bc bl cap : Nat) (a : Option Addr) (C : Nat → MV) (i j : Nat) (w : World) (hB : B ≤ w.heap.size) (h : LM B w a N C) (hc : w.cell? ⟨bc, 0, none⟩ = some (.func (.func 14) #[] #[])) (hl : w.cell? ⟨bl, 0, none⟩ = some (.slice a N cap)) (hN : (N : Int) ≤ 1048576) (hi : i < N) (hj : j < N) (hO : ∀ i, i < N → MOk (C i)) :
    Calls Try.prog 34 #[.int .i64 i, .int .i64 j, .pointer (some ⟨bc, 0, none⟩), .pointer (some ⟨bl, 0, none⟩)] w fun e w' => e = .returned (.int .i64 (cmpI (kyM (C i)) (kyM (C j)))) ∧ Below w.heap.size w w' := by
  rcases h with h0 | ⟨b, off, rfl, hbB, hcs⟩
  · omega
  have oi := hO i hi
  have oj := hO j hj
  obtain ⟨⟨c0, c1, c2, c3⟩, _⟩ := hcs i hi
  obtain ⟨⟨d0, d1, d2, d3⟩, _⟩ := hcs j hj
  have iI : (i : Int) < N := by omega
  have jI : (j : Int) < N := by omega
  have eF := enters_of Try.func14 (by kernel_rfl) rfl
  obtain ⟨x, hx⟩ : ∃ x, C i = x := ⟨_, rfl⟩
  obtain ⟨y, hy⟩ : ∃ y, C j = y := ⟨_, rfl⟩
  rw [hx] at c0 c1 c2 c3 oi ⊢
  rw [hy] at d0 d1 d2 d3 oj ⊢
  have CP := fun W => placingF x y W
  rw [or_key oi oj] at CP
  obtain ⟨z, hz⟩ : ∃ z, cmpI (kyM x) (kyM y) = z := ⟨_, rfl⟩
  rw [hz] at CP ⊢
  have cm := hide (fun (q1 : Nat) (os : Array Obj) => show Calls Try.prog 14 #[.agg #[.int .i64 x.b, .int .i64 x.s, .int .i64 x.f, .int .i64 x.t], .agg #[.int .i64 y.b, .int .i64 y.s, .int .i64 y.f, .int .i64 y.t]] (Sort.grow (redrawn w q1) os) (fun e w'' => e = .returned (.int .i64 z) ∧ ∃ p : Regrown, w'' = Sort.grow (redrawn w p.d) p.os) from Calls.regrown_of (CP _))
  have e0 := cell_regrown c0
  have e1 := cell_regrown c1
  have e2 := cell_regrown c2
  have e3 := cell_regrown c3
  have f0 := cell_regrown d0
  have f1 := cell_regrown d1
  have f2 := cell_regrown d2
  have f3 := cell_regrown d3
  have gc := cell_regrown hc
  have gl := cell_regrown hl
  clear hcs hx hy oi oj hO CP hz
  go_enter Try.func34, Try.ntmps34
  go_wp2_with fail
  refine wp_region_quiet_below (by kernel_rfl) (by kernel_rfl) ?_
  repeat (go_big_quiet_step (first | exact cm.out _ _))
  refine wpQuiet_nil ?_
  intro _ hw'
  obtain ⟨⟨dq, osq⟩, hw''⟩ := hw'
  subst hw''
  go_wp2_with fail
  go_ret
  exact ⟨rfl, below_regrown w dq osq⟩
theorem cmpOfM (B N bc bl cap g : Nat) (a : Option Addr) (C : Nat → MV) (w : World) (hB : B ≤ w.heap.size) (h : LM B w a N C) (hc : w.cell? ⟨bc, 0, none⟩ = some (.func (.func 14) #[] #[])) (hl : w.cell? ⟨bl, 0, none⟩ = some (.slice a N cap)) (hN : (N : Int) ≤ 1048576) (l1 : bc < w.heap.size) (l2 : bl < w.heap.size) (n1 : bc ≠ g) (n2 : bl ≠ g) (n3 : B ≤ g) (hO : ∀ i, i < N → MOk (C i)) :
    So.Cmp 34 #[.pointer (some ⟨bc, 0, none⟩), .pointer (some ⟨bl, 0, none⟩)] (keyM C) (fun p q => cmpI (keyM C p) (keyM C q)) N g w := by
  refine ⟨enters_of Try.func34 (by kernel_rfl) rfl, fun p q W p0 p1 q0 q1 hk => ?_, fun p q => cmpI_neg _ _⟩
  have hk' : LM B W a N C := by
    rcases h with h0 | ⟨b, off, rfl, hbB, hcs⟩
    · omega
    · refine .inr ⟨b, off, rfl, hbB, fun i hi => ?_⟩
      obtain ⟨⟨c0, c1, c2, c3⟩, d⟩ := hcs i hi
      have K : ∀ o, W.cell? ⟨b, o, none⟩ = w.cell? ⟨b, o, none⟩ := fun o => kept_cell (p := ⟨b, o, none⟩) hk (by show b < w.heap.size; omega) (by show ¬ b = g; omega)
      exact ⟨⟨(K _).trans c0, (K _).trans c1, (K _).trans c2, (K _).trans c3⟩, d⟩
  have := plcM B N bc bl cap a C p.toNat q.toNat W (Nat.le_trans hB hk.size) hk' ((kept_cell (p := ⟨bc, 0, none⟩) hk l1 n1).trans hc) ((kept_cell (p := ⟨bl, 0, none⟩) hk l2 n2).trans hl) hN (by omega) (by omega) hO
  rw [show ((p.toNat : Nat) : Int) = p by omega, show ((q.toNat : Nat) : Int) = q by omega] at this
  exact this
theorem plc1M (k : Nat) (w : World) : Calls Try.prog 32 #[.int .i64 k] w fun e w' => e = .returned (.int .i64 k) ∧ w' = w := by
  go_enter Try.func32, Try.ntmps32
  go_wp2_with fail
  go_ret
  exact ⟨rfl, rfl⟩
set_option maxHeartbeats 2000000 in
theorem placesM (B N cap : Nat) (a : Option Addr) (C : Nat → MV) (w : World) (hB : B ≤ w.heap.size) (h : LM B w a N C) (hN : (N : Int) ≤ 1048576) (hO : ∀ i, i < N → MOk (C i)) :
    Calls Try.prog 13 #[.slice a N cap, .func (.func 14) #[] #[]] w fun e w' => ∃ g, e = .returned (.slice (some ⟨g, 0, none⟩) N N) ∧ w.heap.size ≤ g ∧ g < w'.heap.size ∧ Rw w' g N (fun k => (So.ord (keyM C) N k : Nat)) ∧ Below w.heap.size w w' := by
  obtain ⟨W0, hW0⟩ : ∃ W0, (w.alloc (.cells #[.slice a N cap] 24)).alloc (.cells #[.func (.func 14) #[] #[]] 38) = W0 := ⟨_, rfl⟩
  have hs0 : W0.heap.size = w.heap.size + 2 := by rw [← hW0]; simp
  have bl0 : Below w.heap.size w W0 := by rw [← hW0]; exact ((Below.refl _ _).alloc (Nat.le_refl _) _).alloc (by simp) _
  have k1 : W0.cell? ⟨w.heap.size, 0, none⟩ = some (.slice a N cap) := by rw [← hW0]; simp [go_sem]
  have k2 : W0.cell? ⟨w.heap.size + 1, 0, none⟩ = some (.func (.func 14) #[] #[]) := by rw [← hW0]; simp [go_sem]
  have BL := hide bl0
  have K1 := hide k1
  have K2 := hide k2
  have HL := hide (h.below (bl0.mono hB))
  have HO := hide hO
  have CE := hide (elemI0 N 32 (fun k => (k : Int)) W0 (by omega) (fun k hk => by unfold bd; omega) (enters_of Try.func32 (by kernel_rfl) rfl) (fun k W _ _ => (plc1M k W).mono (fun e w' q => ⟨q.1, q.2 ▸ Below.refl _ _⟩)))
  clear h bl0 k2 hO
  go_enter Try.func13, Try.ntmps13
  go_wp2_with fail
  refine CE.out.mono ?_
  rintro e W1 ⟨rfl, r1, z1, b1⟩
  have R1 := hide r1
  have B1 := hide b1
  have CS := hide (So.sortF W0.heap.size N N N (fun k => (k : Int)) 34 _ (keyM C) _ W1 R1.out hN (cmpOfM B N (w.heap.size + 1) w.heap.size cap W0.heap.size a C W1 (by have := b1.size; omega) (HL.out.below (b1.mono (by omega))) ((b1.cell (p := ⟨w.heap.size + 1, 0, none⟩) (by show w.heap.size + 1 < W0.heap.size; omega)).trans K2.out) ((b1.cell (p := ⟨w.heap.size, 0, none⟩) (by show w.heap.size < W0.heap.size; omega)).trans K1.out) hN (by have := b1.size; omega) (by have := b1.size; omega) (by omega) (by omega) (by omega) HO.out) (fun t ht => by omega) (fun s t h1 h2 => by omega))
  rw [hs0] at CS
  clear r1 b1 k1 hW0
  go_wp2_with fail
  refine CS.out.mono ?_
  rintro e W2 ⟨rfl, ⟨E, a1, a2, a3⟩, a4⟩
  have RR := hide (a1.same (E := fun k => (So.ord (keyM C) N k : Nat)) (fun k hk => (So.srt_ord (fun t ht => a2.rng (Nat.le_refl _) (N := N) (fun t ht => by omega) t ht) a3 k hk).symm))
  have B2 := hide (BL.out.trans (B1.out.mono BL.out.size))
  have Z2 := hide (show w.heap.size + 2 < W2.heap.size by have := a4.size; omega)
  have B3 := hide (B2.out.trans (a4.below (B := w.heap.size) B2.out.size (fun k hk => by omega)))
  clear a1 a2 a3 a4
  go_wp2_with fail
  go_ret
  exact ⟨w.heap.size + 2, rfl, by omega, Z2.out, RR.out, B3.out⟩
end Vo
end Go.Proofs.Ytbdcbanbnbaoiaa
