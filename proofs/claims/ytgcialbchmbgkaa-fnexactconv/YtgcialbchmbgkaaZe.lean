/- Convolutions: the outcome; the program's side. -/
import Derived.Test.YtgcialbchmbgkaaZd
namespace Go.Proofs.Ytgcialbchmbgkaa
namespace Vo
open Go.ChangeShapes Go.WideShapes Go.ChangeAt Go.RowKit Go.Joins Go.Sort
open Vl Vp Vr
set_option linter.unusedVariables false
set_option linter.unusedSimpArgs false
/-- the first plane beneath a filter -/
def cvF (z : Nat → Int) (n o : Nat) : Nat := ((n : Int) * z 1 + ((o : Int).tdiv ((z 4).tdiv (z 11))) * z 5).toNat
/-- one number of the outcome -/
def cvN (z Sx Sw : Nat → Int) (n o i j : Nat) : Int := cvA z Sx Sw o (cvF z n o) ((i : Int) * z 8 - z 9) ((j : Int) * z 8 - z 9) ((z 5).toNat * (z 6).toNat * (z 7).toNat)
def cvS (z Sx Sw : Nat → Int) (p : Nat) : Int := cvN z Sx Sw (p / (cvE z 3).toNat / (cvE z 2).toNat / (z 4).toNat) (p / (cvE z 3).toNat / (cvE z 2).toNat % (z 4).toNat) (p / (cvE z 3).toNat % (cvE z 2).toNat) (p % (cvE z 3).toNat)
def cvP (z Sx Sw : Nat → Int) : PT := ⟨4, (szR (cvE z) 4).toNat, cvE z, cvS z Sx Sw⟩
theorem cvS_at (z Sx Sw : Nat → Int) {O E2 E3 n o i j : Nat} (h4 : z 4 = O) (h2 : cvE z 2 = E2) (h3 : cvE z 3 = E3) (ho : o < O) (hi : i < E2) (hj : j < E3) : cvS z Sx Sw (((n * O + o) * E2 + i) * E3 + j) = cvN z Sx Sw n o i j := by
  obtain ⟨d1, d2, d3⟩ := dig3 (KH := E2) (KW := E3) (k := n * O + o) hi hj
  unfold cvS
  rw [h4, h2, h3, Int.toNat_natCast, Int.toNat_natCast, Int.toNat_natCast, d1, d2, d3]
  have e1 : (n * O + o) / O = n := by rw [Nat.mul_comm, Nat.mul_add_div (by omega), Nat.div_eq_of_lt ho, Nat.add_zero]
  have e2 : (n * O + o) % O = o := by rw [Nat.mul_comm, Nat.mul_add_mod, Nat.mod_eq_of_lt ho]
  rw [e1, e2]
/-- where a filter lies: what numberAt asks for -/
theorem cv_fit {z : Nat → Int} {n o : Nat} (hok : CzOk z) (hp : ∀ i, i < 8 → 1 ≤ z i ∧ z i ≤ 4096) (hn : (n : Int) < z 0) (ho : (o : Int) < z 4) {sx sw : Nat} (hsx : z 0 * z 1 * z 2 * z 3 = sx) (hsw : z 4 * (z 5 * z 6 * z 7) = sw) :
    ∃ qd od : Nat, (z 4).tdiv (z 11) = (qd : Int) ∧ 1 ≤ qd ∧ (o : Int).tdiv (qd : Int) = (od : Int) ∧ (n : Int) * z 1 + (od : Int) * z 5 = (cvF z n o : Int) ∧ ((cvF z n o : Int) + z 5) * z 2 * z 3 ≤ sx ∧ (o + 1) * ((z 5).toNat * (z 6).toNat * (z 7).toNat) ≤ sw := by
  obtain ⟨_, _, l11, _, e1, e4, _, _⟩ := hok
  have p4 := hp 4 (by decide)
  have p5 := hp 5 (by decide)
  have p6 := hp 6 (by decide)
  have p7 := hp 7 (by decide)
  have p1 := hp 1 (by decide)
  have p2 := hp 2 (by decide)
  have p3 := hp 3 (by decide)
  have q0 := tdiv_rng (a := z 4) (b := z 11) (by omega) l11.1
  obtain ⟨qd, hqd⟩ : ∃ qd : Nat, (z 4).tdiv (z 11) = qd := ⟨((z 4).tdiv (z 11)).toNat, by omega⟩
  have em : z 11 * (qd : Int) = z 4 := by
    have := Int.mul_tdiv_add_tmod (z 4) (z 11)
    rw [e4, hqd] at this
    omega
  have qd1 : 1 ≤ qd := by
    rcases Nat.eq_zero_or_pos qd with h | h
    · subst h; simp at em; omega
    · exact h
  have o0 := tdiv_rng (a := (o : Int)) (b := (qd : Int)) (by omega) (by omega)
  obtain ⟨od, hod⟩ : ∃ od : Nat, (o : Int).tdiv (qd : Int) = od := ⟨((o : Int).tdiv (qd : Int)).toNat, by omega⟩
  have odl : (od : Int) * qd ≤ o := by
    have h1 := Int.mul_tdiv_add_tmod (o : Int) (qd : Int)
    have h2 := Int.tmod_nonneg (qd : Int) (show (0 : Int) ≤ o by omega)
    rw [hod, Int.mul_comm] at h1
    omega
  have odg : (od : Int) < z 11 := by
    apply Int.lt_of_not_ge
    intro h
    have : z 11 * (qd : Int) ≤ (od : Int) * qd := Int.mul_le_mul_of_nonneg_right h (by omega)
    omega
  have nn : 0 ≤ (n : Int) * z 1 := Int.mul_nonneg (by omega) (by omega)
  have on' : 0 ≤ (od : Int) * z 5 := Int.mul_nonneg (by omega) (by omega)
  have hf : (cvF z n o : Int) = (n : Int) * z 1 + (od : Int) * z 5 := by
    unfold cvF
    rw [hqd, hod]
    omega
  refine ⟨qd, od, hqd, qd1, hod, hf.symm, ?_, ?_⟩
  · have a1 : ((od : Int) + 1) * z 5 ≤ z 11 * z 5 := Int.mul_le_mul_of_nonneg_right (by omega) (by omega)
    rw [Int.add_mul, Int.one_mul] at a1
    have a2 : ((n : Int) + 1) * z 1 ≤ z 0 * z 1 := Int.mul_le_mul_of_nonneg_right (by omega) (by omega)
    rw [Int.add_mul, Int.one_mul] at a2
    have a3 : z 11 * z 5 = z 1 := by rw [e1, Int.mul_comm]
    have a4 : (cvF z n o : Int) + z 5 ≤ z 0 * z 1 := by omega
    have a5 : ((cvF z n o : Int) + z 5) * z 2 ≤ z 0 * z 1 * z 2 := Int.mul_le_mul_of_nonneg_right a4 (by omega)
    have a6 : ((cvF z n o : Int) + z 5) * z 2 * z 3 ≤ z 0 * z 1 * z 2 * z 3 := Int.mul_le_mul_of_nonneg_right a5 (by omega)
    omega
  · have e5 : ((z 5).toNat : Int) = z 5 := by omega
    have e6 : ((z 6).toNat : Int) = z 6 := by omega
    have e7 : ((z 7).toNat : Int) = z 7 := by omega
    have a1 : ((o : Int) + 1) * (z 5 * z 6 * z 7) ≤ z 4 * (z 5 * z 6 * z 7) := Int.mul_le_mul_of_nonneg_right (by omega) (Int.mul_nonneg (Int.mul_nonneg (by omega) (by omega)) (by omega))
    have a2 : (((o + 1) * ((z 5).toNat * (z 6).toNat * (z 7).toNat) : Nat) : Int) = ((o : Int) + 1) * (z 5 * z 6 * z 7) := by
      rw [Int.natCast_mul, Int.natCast_mul, Int.natCast_mul, e5, e6, e7]
      rfl
    omega
theorem make_roomC (C : Nat) (hr : (C : Int) ≤ 4194304) (w : World) : (Instr.makeSlice 22 (.int .i64 0) (.int .i64 C)).run Try.prog w = .ok (.slice (some ⟨w.heap.size, 0, none⟩) 0 C) (w.alloc (.cells (madeCells #[.int .i64 0] C) 3)) := by
  obtain ⟨i, h1, hz, hs, hb⟩ := info_parts infoInt
  have := run_make (P := Try.prog) w 22 3 i (.int .i64 0) Try.underlying22 h1 hz .i64 .i64 0 C (by omega) (by omega) (by rw [hb]; omega) (by omega)
  rw [hs] at this
  simpa [Value.cells] using this
theorem room_own (w : World) (C : Nat) (f : Nat → Int) (hC : (C : Int) ≤ 4096) : (w.alloc (.cells (madeCells #[.int .i64 0] C) 3)).ownsRow w.heap.size 3 1 (.slice (some ⟨w.heap.size, 0, none⟩) 0 C) 0 (ints 0 f) :=
  World.ownsRow_made (base := w.heap.size) (e := 3) (size := 1) w (madeCells #[.int .i64 0] C) C (Nat.le_refl _) (by unfold maxLen; omega) (by rw [size_madeCells]; simp)
/-- the outcome's list, of which p numbers are there -/
def CvD (g C : Nat) (W3 : World) (S : Nat → Int) (p : Nat) (v : Value) (wx : World) : Prop := v = .slice (some ⟨g, 0, none⟩) p C ∧ wx.ownsRow g 3 1 (.slice (some ⟨g, 0, none⟩) p C) p (ints p S) ∧ Below g W3 wx ∧ g < wx.heap.size
set_option maxRecDepth 100000 in
set_option maxHeartbeats 8000000 in
theorem convolvedF (B : Nat) (z : Nat → Int) (ax aw : Option Addr) (sx cx sw cw : Nat) (Sx Sw : Nat → Int) (w : World) (hB : B ≤ w.heap.size) (hx : Ints B w ax sx Sx) (hw : Ints B w aw sw Sw) (hok : CzOk z) (hp : ∀ i, i < 8 → 1 ≤ z i ∧ z i ≤ 4096)
    (lx : (sx : Int) ≤ 4096) (lw : (sw : Int) ≤ 4096) (hsx : z 0 * z 1 * z 2 * z 3 = sx) (hsw : z 4 * (z 5 * z 6 * z 7) = sw) :
    Calls Try.prog 41 #[.agg #[.int .i64 (z 0), .int .i64 (z 1), .int .i64 (z 2), .int .i64 (z 3), .int .i64 (z 4), .int .i64 (z 5), .int .i64 (z 6), .int .i64 (z 7), .int .i64 (z 8), .int .i64 (z 9), .int .i64 (z 10), .int .i64 (z 11), .slice ax sx cx, .slice aw sw cw]] w fun e w' => TensR w.heap.size (cvP z Sx Sw) w e w' := by
  obtain ⟨i0, hi0, hz0, hz1, hz2⟩ := info_parts infoInt
  have zb := hok.b hp
  have p2 := hp 2 (by decide)
  have p3 := hp 3 (by decide)
  have p6 := hp 6 (by decide)
  have p7 := hp 7 (by decide)
  have r2 := plcs_rng zb p2.1 p2.2 p6.1 p6.2
  have r3 := plcs_rng zb p3.1 p3.2 p7.1 p7.2
  obtain ⟨N, hN⟩ : ∃ N : Nat, z 0 = N := ⟨(z 0).toNat, by have := hp 0 (by decide); omega⟩
  obtain ⟨O, hO⟩ : ∃ O : Nat, z 4 = O := ⟨(z 4).toNat, by have := hp 4 (by decide); omega⟩
  obtain ⟨E2, hE2⟩ : ∃ E2 : Nat, cvE z 2 = E2 := ⟨(cvE z 2).toNat, by show plcs z (z 2) (z 6) = _; have : cvE z 2 = plcs z (z 2) (z 6) := rfl; omega⟩
  obtain ⟨E3, hE3⟩ : ∃ E3 : Nat, cvE z 3 = E3 := ⟨(cvE z 3).toNat, by show plcs z (z 3) (z 7) = _; have : cvE z 3 = plcs z (z 3) (z 7) := rfl; omega⟩
  have NI : (N : Int) ≤ 4096 := by rw [← hN]; exact (hp 0 (by decide)).2
  have OI : (O : Int) ≤ 4096 := by rw [← hO]; exact (hp 4 (by decide)).2
  have e2l : (E2 : Int) ≤ 12289 := by rw [← hE2]; exact r2.2
  have e3l : (E3 : Int) ≤ 12289 := by rw [← hE3]; exact r3.2
  obtain ⟨C, hC⟩ : ∃ C : Nat, szR (cvE z) 4 = C := ⟨(szR (cvE z) 4).toNat, by have := (szR_rng (cvE z) 4).1; omega⟩
  have c4 : (C : Int) ≤ 4096 := by rw [← hC]; exact (szR_rng (cvE z) 4).2
  have hCp : N * O * E2 * E3 = C := by
    have e : szR (cvE z) 4 = pr (cvE z) 4 := by
      rcases szR_cases (cvE z) 4 with h | h
      · have := hok.2.2.2.2.2.2.1; omega
      · exact h.2.1
    have e' : pr (cvE z) 4 = cvE z 0 * cvE z 1 * cvE z 2 * cvE z 3 := by show 1 * cvE z 0 * cvE z 1 * cvE z 2 * cvE z 3 = _; rw [Int.one_mul]
    have e0 : cvE z 0 = N := hN
    have e1 : cvE z 1 = O := hO
    rw [e', e0, e1, hE2, hE3, hC] at e
    have : ((N * O * E2 * E3 : Nat) : Int) = C := by rw [Int.natCast_mul, Int.natCast_mul, Int.natCast_mul]; exact e.symm
    exact Int.ofNat.inj this
  have FIT := hide (fun (n o : Nat) (hn : n < N) (ho : o < O) => cv_fit (n := n) (o := o) hok hp (by omega) (by omega) hsx hsw)
  have SAT := hide (fun (n o i j : Nat) (ho : o < O) (hi : i < E2) (hj : j < E3) => cvS_at z Sx Sw (n := n) hO hE2 hE3 ho hi hj)
  have SBD := hide (fun p => show bd (cvS z Sx Sw p) from bd_of (cvA_rng _ _ _ _ _ _ _ _))
  have hmk := make_roomC C (by omega)
  obtain ⟨W0, hW0⟩ : ∃ W0, (w.alloc (.cells #[.int .i64 (z 0), .int .i64 (z 1), .int .i64 (z 2), .int .i64 (z 3), .int .i64 (z 4), .int .i64 (z 5), .int .i64 (z 6), .int .i64 (z 7), .int .i64 (z 8), .int .i64 (z 9), .int .i64 (z 10), .int .i64 (z 11), .slice ax sx cx, .slice aw sw cw] 61)).alloc (.cells #[.slice none 0 0, .slice none 0 0] 26) = W0 := ⟨_, rfl⟩
  have bl : Below w.heap.size w W0 := by rw [← hW0]; exact ((Below.refl _ _).alloc (Nat.le_refl _) _).alloc (by simp) _
  have s0 : W0.heap.size = w.heap.size + 1 + 1 := by rw [← hW0]; simp
  have cc : (∀ i, i < 12 → W0.cell? ⟨w.heap.size, i, none⟩ = some (.int .i64 (z i))) ∧ W0.cell? ⟨w.heap.size, 12, none⟩ = some (.slice ax sx cx) ∧ W0.cell? ⟨w.heap.size, 13, none⟩ = some (.slice aw sw cw) := by
    rw [← hW0]
    refine ⟨fun i hi => ?_, by simp [go_sem], by simp [go_sem]⟩
    have : i = 0 ∨ i = 1 ∨ i = 2 ∨ i = 3 ∨ i = 4 ∨ i = 5 ∨ i = 6 ∨ i = 7 ∨ i = 8 ∨ i = 9 ∨ i = 10 ∨ i = 11 := by omega
    rcases this with rfl | rfl | rfl | rfl | rfl | rfl | rfl | rfl | rfl | rfl | rfl | rfl <;> simp [go_sem]
  have m0 : Bx W0 (w.heap.size + 1) (.slice none 0 0) (.slice none 0 0) := by rw [← hW0]; exact ⟨by simp [go_sem], by simp [go_sem]⟩
  have g0 : Free W0 (w.heap.size + 1) := by rw [← hW0]; intro i; simp [go_sem]
  have CC := hide cc
  have BL := hide bl
  have M0 := hide m0
  have G0 := hide g0
  have HX := hide (hx.below (bl.mono hB))
  have HW := hide (hw.below (bl.mono hB))
  have ZB := hide zb
  obtain ⟨cl, _, _⟩ := cc
  have S0 := hide s0
  have HP0 := hide (And.intro hN (And.intro hO (And.intro hE2 hE3)))
  have HC := hide hC
  have EP := hide (show cvP z Sx Sw = ⟨4, C, cvE z, cvS z Sx Sw⟩ by unfold cvP; rw [hC, Int.toNat_natCast])
  have st8 := hok.1
  have pd9 := hok.2.2.2.1
  have DOK := hide (show sz 4 (cvE z) = (C : Int) by unfold sz; rw [if_neg (by omega)]; exact hC)
  clear bl m0 g0 hx hw zb hN hO hE2 hE3 hC hok r2 r3 p2 p3 p6 p7 hsx hsw s0
  go_enter Try.func41, Try.ntmps41
  go_wp2_with fail
  refine (outcomeF z _ ZB.out).mono ?_
  clear hW0 cl
  rintro e w1 ⟨gd, rfl, hgd1, hgd2, rwd, b1⟩
  have RD := hide rwd
  have s1 := b1.size
  have CS := hide (Vs.sizeOf w1.heap.size (some ⟨gd, 0, none⟩) 4 4 (cvE z) w1 (rwd.ints hgd2) (by decide))
  rw [DOK.out] at CS
  clear rwd
  go_wp2_with fail
  refine CS.out.mono ?_
  rintro e w2 ⟨rfl, hq⟩
  have hq := hq.symm
  subst hq
  clear CS
  obtain ⟨g, hg⟩ : ∃ g, w1.heap.size = g := ⟨_, rfl⟩
  obtain ⟨W3, hW3⟩ : ∃ W3, w1.alloc (.cells (madeCells #[.int .i64 0] C) 3) = W3 := ⟨_, rfl⟩
  have b3 : Below w1.heap.size w1 W3 := by rw [← hW3]; exact (Below.refl _ _).alloc (Nat.le_refl _) _
  have s3 : g < W3.heap.size := by rw [← hW3, ← hg]; simp
  have z0' := S0.out
  have hg2 : w.heap.size + 1 + 1 ≤ gd := by omega
  have hg3 : gd < g := by omega
  have bA : Below w.heap.size w W3 := (BL.out.trans (b1.mono BL.out.size)).trans (b3.mono (by have := BL.out.size; omega))
  have b13 : Below W0.heap.size W0 W3 := b1.trans (b3.mono b1.size)
  have CC3 := hide (fun (W : World) (hb : Below g W3 W) => show ((∀ i, i < 12 → W.cell? ⟨w.heap.size, i, none⟩ = some (.int .i64 (z i))) ∧ W.cell? ⟨w.heap.size, 12, none⟩ = some (.slice ax sx cx) ∧ W.cell? ⟨w.heap.size, 13, none⟩ = some (.slice aw sw cw)) ∧ Ints B W ax sx Sx ∧ Ints B W aw sw Sw ∧ Rw W gd 4 (cvE z) ∧ Bx W (w.heap.size + 1) (.slice none 0 0) (.slice none 0 0) ∧ Free W (w.heap.size + 1) ∧ Below w.heap.size w W by
    have lt : ∀ i, (⟨w.heap.size, i, none⟩ : Addr).block < g := fun i => by show w.heap.size < g; omega
    have lt0 : ∀ i, (⟨w.heap.size, i, none⟩ : Addr).block < W0.heap.size := fun i => by show w.heap.size < W0.heap.size; omega
    refine ⟨⟨fun i hi => (hb.cell (lt i)).trans ((b13.cell (lt0 i)).trans (CC.out.1 i hi)), (hb.cell (lt 12)).trans ((b13.cell (lt0 12)).trans CC.out.2.1), (hb.cell (lt 13)).trans ((b13.cell (lt0 13)).trans CC.out.2.2)⟩, (HX.out.below (b13.mono (by omega))).below (hb.mono (by omega)), (HW.out.below (b13.mono (by omega))).below (hb.mono (by omega)), (RD.out.below b3 hgd2).below hb hg3, (M0.out.below b13 (by omega)).below hb (by omega), (G0.out.below b13 (by omega)).below hb (by omega), bA.trans (hb.mono (by omega))⟩)
  have hown0 : W3.ownsRow g 3 1 (.slice (some ⟨g, 0, none⟩) 0 C) 0 (ints 0 (cvS z Sx Sw)) := by
    rw [← hW3, ← hg]
    exact room_own w1 C _ c4
  have HO0 := hide hown0
  obtain ⟨⟨cl3, _, _⟩, _, _, rd3, _⟩ := CC3.out W3 (Below.refl _ _)
  obtain ⟨hN, hO, hE2, hE3⟩ := HP0.out
  have k0 := (rd3 0 (by decide)).1
  rw [show cvE z 0 = (N : Int) from hN] at k0
  have HE := hide (And.intro hO (And.intro hE2 hE3))
  clear hN hO hE2 hE3 b1 b3 bA b13 hown0 cl3 rd3 HP0 z0'
  go_wp2_with fail
  clear hW3 k0 hmk
  go_loopw [4, 18] (fun d i wx => ∃ n : Nat, n ≤ N ∧ CvD g C W3 (cvS z Sx Sw) (n * O * E2 * E3) d wx ∧ i = .int .i64 n) (fun _ i _ => N - (intOf i).toNat)
  case atStart => exact ⟨0, by omega, by simp only [Nat.zero_mul]; exact ⟨rfl, HO0.out, Below.refl _ _, s3⟩, rfl⟩
  case round =>
    obtain ⟨n, hn, hd, rfl⟩ := hrel
    have HD := hide hd
    obtain ⟨rfl, _, bX, _⟩ := hd
    by_cases hnl : n < N
    · have nI : (n : Int) < N := by omega
      obtain ⟨_, _, _, rd, _⟩ := CC3.out _ bX
      have k1 := (rd 1 (by decide)).1
      rw [show cvE z 1 = (O : Int) from HE.out.1] at k1
      clear rd bX
      go_wp2_with fail
      clear k1
      go_loopw [4, 24] (fun d i wx => ∃ o : Nat, o ≤ O ∧ CvD g C W3 (cvS z Sx Sw) ((n * O + o) * E2 * E3) d wx ∧ i = .int .i64 o) (fun _ i _ => O - (intOf i).toNat)
      case atStart => exact ⟨0, by omega, by rw [Nat.add_zero]; exact HD.out, rfl⟩
      case round =>
        obtain ⟨o, ho, hd, rfl⟩ := hrel
        have HD := hide hd
        obtain ⟨rfl, _, bX, _⟩ := hd
        by_cases hol : o < O
        · have oI : (o : Int) < O := by omega
          obtain ⟨_, _, _, rd, _⟩ := CC3.out _ bX
          have k2 := (rd 2 (by decide)).1
          rw [HE.out.2.1] at k2
          clear rd bX
          go_wp2_with fail
          clear k2
          go_loopw [4, 30] (fun d i wx => ∃ a : Nat, a ≤ E2 ∧ CvD g C W3 (cvS z Sx Sw) (((n * O + o) * E2 + a) * E3) d wx ∧ i = .int .i64 a) (fun _ i _ => E2 - (intOf i).toNat)
          case atStart => exact ⟨0, by omega, by rw [Nat.add_zero]; exact HD.out, rfl⟩
          case round =>
            obtain ⟨a, ha, hd, rfl⟩ := hrel
            have HD := hide hd
            obtain ⟨rfl, _, bX, _⟩ := hd
            by_cases hal : a < E2
            · have aI : (a : Int) < E2 := by omega
              obtain ⟨_, _, _, rd, _⟩ := CC3.out _ bX
              have k3 := (rd 3 (by decide)).1
              rw [HE.out.2.2] at k3
              clear rd bX
              go_wp2_with fail
              clear k3
              go_loopw [4, 36] (fun d i wx => ∃ j : Nat, j ≤ E3 ∧ CvD g C W3 (cvS z Sx Sw) (((n * O + o) * E2 + a) * E3 + j) d wx ∧ i = .int .i64 j) (fun _ i _ => E3 - (intOf i).toNat)
              case atStart => exact ⟨0, by omega, by rw [Nat.add_zero]; exact HD.out, rfl⟩
              case round =>
                obtain ⟨X, rfl⟩ : ∃ X, X = wr := ⟨_, rfl⟩
                obtain ⟨j, hj, hd, rfl⟩ := hrel
                have HD4 := hide hd
                obtain ⟨rfl, hown, bX, lX⟩ := hd
                by_cases hjl : j < E3
                · have jI : (j : Int) < E3 := by omega
                  have HOW := hide hown
                  have BX := hide bX
                  obtain ⟨⟨cl, c12, c13⟩, ix, iw, _, _, _, _⟩ := CC3.out _ bX
                  have f0 := cl 0 (by decide)
                  have f1 := cl 1 (by decide)
                  have f2 := cl 2 (by decide)
                  have f3 := cl 3 (by decide)
                  have f4 := cl 4 (by decide)
                  have f5 := cl 5 (by decide)
                  have f6 := cl 6 (by decide)
                  have f7 := cl 7 (by decide)
                  have f8 := cl 8 (by decide)
                  have f9 := cl 9 (by decide)
                  have f10 := cl 10 (by decide)
                  have f11 := cl 11 (by decide)
                  have SV := hide (SAT.out n o a j hol hal hjl)
                  have ll : ((n * O + o) * E2 + a) * E3 + j < C := by
                    have := lin_lt (K := N * O) (KH := E2) (KW := E3) (k := n * O + o) (a := a) (b := j) (by
                      have : (n + 1) * O ≤ N * O := Nat.mul_le_mul_right _ hnl
                      rw [Nat.add_mul, Nat.one_mul] at this
                      omega) hal hjl
                    omega
                  have EN := hide (show ((n * O + o) * E2 + a) * E3 + (j + 1) = ((n * O + o) * E2 + a) * E3 + j + 1 by omega)
                  obtain ⟨p, hp'⟩ : ∃ p, ((n * O + o) * E2 + a) * E3 + j = p := ⟨_, rfl⟩
                  rw [hp'] at SV ll EN HOW ⊢
                  obtain ⟨qd, od, q1, q2, q3, q4, q5, q6⟩ := FIT.out n o hnl hol
                  have mi := mul_rng (a := (a : Int)) (b := z 8) (m := 12289) (n := 4096) (by omega) (by omega) (by omega) st8.2
                  have mj := mul_rng (a := (j : Int)) (b := z 8) (m := 12289) (n := 4096) (by omega) (by omega) (by omega) st8.2
                  have v1 : IntKind.i64.wrap ((a : Int) * z 8) = (a : Int) * z 8 := by rw [IntKind.wrap_i64]; omega
                  have v2 : IntKind.i64.wrap ((j : Int) * z 8) = (j : Int) * z 8 := by rw [IntKind.wrap_i64]; omega
                  have v3 : IntKind.i64.wrap ((a : Int) * z 8 - z 9) = (a : Int) * z 8 - z 9 := by rw [IntKind.wrap_i64]; omega
                  have v4 : IntKind.i64.wrap ((j : Int) * z 8 - z 9) = (j : Int) * z 8 - z 9 := by rw [IntKind.wrap_i64]; omega
                  have CNM := hide (numberF B z ax aw sx cx sw cw Sx Sw n o (cvF z n o) qd od ((a : Int) * z 8 - z 9) ((j : Int) * z 8 - z 9) X (by omega) ix iw ZB.out lx lw q1 q2 q3 q4 q5 q6 ⟨by omega, by omega⟩ ⟨by omega, by omega⟩)
                  obtain ⟨v, hv⟩ : ∃ v, cvA z Sx Sw o (cvF z n o) ((a : Int) * z 8 - z 9) ((j : Int) * z 8 - z 9) ((z 5).toNat * (z 6).toNat * (z 7).toNat) = v := ⟨_, rfl⟩
                  rw [hv] at CNM
                  have SV2 := hide (show cvS z Sx Sw p = v by rw [SV.out]; exact hv)
                  clear cl ix iw q1 q2 q3 q4 q5 q6 mi mj hv hown bX hp'
                  go_wp2_with fail
                  refine CNM.out.mono ?_
                  rintro e w5 ⟨rfl, b5⟩
                  have B5 := hide (BX.out.trans (b5.mono (by omega)))
                  have l5 := b5.size
                  have HO5 := hide (own_below HOW.out b5)
                  clear b5 CNM
                  go_wp2_with (at_builtin; refine wpList_append_fits _ rfl _ _ 22 rfl g 3 i0 1 Try.underlying22 hi0 hz1 g p C (ints p (cvS z Sx Sw)) rfl (HO5.out.alloc _) ⟨w5.heap.size, 0, none⟩ 1 1 [.int .i64 v] rfl rfl (World.news_of_block (cs := #[.int .i64 v]) (t := 3) (fr := (0, 0)) (heap_alloc_new w5 _)) (by simp [Value.oneCell']) (by omega) ?_; intro w6 hown6 hgrow6)
                  go_roundw
                  case rel =>
                    have e6 : ints p (cvS z Sx Sw) ++ [.int .i64 v] = ints (p + 1) (cvS z Sx Sw) := by rw [← SV2.out]; exact ints_succ p _
                    rw [e6] at hown6
                    have s6 := hgrow6.size
                    simp only [World.size_alloc] at s6
                    exact ⟨j + 1, by omega, by rw [EN.out]; exact ⟨rfl, hown6, (B5.out.alloc (by omega) _).grown hgrow6 (by simp; omega) (by rintro y ⟨⟩; exact Nat.le_refl _), by omega⟩, by go_num⟩
                  case measure => simp [intOf]; omega
                · have ej : j = E3 := by omega
                  have EN := hide (show ((n * O + o) * E2 + a) * E3 + j = ((n * O + o) * E2 + (a + 1)) * E3 by rw [ej, ← Nat.add_assoc, Nat.add_mul ((n * O + o) * E2 + a) 1, Nat.one_mul])
                  have hjl' : decide ((j : Int) < (E3 : Int)) = false := decide_eq_false (by omega)
                  have hjl'' : decide (j < E3) = false := decide_eq_false (by omega)
                  clear ej hown bX
                  go_wp2_with fail
                  go_roundw
                  case rel => exact ⟨a + 1, by omega, by rw [← EN.out]; exact HD4.out, by go_num⟩
                  case measure => simp [intOf]; omega
            · have ea : a = E2 := by omega
              have EN := hide (show ((n * O + o) * E2 + a) * E3 = (n * O + (o + 1)) * E2 * E3 by rw [ea, ← Nat.add_assoc, Nat.add_mul (n * O + o) 1, Nat.one_mul])
              have hal' : decide ((a : Int) < (E2 : Int)) = false := decide_eq_false (by omega)
              have hal'' : decide (a < E2) = false := decide_eq_false (by omega)
              clear ea bX
              go_wp2_with fail
              go_roundw
              case rel => exact ⟨o + 1, by omega, by rw [← EN.out]; exact HD.out, by go_num⟩
              case measure => simp [intOf]; omega
        · have eo : o = O := by omega
          have EN := hide (show (n * O + o) * E2 * E3 = (n + 1) * O * E2 * E3 by rw [eo, Nat.add_mul n 1, Nat.one_mul])
          have hol' : decide ((o : Int) < (O : Int)) = false := decide_eq_false (by omega)
          have hol'' : decide (o < O) = false := decide_eq_false (by omega)
          clear eo bX
          go_wp2_with fail
          go_roundw
          case rel => exact ⟨n + 1, by omega, by rw [← EN.out]; exact HD.out, by go_num⟩
          case measure => simp [intOf]; omega
    · have en : n = N := by omega
      have hnl' : decide ((n : Int) < (N : Int)) = false := decide_eq_false (by omega)
      have hnl'' : decide (n < N) = false := decide_eq_false (by omega)
      have EC := hide (show n * O * E2 * E3 = C by rw [en]; exact hCp)
      rw [EC.out] at HD ⊢
      obtain ⟨_, hown, _, lg⟩ := HD.out
      obtain ⟨_, _, _, rd, bz, fz, bb⟩ := CC3.out _ bX
      have RD2 := hide rd
      have RG := hide (rw_of_row hown (fun t ht => SBD.out t))
      have BB := hide bb
      obtain ⟨y0, y1⟩ := bz
      unfold Free at fz
      clear en hnl rd bb bX hown
      go_wp2_with fail
      refine bodyPost_ret (v := .agg #[.slice (some ⟨gd, 0, none⟩) 4 4, .slice (some ⟨g, 0, none⟩) C C]) (by simp [results, Try.results41, go_sem, y0, y1]) rfl ?_
      rw [EP.out]
      exact tens_end (v := ⟨4, C, cvE z, cvS z Sx Sw⟩) (P := w.heap.size + 1) (B := w.heap.size + 1 + 1) ⟨.inr ⟨gd, rfl, hg2, RD2.out⟩, .inr ⟨g, rfl, by omega, RG.out⟩, fun j h1 h2 => by
          obtain ⟨_, a1, e1', e2'⟩ := h1
          obtain ⟨_, a2, e3', e4'⟩ := h2
          injection e1' with e1'
          injection e3' with e3'
          subst e1' e3'
          have h1 : gd = j := e2'
          have h2 : g = j := e4'
          omega⟩ (by omega) (by omega) BB.out
end Vo
end Go.Proofs.Ytgcialbchmbgkaa
