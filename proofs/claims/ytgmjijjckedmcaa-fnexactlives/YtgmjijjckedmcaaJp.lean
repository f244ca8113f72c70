/- NestOk of the program, where 'given' keeps its word. -/
import Derived.Test.YtgmjijjckedmcaaJo
namespace Go.Proofs.Ytgmjijjckedmcaa
namespace Vo
open Go.ChangeShapes Go.WideShapes Go.ChangeAt Go.RowKit Go.Joins Go.Sort
open Vl Vp
set_option linter.unusedVariables false
set_option linter.unusedSimpArgs false
/-- what 'given' is to do -/
def GivenDoes : Prop := ∀ (B : Nat) (v : NV) (w : World), B ≤ w.heap.size → v.read B w → v.len 1048576 → SzOk v.sn v.SD → WI v.i v.ID v.sn → Calls Try.prog 56 #[v.val] w (GivR v w)
set_option maxRecDepth 100000 in
set_option maxHeartbeats 8000000 in
theorem nestOkF (HGIV : GivenDoes) (B : Nat) (v : NV) (w : World) (hB : B ≤ w.heap.size) (h : v.read B w) (hl : v.len 1048576) :
    Calls Try.prog 27 #[v.val] w fun e w' => e = .returned (.bool (decide (NOk v))) ∧ Below w.heap.size w w' := by
  have HR := hide h
  have HLN := hide hl
  obtain ⟨N, hN⟩ : ∃ N : NV, N = v := ⟨_, rfl⟩
  obtain ⟨sa, sn, scap, SD, ia, i, icap, ID, fa, fn, fcap, FF, ka, kn, kcap, KK, oa, on, ocap, OD⟩ := v
  obtain ⟨h1, h2, h3, h4, h5⟩ := h
  obtain ⟨l1, l2, ⟨l3, l4⟩, ⟨l5, l6⟩, l7⟩ := hl
  dsimp only at *
  obtain ⟨W1, hW1⟩ : ∃ W1, w.alloc (.cells #[.slice sa sn scap, .slice ia i icap, .slice fa fn fcap, .slice ka kn kcap, .slice oa on ocap] 33) = W1 := ⟨_, rfl⟩
  have BL := hide (show Below w.heap.size w W1 by rw [← hW1]; exact (Below.refl _ _).alloc (Nat.le_refl _) _)
  have p := Cells5.new w (.slice sa sn scap) (.slice ia i icap) (.slice fa fn fcap) (.slice ka kn kcap) (.slice oa on ocap) 33
  rw [hW1] at p
  have C1 := hide p
  have z1 : w.heap.size < W1.heap.size := World.block_lt_of_cell? _ _ p.1
  obtain ⟨p0, p1, p2, p3, p4⟩ := p
  have hB1 : B ≤ W1.heap.size := by omega
  have H1 := hide (h1.below (BL.out.mono hB))
  have H2 := hide (h2.below (BL.out.mono hB))
  have H4 := hide (h4.below (BL.out.mono hB))
  have H5 := hide (h5.below (BL.out.mono hB))
  have L6 := hide l6
  clear h1 h2 h3 h4 h5 l6
  rw [← hN]
  have VAL := hide (show NV.val ⟨sa, sn, scap, SD, ia, i, icap, ID, fa, fn, fcap, FF, ka, kn, kcap, KK, oa, on, ocap, OD⟩ = .agg #[.slice sa sn scap, .slice ia i icap, .slice fa fn fcap, .slice ka kn kcap, .slice oa on ocap] from rfl)
  rw [hN, VAL.out, ← hN]
  rw [← hN] at HR HLN VAL
  have UN := hide (show NOk N ↔ ((sn ≤ 200 ∧ i ≤ 40 ∧ on ≤ 40 ∧ kn ≤ 400) ∧ (WI i ID sn ∧ WI on OD sn) ∧ (∀ j, j < sn → 0 ≤ SD j ∧ SD j ≤ 4096) ∧ (∀ j, j < i → hasB j (gvn N) (ID j) = false) ∧ (∀ j, j < fn → FxOk N j) ∧ (∀ j, j < kn → KOk (KK j) sn SD ∧ hasB (i + fn) (gvn N) (KK j).st.u = false) ∧ psum KK kn ≤ 1000000) by rw [hN]; exact Iff.rfl)
  have GIV := hide (show ∀ W, Below W1.heap.size W1 W → SzOk sn SD → WI i ID sn → Calls Try.prog 56 #[.agg #[.slice sa sn scap, .slice ia i icap, .slice fa fn fcap, .slice ka kn kcap, .slice oa on ocap]] W (fun e w' =>
      (((∀ j, j < i → hasB j (gvn N) (ID j) = false) ∧ ∀ j, j < fn → FxOk N j) ∧ ∃ g, e = .returned (.tuple #[.slice (some ⟨g, 0, none⟩) sn sn, .bool true]) ∧ Bw w' g sn (fun q => hasB (i + fn) (gvn N) q) ∧ Below W.heap.size W w') ∨
      (¬ ((∀ j, j < i → hasB j (gvn N) (ID j) = false) ∧ ∀ j, j < fn → FxOk N j) ∧ e = .returned (.tuple #[.slice none 0 0, .bool false]) ∧ Below W.heap.size W w')) by
    intro W hW a b
    have q := HGIV B N W (Nat.le_trans hB1 hW.size) (HR.out.below ((BL.out.trans (hW.mono BL.out.size)).mono hB)) HLN.out (by rw [hN]; exact a) (by rw [hN]; exact b)
    rw [VAL.out] at q
    refine q.mono ?_
    intro e w' r
    unfold GivR at r
    rw [hN] at r ⊢
    exact r)
  have EN1 := hide (fun (W : World) (hW : Below W1.heap.size W1 W) => isEndF B ⟨sa, sn, scap, SD, ia, i, icap, ID, fa, fn, fcap, FF, ka, kn, kcap, KK, oa, on, ocap, OD⟩ ia i icap ID W (Nat.le_trans hB1 hW.size) (H2.out.below (hW.mono hB1)) l2)
  have EN2 := hide (fun (W : World) (hW : Below W1.heap.size W1 W) => isEndF B ⟨sa, sn, scap, SD, ia, i, icap, ID, fa, fn, fcap, FF, ka, kn, kcap, KK, oa, on, ocap, OD⟩ oa on ocap OD W (Nat.le_trans hB1 hW.size) (H5.out.below (hW.mono hB1)) l7)
  unfold NV.val at EN1 EN2
  dsimp only at EN1 EN2
  clear hN HR HLN VAL
  have CS := hide (within B sa sn scap SD 4097 W1 hB1 H1.out l1)
  go_enter Try.func27, Try.ntmps27
  by_cases c1 : 200 < (sn : Int)
  · have e := hide (show ¬ NOk N from fun q => by have := (UN.out.1 q).1.1; omega)
    have c1'' : decide (200 < sn) = true := decide_eq_true (by omega)
    go_wp2_with fail
    go_ret
    exact ⟨by rw [decide_eq_false e.out]; rfl, BL.out⟩
  have c1' : decide (200 < (sn : Int)) = false := by rw [decide_eq_false_iff_not]; exact c1
  have c1'' : decide (200 < sn) = false := by rw [decide_eq_false_iff_not]; omega
  have ub1 : sn ≤ 200 := by omega
  clear c1
  by_cases d0 : WI sn SD 4097
  case neg =>
    have e := hide (show ¬ NOk N from fun q => d0 (fun j hj => by have := (UN.out.1 q).2.2.1 j hj; omega))
    rw [show wi sn SD 4097 = false from decide_eq_false d0] at CS
    clear d0
    go_wp2_with fail
    refine CS.out.mono ?_
    rintro e1 w2 ⟨rfl, b2⟩
    have B2 := hide (BL.out.trans (b2.mono BL.out.size))
    go_wp2_with fail
    go_ret
    exact ⟨by rw [decide_eq_false e.out]; rfl, B2.out⟩
  have SZ := hide (show SzOk sn SD from ⟨ub1, fun j hj => by have := d0 j hj; omega⟩)
  rw [show wi sn SD 4097 = true from decide_eq_true d0] at CS
  clear d0
  by_cases c4 : 400 < (kn : Int)
  · have e := hide (show ¬ NOk N from fun q => by have := (UN.out.1 q).1.2.2.2; omega)
    have c4'' : decide (400 < kn) = true := decide_eq_true (by omega)
    go_wp2_with fail
    refine CS.out.mono ?_
    rintro e1 w2 ⟨rfl, b2⟩
    have B2 := hide (BL.out.trans (b2.mono BL.out.size))
    obtain ⟨m0, m1, m2, m3, m4⟩ := C1.out.below b2 z1
    go_wp2_with fail
    go_ret
    exact ⟨by rw [decide_eq_false e.out]; rfl, B2.out⟩
  have c4' : decide (400 < (kn : Int)) = false := by rw [decide_eq_false_iff_not]; exact c4
  have c4'' : decide (400 < kn) = false := by rw [decide_eq_false_iff_not]; omega
  have ub4 : kn ≤ 400 := by omega
  clear c4
  go_wp2_with fail
  refine CS.out.mono ?_
  rintro e1 w2 ⟨rfl, b2⟩
  have B2 := hide b2
  clear CS b2 p0 p1 p2 p3 p4 hW1
  obtain ⟨p0, p1, p2, p3, p4⟩ := C1.out.below B2.out z1
  have E1 := hide (EN1.out w2 B2.out)
  by_cases d1 : i ≤ 40 ∧ WI i ID sn
  case neg =>
    have e := hide (show ¬ NOk N from fun q => d1 ⟨(UN.out.1 q).1.2.1, (UN.out.1 q).2.1.1⟩)
    rw [decide_eq_false d1] at E1
    clear d1
    go_wp2_with fail
    refine E1.out.mono ?_
    rintro e1 w3 ⟨rfl, b3⟩
    have B3 := hide (BL.out.trans ((B2.out.trans (b3.mono B2.out.size)).mono BL.out.size))
    go_wp2_with fail
    go_ret
    exact ⟨by rw [decide_eq_false e.out]; rfl, B3.out⟩
  rw [decide_eq_true d1] at E1
  have D1 := hide d1
  clear d1
  go_wp2_with fail
  refine E1.out.mono ?_
  rintro e1 w3 ⟨rfl, b3⟩
  have B3 := hide (B2.out.trans (b3.mono B2.out.size))
  clear E1 b3 p0 p1 p2 p3 p4
  obtain ⟨p0, p1, p2, p3, p4⟩ := C1.out.below B3.out z1
  have E2 := hide (EN2.out w3 B3.out)
  by_cases d2 : on ≤ 40 ∧ WI on OD sn
  case neg =>
    have e := hide (show ¬ NOk N from fun q => d2 ⟨(UN.out.1 q).1.2.2.1, (UN.out.1 q).2.1.2⟩)
    rw [decide_eq_false d2] at E2
    clear d2
    go_wp2_with fail
    refine E2.out.mono ?_
    rintro e1 w4 ⟨rfl, b4⟩
    have B4 := hide (BL.out.trans ((B3.out.trans (b4.mono B3.out.size)).mono BL.out.size))
    go_wp2_with fail
    go_ret
    exact ⟨by rw [decide_eq_false e.out]; rfl, B4.out⟩
  rw [decide_eq_true d2] at E2
  have D2 := hide d2
  clear d2
  go_wp2_with fail
  refine E2.out.mono ?_
  rintro e1 w4 ⟨rfl, b4⟩
  have B4 := hide (B3.out.trans (b4.mono B3.out.size))
  clear E2 b4 p0 p1 p2 p3 p4
  obtain ⟨p0, p1, p2, p3, p4⟩ := C1.out.below B4.out z1
  have CG := hide (GIV.out w4 B4.out SZ.out D1.out.2)
  go_wp2_with fail
  refine CG.out.mono ?_
  intro e1 w5 hg
  rcases hg with ⟨hy, g, rfl, bw, b5⟩ | ⟨hn, rfl, b5⟩
  rotate_left
  · have e := hide (show ¬ NOk N from fun q => hn ⟨(UN.out.1 q).2.2.2.1, (UN.out.1 q).2.2.2.2.1⟩)
    have B5 := hide (BL.out.trans ((B4.out.trans (b5.mono B4.out.size)).mono BL.out.size))
    clear hn b5
    go_wp2_with fail
    go_ret
    exact ⟨by rw [decide_eq_false e.out]; rfl, B5.out⟩
  have HY := hide hy
  have RB := hide bw
  have B5 := hide (B4.out.trans (b5.mono B4.out.size))
  clear hy bw b5 CG p0 p1 p2 p3 p4
  obtain ⟨p0, p1, p2, p3, p4⟩ := C1.out.below B5.out z1
  go_wp2_with fail
  clear p0 p1 p2 p3 p4
  go_loopw [5, 46] (fun x t wx => ∃ (k : Nat) (y : Int), k ≤ kn ∧ t = .int .i64 k ∧ x = .int .i64 y ∧ y = psum KK k ∧ (∀ q, q < k → KOk (KK q) sn SD ∧ hasB (i + fn) (gvn N) (KK q).st.u = false) ∧ Below w5.heap.size w5 wx) (fun _ t _ => kn - (intOf t).toNat)
  case atStart => exact ⟨0, 0, Nat.zero_le _, rfl, rfl, rfl, fun q hq => by omega, Below.refl _ _⟩
  case round =>
    obtain ⟨X, rfl⟩ : ∃ X, X = wr := ⟨_, rfl⟩
    obtain ⟨k, y, hk, rfl, rfl, hy, hks, hby⟩ := hrel
    have pr := psum_rng KK k
    have y0 : 0 ≤ y := by omega
    have y1 : y ≤ 26214400 := by omega
    have EY := hide hy
    have KS := hide hks
    have BX5 := hide hby
    have HX := hide (B5.out.trans (hby.mono B5.out.size))
    have BX := hide (BL.out.trans (HX.out.mono BL.out.size))
    have CX := hide (C1.out.below HX.out z1)
    have zX : w.heap.size < X.heap.size := Nat.lt_of_lt_of_le z1 HX.out.size
    obtain ⟨p0, p1, p2, p3, p4⟩ := CX.out
    clear hy hks hby pr
    by_cases hlt : k < kn
    case pos =>
      have kI : (k : Int) < kn := by omega
      rcases H4.out.below (HX.out.mono hB1) with q0 | ⟨kb, ko, rfl, hkb, hkc⟩
      · omega
      obtain ⟨⟨c0, c1, c2, c3, c4, c5, c6⟩, rd⟩ := hkc k hlt
      have lk := L6.out k hlt
      obtain ⟨⟨kla, klr, klcap, kLD, kaa, kan, kacap, kAA, ⟨ku, kko, kta, ktr, ktcap, kTD⟩, ksm, kca, kcn, kccap, kCC⟩, hKk⟩ : ∃ x, KK k = x := ⟨_, rfl⟩
      rw [hKk] at c0 c1 c2 c3 c4 c5 c6 rd lk
      dsimp only at c0 c1 c2 c3 c4 c5 c6
      have EK := hide hKk
      obtain ⟨Y, hY⟩ : ∃ Y, X.alloc (.cells #[.slice kla klr klcap, .slice kaa kan kacap, .int .i64 ku, .int .i64 kko, .slice kta ktr ktcap, .bool ksm, .slice kca kcn kccap] 90) = Y := ⟨_, rfl⟩
      have bY : Below X.heap.size X Y := by rw [← hY]; exact (Below.refl _ _).alloc (Nat.le_refl _) _
      have c7 := Cells7.new X (.slice kla klr klcap) (.slice kaa kan kacap) (.int .i64 ku) (.int .i64 kko) (.slice kta ktr ktcap) (.bool ksm) (.slice kca kcn kccap) 90
      rw [hY] at c7
      have C7 := hide c7
      have zY : X.heap.size < Y.heap.size := World.block_lt_of_cell? _ _ c7.1
      have BY := hide (BX.out.trans (bY.mono BX.out.size))
      have HY2 := hide (HX.out.trans (bY.mono HX.out.size))
      have BY5 := hide (BX5.out.trans (bY.mono BX5.out.size))
      obtain ⟨s0, s1, s2, s3, s4, s5, s6⟩ := c7
      obtain ⟨m0, m1, m2, m3, m4⟩ := CX.out.below bY zX
      have RD := hide rd
      have CK := hide (kerFits B ⟨kla, klr, klcap, kLD, kaa, kan, kacap, kAA, ⟨ku, kko, kta, ktr, ktcap, kTD⟩, ksm, kca, kcn, kccap, kCC⟩ sa sn scap SD Y (Nat.le_trans hB BY.out.size) (rd.below (bY.mono (Nat.le_trans hB BX.out.size))) (H1.out.below (HY2.out.mono hB1)) lk SZ.out)
      unfold KV.val at CK
      dsimp only at CK
      clear hkc rd hKk
      by_cases d3 : KOk ⟨kla, klr, klcap, kLD, kaa, kan, kacap, kAA, ⟨ku, kko, kta, ktr, ktcap, kTD⟩, ksm, kca, kcn, kccap, kCC⟩ sn SD
      case neg =>
        have e := hide (show ¬ NOk N from fun q => d3 (by have := ((UN.out.1 q).2.2.2.2.2.1 k hlt).1; rw [EK.out] at this; exact this))
        rw [decide_eq_false d3] at CK
        clear d3
        go_wp2_with fail
        refine CK.out.mono ?_
        rintro e1 Y2 ⟨rfl, bY2⟩
        have BZ := hide (BY.out.trans (bY2.mono BY.out.size))
        go_wp2_with fail
        go_ret
        exact ⟨by rw [decide_eq_false e.out]; rfl, BZ.out⟩
      rw [decide_eq_true d3] at CK
      have au : 0 ≤ ku ∧ ku < sn := d3.2.2.2.2.1.1
      obtain ⟨n, rfl⟩ : ∃ n : Nat, ku = n := ⟨ku.toNat, by omega⟩
      have nlt : n < sn := by omega
      have nI : (n : Int) < sn := by omega
      have D3 := hide d3
      clear d3 au
      go_wp2_with fail
      refine CK.out.mono ?_
      rintro e1 Y2 ⟨rfl, bY2⟩
      have BZ := hide (BY.out.trans (bY2.mono BY.out.size))
      have BZ5 := hide (BY5.out.trans (bY2.mono BY5.out.size))
      have C8 := hide (C7.out.below bY2 zY)
      have zY2 : X.heap.size < Y2.heap.size := Nat.lt_of_lt_of_le zY bY2.size
      clear s0 s1 s2 s3 s4 s5 s6 m0 m1 m2 m3 m4 p0 p1 p2 p3 p4 c0 c1 c2 c3 c4 c5 c6 CK hY
      obtain ⟨s0, s1, s2, s3, s4, s5, s6⟩ := C8.out
      obtain ⟨cb, _⟩ := (RB.out.below BZ5.out).2 n nlt
      dsimp only at cb
      cases hh : hasB (i + fn) (gvn N) (n : Int) with
      | true =>
        have e := hide (show ¬ NOk N from fun q => by have q1 := ((UN.out.1 q).2.2.2.2.2.1 k hlt).2; rw [EK.out] at q1; have q2 : hasB (i + fn) (gvn N) (n : Int) = false := q1; rw [hh] at q2; cases q2)
        rw [hh] at cb
        clear hh
        go_wp2_with fail
        go_ret
        exact ⟨by rw [decide_eq_false e.out]; rfl, BZ.out⟩
      | false =>
        have e := hide (show ∀ q, q < k + 1 → KOk (KK q) sn SD ∧ hasB (i + fn) (gvn N) (KK q).st.u = false from fun q hq => by
          by_cases cq : q = k
          · rw [cq, EK.out]; exact ⟨D3.out, hh⟩
          · exact KS.out q (by omega))
        rw [hh] at cb
        have CP := hide (workF B ⟨kla, klr, klcap, kLD, kaa, kan, kacap, kAA, ⟨(n : Int), kko, kta, ktr, ktcap, kTD⟩, ksm, kca, kcn, kccap, kCC⟩ Y2 (Nat.le_trans hB BZ.out.size) ((RD.out.below (bY.mono (Nat.le_trans hB BX.out.size))).1.below (bY2.mono (Nat.le_trans hB BY.out.size))))
        unfold KV.val at CP
        dsimp only at CP
        have wv : wk (⟨kla, klr, klcap, kLD, kaa, kan, kacap, kAA, ⟨(n : Int), kko, kta, ktr, ktcap, kTD⟩, ksm, kca, kcn, kccap, kCC⟩ : KV) = pd kLD klr := by unfold wk; exact if_pos D3.out.1
        rw [wv] at CP
        clear wv
        have prg := pd_rng kLD klr
        have ep := hide (show psum KK (k + 1) = psum KK k + pd (KK k).LD (KK k).lr from rfl)
        rw [EK.out] at ep
        dsimp only at ep
        obtain ⟨r, hr⟩ : ∃ r, pd kLD klr = r := ⟨_, rfl⟩
        rw [hr] at CP prg ep
        have ex := hide (show y + r = psum KK (k + 1) by rw [ep.out, ← EY.out])
        have wy : IntKind.i64.wrap (y + r) = y + r := by rw [IntKind.wrap_i64]; omega
        clear hh hr ep bY2 bY
        go_wp2_with fail
        refine CP.out.mono ?_
        rintro e1 Y3 ⟨rfl, bY3⟩
        have BZ6 := hide (BZ5.out.trans (bY3.mono BZ5.out.size))
        clear bY3
        go_wp2_with fail
        go_roundw
        all_goals first
          | (simp only [intOf]; omega)
          | (simp [intOf]; omega)
          | exact ⟨k + 1, y + r, by omega, by go_num, rfl, ex.out, e.out, BZ6.out⟩
    case neg =>
      obtain rfl : k = kn := by omega
      by_cases t0 : y ≤ 1000000
      · have e := hide (show NOk N from UN.out.2 ⟨⟨ub1, D1.out.1, D2.out.1, ub4⟩, ⟨D1.out.2, D2.out.2⟩, SZ.out.2, HY.out.1, HY.out.2, KS.out, by rw [← EY.out]; exact t0⟩)
        go_wp2_with fail
        go_ret
        exact ⟨by rw [decide_eq_true e.out]; rfl, BX.out⟩
      · have e := hide (show ¬ NOk N from fun q => by have q1 := (UN.out.1 q).2.2.2.2.2.2; rw [← EY.out] at q1; exact t0 q1)
        have t0' : decide (y ≤ 1000000) = false := by rw [decide_eq_false_iff_not]; exact t0
        clear t0
        go_wp2_with fail
        go_ret
        exact ⟨by rw [decide_eq_false e.out]; rfl, BX.out⟩
end Vo
end Go.Proofs.Ytgmjijjckedmcaa
