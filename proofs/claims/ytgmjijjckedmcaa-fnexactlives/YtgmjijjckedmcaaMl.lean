/- A buffer's life in the model: l12Life. -/
import Derived.Test.YtgmjijjckedmcaaMk
namespace Go.Proofs.Ytgmjijjckedmcaa
namespace Vo
open Go.ChangeShapes Go.WideShapes Go.ChangeAt Go.RowKit Go.Joins Go.Sort
open Vl Vp
set_option linter.unusedVariables false
set_option linter.unusedSimpArgs false
theorem lifeB_of {v : NV} {b : Nat} {s f : Int} {g o : Bool} (hs : v.SD b = s) (hf : fs v.KK b v.kn = f) (hg : gvB v b = g) (ho : ouB v b = o) : lifeB v b = (decide (0 < s) && (g || (o || decide (0 ≤ f)))) := by subst hs hf hg ho; rfl
theorem lifeV_of {v : NV} {b : Nat} {s f l : Int} {kn : Nat} {g o : Bool} (hs : v.SD b = s) (hf : fs v.KK b v.kn = f) (hl : ls v.KK b v.kn = l) (hg : gvB v b = g) (ho : ouB v b = o) (hk : v.kn = kn) : lifeV v b = ⟨b, s, if g = true then 0 else if 0 < f then f else 0, if o = true then kn else l⟩ := by subst hs hf hl hg ho hk; rfl
set_option maxRecDepth 100000 in
set_option maxHeartbeats 8000000 in
theorem lifeF (B : Nat) (v : NV) (b : Nat) (w : World) (hB : B ≤ w.heap.size) (h : v.read B w) (hl : v.len 1048576) (hb : b < v.sn) :
    Calls Try.prog 23 #[v.val, .int .i64 b] w fun e w' => e = .returned (.tuple #[.agg #[.int .i64 (lifeV v b).b, .int .i64 (lifeV v b).s, .int .i64 (lifeV v b).f, .int .i64 (lifeV v b).t], .bool (lifeB v b)]) ∧ Below w.heap.size w w' := by
  have HR := hide h
  have HLN := hide hl
  obtain ⟨N, hN⟩ : ∃ N : NV, N = v := ⟨_, rfl⟩
  obtain ⟨sa, sn, scap, SD, ia, i, icap, ID, fa, fn, fcap, FF, ka, kn, kcap, KK, oa, on, ocap, OD⟩ := v
  obtain ⟨h1, h2, h3, h4, h5⟩ := h
  obtain ⟨l1, l2, ⟨l3, l4⟩, ⟨l5, l6⟩, l7⟩ := hl
  dsimp only at *
  rw [← hN]
  have VAL := hide (show NV.val N = .agg #[.slice sa sn scap, .slice ia i icap, .slice fa fn fcap, .slice ka kn kcap, .slice oa on ocap] by rw [hN]; rfl)
  rw [VAL.out]
  obtain ⟨Z, hZ⟩ : ∃ Z, w.alloc (.cells #[.slice sa sn scap, .slice ia i icap, .slice fa fn fcap, .slice ka kn kcap, .slice oa on ocap] 33) = Z := ⟨_, rfl⟩
  have BL := hide (show Below w.heap.size w Z by rw [← hZ]; exact (Below.refl _ _).alloc (Nat.le_refl _) _)
  have p := Cells5.new w (.slice sa sn scap) (.slice ia i icap) (.slice fa fn fcap) (.slice ka kn kcap) (.slice oa on ocap) 33
  rw [hZ] at p
  have C1 := hide p
  have z1 : w.heap.size < Z.heap.size := World.block_lt_of_cell? _ _ p.1
  have hB1 : B ≤ Z.heap.size := by omega
  obtain ⟨V, hV⟩ : ∃ V, Z.alloc (.cells #[.int .i64 0, .int .i64 0, .int .i64 0, .int .i64 0] 54) = V := ⟨_, rfl⟩
  have bV : Below Z.heap.size Z V := by rw [← hV]; exact (Below.refl _ _).alloc (Nat.le_refl _) _
  have rV := MX.new Z ⟨0, 0, 0, 0⟩ 54
  dsimp only at rV
  rw [hV] at rV
  have zV := rV.lt
  have RV := hide rV
  have H4 := hide (h4.below (BL.out.mono hB))
  have H5 := hide (h5.below (BL.out.mono hB))
  have L6 := hide l6
  have bI : (b : Int) < sn := by omega
  rcases (h1.below (BL.out.mono hB)).below (bV.mono hB1) with q0 | ⟨sb, so, rfl, hsb, hsc⟩
  · omega
  have cs := (hsc b hb).1
  have CG := hide (fun (W : World) (hW : Below Z.heap.size Z W) => specGiven B N b W (Nat.le_trans hB1 hW.size) (by rw [hN]; exact (HR.out.below ((BL.out.trans (hW.mono BL.out.size)).mono hB))) (by rw [hN]; exact HLN.out))
  rw [VAL.out] at CG
  have CO := hide (fun (W : World) (hW : Below Z.heap.size Z W) => l7HasN B oa on ocap OD (b : Int) W (H5.out.below (hW.mono hB1)) (by omega))
  have EO := hide (show hasB on OD (b : Int) = ouB N b by rw [hN]; rfl)
  obtain ⟨p0, p1, p2, p3, p4⟩ := C1.out.below bV z1
  have HN := hide hN
  have BV := hide bV
  clear h1 h2 h3 h4 h5 l4 l6 hsc p hN rV bV
  go_enter Try.func23, Try.ntmps23
  go_wp2_with fail
  obtain ⟨Y, hY⟩ : ∃ Y, V.alloc (.cells #[.int .i64 (b : Int), .int .i64 (SD b), .int .i64 0, .int .i64 0] 54) = Y := ⟨_, rfl⟩
  have bY : Below V.heap.size V Y := by rw [← hY]; exact (Below.refl _ _).alloc (Nat.le_refl _) _
  have rY := MX.new V ⟨b, SD b, 0, 0⟩ 54
  dsimp only at rY
  rw [hY] at rY
  have RY := hide rY
  have zY := rY.lt
  rw [hY]
  have BZ := hide (show Below Z.heap.size Z Y from BV.out.trans (bY.mono BV.out.size))
  have BY := hide bY
  clear p0 p1 p2 p3 p4 cs hY hV hZ rY bY
  have AL := hide (fun (X : World) (hk : Kept (· = V.heap.size) Y X) => (⟨C1.out.below (BZ.out.trans (hk.below BZ.out.size (fun k e => by have e : k = V.heap.size := e; omega))) z1, BZ.out.trans (hk.below BZ.out.size (fun k e => by have e : k = V.heap.size := e; omega))⟩ : Cells5 X w.heap.size (.slice (some ⟨sb, so, none⟩) sn scap) (.slice ia i icap) (.slice fa fn fcap) (.slice ka kn kcap) (.slice oa on ocap) ∧ Below Z.heap.size Z X))
  go_loopw [7, 8] (fun f t wx => ∃ (k : Nat) (z : Int), k ≤ kn ∧ t = .int .i64 k ∧ f = .int .i64 z ∧ z = fs KK b k ∧ MX wx V.heap.size ⟨b, SD b, 0, ls KK b k⟩ ∧ Kept (· = V.heap.size) Y wx) (fun _ t _ => kn - (intOf t).toNat)
  case atStart => exact ⟨0, -1, Nat.zero_le _, rfl, rfl, rfl, RY.out, Kept.refl _ _⟩
  case round =>
    obtain ⟨X, rfl⟩ : ∃ X, X = wr := ⟨_, rfl⟩
    obtain ⟨k, z, hk, rfl, rfl, hz, hx, hkp⟩ := hrel
    have HZ := hide hz
    have HX := hide hx
    have HK := hide hkp
    clear hz hx hkp
    obtain ⟨⟨p0, p1, p2, p3, p4⟩, bX⟩ := AL.out X HK.out
    by_cases hlt : k < kn
    case pos =>
      have kI : (k : Int) < kn := by omega
      rcases H4.out.below (bX.mono hB1) with q0 | ⟨kb, ko, rfl, hkb, hkc⟩
      · omega
      obtain ⟨⟨c0, c1, c2, c3, c4, c5, c6⟩, rdk⟩ := hkc k hlt
      have lk := L6.out k hlt
      have CT := hide (touchesF B (KK k) (b : Int) X (Nat.le_trans hB1 bX.size) rdk lk.2.1)
      unfold KV.val at CT
      clear hkc rdk lk
      cases ht : touchB (KK k) (b : Int) with
      | false =>
        rw [ht] at CT
        have e1 := hide (show fs KK b (k + 1) = fs KK b k by show (if fs KK b k < 0 ∧ touchB (KK k) b = true then (k : Int) else fs KK b k) = _; rw [if_neg (fun q => by rw [ht] at q; cases q.2)])
        have e2 := hide (show ls KK b (k + 1) = ls KK b k by show (if touchB (KK k) b = true then (k : Int) else ls KK b k) = _; rw [if_neg (by rw [ht]; simp)])
        clear ht
        go_wp2_with fail
        refine CT.out.mono ?_
        rintro e X1 ⟨rfl, b1⟩
        have B1 := hide b1
        clear b1 CT
        go_wp2_with fail
        go_roundw
        all_goals first
          | (simp only [intOf]; omega)
          | (simp [intOf]; omega)
          | exact ⟨k + 1, z, by omega, by go_num, rfl, by rw [e1.out]; exact HZ.out, by rw [e2.out]; exact HX.out.below B1.out, HK.out.trans (Kept.of_below B1.out)⟩
      | true =>
        rw [ht] at CT
        have e2 := hide (show ls KK b (k + 1) = k by show (if touchB (KK k) b = true then (k : Int) else ls KK b k) = _; rw [if_pos ht])
        have e1 := hide (show fs KK b (k + 1) = if z < 0 then (k : Int) else z by
          show (if fs KK b k < 0 ∧ touchB (KK k) b = true then (k : Int) else fs KK b k) = _
          rw [← HZ.out]
          by_cases c : z < 0
          · rw [if_pos ⟨c, ht⟩, if_pos c]
          · rw [if_neg (fun q => c q.1), if_neg c])
        clear ht
        go_wp2_with fail
        refine CT.out.mono ?_
        rintro e X1 ⟨rfl, b1⟩
        have B1 := hide b1
        have X2 := hide (HX.out.below b1)
        obtain ⟨⟨y0, y1, y2, y3⟩, yf⟩ := X2.out
        have yf3 := yf 3
        clear b1 CT yf
        by_cases c : z < 0
        · rw [if_pos c] at e1
          go_wp2_with fail
          go_roundw
          all_goals first
            | (simp only [intOf]; omega)
            | (simp [intOf]; omega)
            | exact ⟨k + 1, (k : Int), by omega, by go_num, rfl, e1.out.symm, by rw [e2.out]; exact X2.out.setT _, (HK.out.trans (Kept.of_below B1.out)).trans (Kept.setCell _ ⟨V.heap.size, 3, none⟩ _)⟩
        · rw [if_neg c] at e1
          have c' : decide (z < 0) = false := by rw [decide_eq_false_iff_not]; exact c
          clear c
          go_wp2_with fail
          go_roundw
          all_goals first
            | (simp only [intOf]; omega)
            | (simp [intOf]; omega)
            | exact ⟨k + 1, z, by omega, by go_num, rfl, e1.out.symm, by rw [e2.out]; exact X2.out.setT _, (HK.out.trans (Kept.of_below B1.out)).trans (Kept.setCell _ ⟨V.heap.size, 3, none⟩ _)⟩
    case neg =>
      obtain rfl : kn = k := by omega
      have C7 := hide (CO.out X bX)
      rw [EO.out] at C7
      obtain ⟨lv, hlv⟩ : ∃ lv, ls KK b kn = lv := ⟨_, rfl⟩
      rw [hlv] at HX
      obtain ⟨sd, hsd⟩ : ∃ sd, SD b = sd := ⟨_, rfl⟩
      rw [hsd] at HX
      have RX := hide (show MX X Z.heap.size ⟨0, 0, 0, 0⟩ by
        have q := RV.out.below BY.out
        have e := HK.out.block Z.heap.size (Nat.lt_trans zV zY) (show ¬ Z.heap.size = V.heap.size by omega)
        have c : ∀ i, X.cell? ⟨Z.heap.size, i, none⟩ = Y.cell? ⟨Z.heap.size, i, none⟩ := fun i => World.cell?_of_block (a := ⟨Z.heap.size, i, none⟩) e
        exact ⟨by rw [c, c, c, c]; exact q.1, fun i => (World.frozen?_of_block (a := ⟨Z.heap.size, i, none⟩) e).trans (q.2 i)⟩)
      have BX := hide bX
      have zrng := fs_rng KK b kn
      rw [← HZ.out] at zrng
      have LB' := hide (fun g o (hg : gvB N b = g) (ho : ouB N b = o) => lifeB_of (v := N) (b := b) (s := sd) (f := z) (by rw [HN.out]; exact hsd) (by rw [HN.out]; exact HZ.out.symm) hg ho)
      have LV' := hide (fun g o (hg : gvB N b = g) (ho : ouB N b = o) => lifeV_of (v := N) (b := b) (s := sd) (f := z) (l := lv) (kn := kn) (by rw [HN.out]; exact hsd) (by rw [HN.out]; exact HZ.out.symm) (by rw [HN.out]; exact hlv) hg ho (by rw [HN.out]))
      clear hlv hsd bX
      go_wp2_with fail
      refine C7.out.mono ?_
      rintro e X1 ⟨rfl, hX1⟩
      have hX1 := hX1.symm
      subst hX1
      have C8 := hide (CG.out X BX.out)
      go_wp2_with fail
      refine C8.out.mono ?_
      rintro e X2 ⟨rfl, b2⟩
      have X3 := hide (HX.out.below b2)
      have R3 := hide (RX.out.below b2)
      have C3 := hide (C1.out.below (BX.out.trans (b2.mono BX.out.size)) z1)
      have B3 := hide (BL.out.trans ((BX.out.trans (b2.mono BX.out.size)).mono BL.out.size))
      have lo := B3.out.size
      clear p0 p1 p2 p3 p4 C7 C8 b2 HX RX BX
      obtain ⟨p0, p1, p2, p3, p4⟩ := C3.out
      obtain ⟨⟨y0, y1, y2, y3⟩, yf⟩ := X3.out
      obtain ⟨⟨r0, r1, r2, r3⟩, rf⟩ := R3.out
      have yf2 := yf 2
      have yf3 := yf 3
      have rf0 := rf 0
      have rf1 := rf 1
      have rf2 := rf 2
      have rf3 := rf 3
      have nVZ : ¬ V.heap.size = Z.heap.size := by omega
      have nZV : ¬ Z.heap.size = V.heap.size := by omega
      clear yf rf
      obtain ⟨gg, hgg⟩ : ∃ gg, gvB N b = gg := ⟨_, rfl⟩
      obtain ⟨oo, hoo⟩ : ∃ oo, ouB N b = oo := ⟨_, rfl⟩
      have EB := hide (LB'.out gg oo hgg hoo)
      have EV := hide (LV'.out gg oo hgg hoo)
      rw [hgg, hoo]
      clear hgg hoo EO CG CO LB' LV'
      cases gg with
      | true =>
        cases oo with
        | true =>
          by_cases cs : 0 < sd
          · have HH := hide (show (0 < sd) = True by simp [cs])
            go_wp2_with fail
            refine bodyPost_ret (v := .tuple #[.agg #[.int .i64 (b : Int), .int .i64 sd, .int .i64 0, .int .i64 (kn : Int)], .bool true]) (by simp [results, Try.results23, go_sem, r0, r1, r2, r3, y0, y1, y2, y3, nVZ, nZV]) rfl ⟨by rw [EV.out, EB.out]; (simp [HH.out] <;> omega), ?_⟩
            repeat (refine Below.setCell ?_ (by simp; try omega) _)
            exact B3.out
          · have cs' : decide (0 < sd) = false := by rw [decide_eq_false_iff_not]; exact cs
            have HH := hide (show (0 < sd) = False by simp [cs])
            go_wp2_with fail
            refine bodyPost_ret (v := .tuple #[.agg #[.int .i64 (b : Int), .int .i64 sd, .int .i64 0, .int .i64 (kn : Int)], .bool false]) (by simp [results, Try.results23, go_sem, r0, r1, r2, r3, y0, y1, y2, y3, nVZ, nZV]) rfl ⟨by rw [EV.out, EB.out]; (simp [HH.out] <;> omega), ?_⟩
            repeat (refine Below.setCell ?_ (by simp; try omega) _)
            exact B3.out
        | false =>
          by_cases cs : 0 < sd
          · have HH := hide (show (0 < sd) = True by simp [cs])
            go_wp2_with fail
            refine bodyPost_ret (v := .tuple #[.agg #[.int .i64 (b : Int), .int .i64 sd, .int .i64 0, .int .i64 lv], .bool true]) (by simp [results, Try.results23, go_sem, r0, r1, r2, r3, y0, y1, y2, y3, nVZ, nZV]) rfl ⟨by rw [EV.out, EB.out]; (simp [HH.out] <;> omega), ?_⟩
            repeat (refine Below.setCell ?_ (by simp; try omega) _)
            exact B3.out
          · have cs' : decide (0 < sd) = false := by rw [decide_eq_false_iff_not]; exact cs
            have HH := hide (show (0 < sd) = False by simp [cs])
            go_wp2_with fail
            refine bodyPost_ret (v := .tuple #[.agg #[.int .i64 (b : Int), .int .i64 sd, .int .i64 0, .int .i64 lv], .bool false]) (by simp [results, Try.results23, go_sem, r0, r1, r2, r3, y0, y1, y2, y3, nVZ, nZV]) rfl ⟨by rw [EV.out, EB.out]; (simp [HH.out] <;> omega), ?_⟩
            repeat (refine Below.setCell ?_ (by simp; try omega) _)
            exact B3.out
      | false =>
        cases oo with
        | true =>
          by_cases cz : 0 < z
          · have cz1 : 0 ≤ z := by omega
            have cz2 : decide (0 ≤ z) = true := decide_eq_true cz1
            by_cases cs : 0 < sd
            · have HH := hide (show (0 < sd) = True by simp [cs])
              go_wp2_with fail
              refine bodyPost_ret (v := .tuple #[.agg #[.int .i64 (b : Int), .int .i64 sd, .int .i64 z, .int .i64 (kn : Int)], .bool true]) (by simp [results, Try.results23, go_sem, r0, r1, r2, r3, y0, y1, y2, y3, nVZ, nZV]) rfl ⟨by rw [EV.out, EB.out]; (simp [HH.out] <;> omega), ?_⟩
              repeat (refine Below.setCell ?_ (by simp; try omega) _)
              exact B3.out
            · have cs' : decide (0 < sd) = false := by rw [decide_eq_false_iff_not]; exact cs
              have HH := hide (show (0 < sd) = False by simp [cs])
              go_wp2_with fail
              refine bodyPost_ret (v := .tuple #[.agg #[.int .i64 (b : Int), .int .i64 sd, .int .i64 z, .int .i64 (kn : Int)], .bool false]) (by simp [results, Try.results23, go_sem, r0, r1, r2, r3, y0, y1, y2, y3, nVZ, nZV]) rfl ⟨by rw [EV.out, EB.out]; (simp [HH.out] <;> omega), ?_⟩
              repeat (refine Below.setCell ?_ (by simp; try omega) _)
              exact B3.out
          · have cz' : decide (0 < z) = false := by rw [decide_eq_false_iff_not]; exact cz
            by_cases cs : 0 < sd
            · have HH := hide (show (0 < sd) = True by simp [cs])
              go_wp2_with fail
              refine bodyPost_ret (v := .tuple #[.agg #[.int .i64 (b : Int), .int .i64 sd, .int .i64 0, .int .i64 (kn : Int)], .bool true]) (by simp [results, Try.results23, go_sem, r0, r1, r2, r3, y0, y1, y2, y3, nVZ, nZV]) rfl ⟨by rw [EV.out, EB.out]; (simp [HH.out] <;> omega), ?_⟩
              repeat (refine Below.setCell ?_ (by simp; try omega) _)
              exact B3.out
            · have cs' : decide (0 < sd) = false := by rw [decide_eq_false_iff_not]; exact cs
              have HH := hide (show (0 < sd) = False by simp [cs])
              go_wp2_with fail
              refine bodyPost_ret (v := .tuple #[.agg #[.int .i64 (b : Int), .int .i64 sd, .int .i64 0, .int .i64 (kn : Int)], .bool false]) (by simp [results, Try.results23, go_sem, r0, r1, r2, r3, y0, y1, y2, y3, nVZ, nZV]) rfl ⟨by rw [EV.out, EB.out]; (simp [HH.out] <;> omega), ?_⟩
              repeat (refine Below.setCell ?_ (by simp; try omega) _)
              exact B3.out
        | false =>
          by_cases cz : 0 < z
          · have cz1 : 0 ≤ z := by omega
            have cz2 : decide (0 ≤ z) = true := decide_eq_true cz1
            by_cases cs : 0 < sd
            · have HH := hide (show (0 < sd) = True by simp [cs])
              go_wp2_with fail
              refine bodyPost_ret (v := .tuple #[.agg #[.int .i64 (b : Int), .int .i64 sd, .int .i64 z, .int .i64 lv], .bool true]) (by simp [results, Try.results23, go_sem, r0, r1, r2, r3, y0, y1, y2, y3, nVZ, nZV]) rfl ⟨by rw [EV.out, EB.out]; (simp [HH.out] <;> omega), ?_⟩
              repeat (refine Below.setCell ?_ (by simp; try omega) _)
              exact B3.out
            · have cs' : decide (0 < sd) = false := by rw [decide_eq_false_iff_not]; exact cs
              have HH := hide (show (0 < sd) = False by simp [cs])
              go_wp2_with fail
              refine bodyPost_ret (v := .tuple #[.agg #[.int .i64 (b : Int), .int .i64 sd, .int .i64 z, .int .i64 lv], .bool false]) (by simp [results, Try.results23, go_sem, r0, r1, r2, r3, y0, y1, y2, y3, nVZ, nZV]) rfl ⟨by rw [EV.out, EB.out]; (simp [HH.out] <;> omega), ?_⟩
              repeat (refine Below.setCell ?_ (by simp; try omega) _)
              exact B3.out
          · have cz' : decide (0 < z) = false := by rw [decide_eq_false_iff_not]; exact cz
            by_cases cd : 0 ≤ z
            · skip
              by_cases cs : 0 < sd
              · have HH := hide (show (0 < sd) = True by simp [cs])
                go_wp2_with fail
                refine bodyPost_ret (v := .tuple #[.agg #[.int .i64 (b : Int), .int .i64 sd, .int .i64 0, .int .i64 lv], .bool true]) (by simp [results, Try.results23, go_sem, r0, r1, r2, r3, y0, y1, y2, y3, nVZ, nZV]) rfl ⟨by rw [EV.out, EB.out]; (simp [HH.out] <;> omega), ?_⟩
                repeat (refine Below.setCell ?_ (by simp; try omega) _)
                exact B3.out
              · have cs' : decide (0 < sd) = false := by rw [decide_eq_false_iff_not]; exact cs
                have HH := hide (show (0 < sd) = False by simp [cs])
                go_wp2_with fail
                refine bodyPost_ret (v := .tuple #[.agg #[.int .i64 (b : Int), .int .i64 sd, .int .i64 0, .int .i64 lv], .bool false]) (by simp [results, Try.results23, go_sem, r0, r1, r2, r3, y0, y1, y2, y3, nVZ, nZV]) rfl ⟨by rw [EV.out, EB.out]; (simp [HH.out] <;> omega), ?_⟩
                repeat (refine Below.setCell ?_ (by simp; try omega) _)
                exact B3.out
            · have cd' : decide (0 ≤ z) = false := by rw [decide_eq_false_iff_not]; exact cd
              by_cases cs : 0 < sd
              · have HH := hide (show (0 < sd) = True by simp [cs])
                go_wp2_with fail
                refine bodyPost_ret (v := .tuple #[.agg #[.int .i64 (b : Int), .int .i64 sd, .int .i64 0, .int .i64 lv], .bool false]) (by simp [results, Try.results23, go_sem, r0, r1, r2, r3, y0, y1, y2, y3, nVZ, nZV]) rfl ⟨by rw [EV.out, EB.out]; (simp [HH.out] <;> omega), ?_⟩
                repeat (refine Below.setCell ?_ (by simp; try omega) _)
                exact B3.out
              · have cs' : decide (0 < sd) = false := by rw [decide_eq_false_iff_not]; exact cs
                have HH := hide (show (0 < sd) = False by simp [cs])
                go_wp2_with fail
                refine bodyPost_ret (v := .tuple #[.agg #[.int .i64 (b : Int), .int .i64 sd, .int .i64 0, .int .i64 lv], .bool false]) (by simp [results, Try.results23, go_sem, r0, r1, r2, r3, y0, y1, y2, y3, nVZ, nZV]) rfl ⟨by rw [EV.out, EB.out]; (simp [HH.out] <;> omega), ?_⟩
                repeat (refine Below.setCell ?_ (by simp; try omega) _)
                exact B3.out
end Vo
end Go.Proofs.Ytgmjijjckedmcaa
