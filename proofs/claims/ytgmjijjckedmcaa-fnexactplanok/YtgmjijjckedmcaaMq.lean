/- Plans: what is asked of one, in the model. -/
import Derived.Test.YtgmjijjckedmcaaMp
import Derived.Test.YtgmjijjckedmcaaMd
namespace Go.Proofs.Ytgmjijjckedmcaa
namespace Vo
open Go.ChangeShapes Go.WideShapes Go.ChangeAt Go.RowKit Go.Joins Go.Sort
open Vl Vp
set_option linter.unusedVariables false
set_option linter.unusedSimpArgs false
set_option maxRecDepth 100000 in
set_option maxHeartbeats 8000000 in
theorem specPlanOk (B : Nat) (p : PV) (w : World) (hB : B ≤ w.heap.size) (h : p.read B w) (hl : p.len 1048576) :
    Calls Try.prog 15 #[p.val] w fun e w' => e = .returned (.bool (decide (PlOk p))) ∧ Below w.heap.size w w' := by
  obtain ⟨i0, hi0, hz0, hz1, hz2⟩ := info_parts infoInt
  obtain ⟨W1, hW1⟩ : ∃ W1, w.alloc (.cells #[.slice p.v.sa p.v.sn p.v.scap, .slice p.v.ia p.v.i p.v.icap, .slice p.v.fa p.v.fn p.v.fcap, .slice p.v.ka p.v.kn p.v.kcap, .slice p.v.oa p.v.on p.v.ocap, .slice p.oa p.r p.ocap, .int .i64 p.ar] 45) = W1 := ⟨_, rfl⟩
  have B1 := hide (show Below w.heap.size w W1 by rw [← hW1]; exact (Below.refl _ _).alloc (Nat.le_refl _) _)
  have c7 := Cells7.new w (.slice p.v.sa p.v.sn p.v.scap) (.slice p.v.ia p.v.i p.v.icap) (.slice p.v.fa p.v.fn p.v.fcap) (.slice p.v.ka p.v.kn p.v.kcap) (.slice p.v.oa p.v.on p.v.ocap) (.slice p.oa p.r p.ocap) (.int .i64 p.ar) 45
  rw [hW1] at c7
  have HR := hide (h.below (B1.out.mono hB))
  have HL := hide hl
  have rl : (p.r : Int) ≤ 1048576 := hl.2
  have z1 : w.heap.size < W1.heap.size := World.block_lt_of_cell? _ _ c7.1
  have hB1 : B ≤ W1.heap.size := by omega
  have CN := hide (specNestOk B p.v W1 hB1 HR.out.1 hl.1)
  unfold NV.val at CN
  have C1 := hide c7
  obtain ⟨p0, p1, p2, p3, p4, p5, p6⟩ := c7
  unfold PV.val
  clear h hl
  go_enter Try.func15, Try.ntmps15
  by_cases d0 : NOk p.v
  case neg =>
    have e := hide (show ¬ PlOk p from fun q => d0 q.1)
    rw [decide_eq_false d0] at CN
    clear d0
    go_wp2_with fail
    refine CN.out.mono ?_
    rintro e1 W2 ⟨rfl, b2⟩
    have B2 := hide (B1.out.trans (b2.mono B1.out.size))
    go_wp2_with fail
    go_ret
    exact ⟨by rw [decide_eq_false e.out]; rfl, B2.out⟩
  rw [decide_eq_true d0] at CN
  have OK := hide d0
  clear d0
  go_wp2_with fail
  refine CN.out.mono ?_
  rintro e1 W2 ⟨rfl, b2⟩
  have B2 := hide b2
  have BW2 := hide (B1.out.trans (b2.mono B1.out.size))
  clear b2 CN p0 p1 p2 p3 p4 p5 p6 hW1
  obtain ⟨p0, p1, p2, p3, p4, p5, p6⟩ := C1.out.below B2.out z1
  by_cases d1 : p.r = p.v.sn
  case neg =>
    have e := hide (show ¬ PlOk p from fun q => d1 q.2.1)
    have d1' : ((p.r : Int) != (p.v.sn : Int)) = true := by simpa using (fun q : (p.r : Int) = p.v.sn => d1 (by omega))
    have d1'' : (p.r != p.v.sn) = true := by simpa using d1
    clear d1
    go_wp2_with fail
    go_ret
    exact ⟨by rw [decide_eq_false e.out]; rfl, BW2.out⟩
  have d1' : ((p.r : Int) != (p.v.sn : Int)) = false := by simp [d1]
  have d1'' : (p.r != p.v.sn) = false := by simp [d1]
  have ER := hide d1
  have sn200 : p.v.sn ≤ 200 := OK.out.1.1
  have r200 : p.r ≤ 200 := by omega
  clear d1
  obtain ⟨ar, har⟩ : ∃ ar, p.ar = ar := ⟨_, rfl⟩
  have mle' := lvn_le p.v
  obtain ⟨m, hm⟩ : ∃ m, lvn p.v = m := ⟨_, rfl⟩
  obtain ⟨PO, hPO⟩ : ∃ PO, pof p = PO := ⟨_, rfl⟩
  have UN := hide (show PlOk p ↔ ((∀ b, b < p.v.sn → lifeB p.v b = false → p.O b = -1) ∧ POk m (LVS p.v) m PO ∧ ar ≤ 1000000 ∧ 0 ≤ ar ∧ ∀ i, i < m → PO i + (LVS p.v i).s ≤ ar) by
    rw [← pkf_le]
    unfold PlOk
    rw [hm, hPO, har]
    exact ⟨fun q => q.2.2, fun q => ⟨OK.out, ER.out, q⟩⟩)
  have LOK := hide (show LOk m (LVS p.v) by rw [← hm]; exact lvs_ok OK.out)
  rw [har] at p6 C1
  rw [hm] at mle'
  have EM := hide hm
  have EPO := hide hPO
  by_cases a0 : ar < 0
  · have e := hide (show ¬ PlOk p from fun q => by have := (UN.out.1 q).2.2.2.1; omega)
    clear har hm hPO
    go_wp2_with fail
    go_ret
    exact ⟨by rw [decide_eq_false e.out]; rfl, BW2.out⟩
  have a0' : decide (ar < 0) = false := by rw [decide_eq_false_iff_not]; exact a0
  by_cases a1 : 1000000 < ar
  · have e := hide (show ¬ PlOk p from fun q => by have := (UN.out.1 q).2.2.1; omega)
    clear har hm hPO a0
    go_wp2_with fail
    go_ret
    exact ⟨by rw [decide_eq_false e.out]; rfl, BW2.out⟩
  have a1' : decide (1000000 < ar) = false := by rw [decide_eq_false_iff_not]; exact a1
  have ar0 : 0 ≤ ar := by omega
  have ar1 : ar ≤ 1000000 := by omega
  have CLV := hide (specLives B p.v W2 (Nat.le_trans hB1 B2.out.size) (HR.out.1.below (B2.out.mono hB1)) HL.out.1 OK.out)
  unfold NV.val at CLV
  rw [hm] at CLV
  clear har hm hPO a0 a1
  go_wp2_with fail
  refine CLV.out.mono ?_
  rintro e1 W3 ⟨ga, gc, rfl, l3, b3⟩
  have B3 := hide (B2.out.trans (b3.mono B2.out.size))
  clear b3 CLV p0 p1 p2 p3 p4 p5 p6 d1' d1'' a0' a1'
  obtain ⟨Z, hZ⟩ : ∃ Z, W3.alloc (.cells #[] 3) = Z := ⟨_, rfl⟩
  have bZ : Below W3.heap.size W3 Z := by rw [← hZ]; exact (Below.refl _ _).alloc (Nat.le_refl _) _
  have R0 := hide (show RowV W3.heap.size Z (.slice (some ⟨W3.heap.size, 0, none⟩) 0 0) 0 PO by rw [← hZ]; exact ⟨⟨rfl, .inr ⟨W3.heap.size, 0, #[], rfl, Nat.le_refl _, heap_alloc_new W3 _, Nat.le_refl _, by simp [maxLen], rfl, rfl⟩⟩, fun m hm => by omega⟩)
  have BZ := hide bZ
  have L3 := hide l3
  have PBD := hide (show ∀ k, k < m → bd (PO k) from fun k hk => by
    rw [← EPO.out]
    have q := lvs_at (v := p.v) (j := p.v.sn) (i := k) (by have := EM.out; unfold lvn at this; omega)
    exact HR.out.2.1.bd _ (by have := ER.out; omega))
  have BUF := hide (show ∀ k, k < m → ∃ n : Nat, n < p.r ∧ (LVS p.v k).b = n ∧ PO k = p.O n from fun k hk => by
    have q := lvs_at (v := p.v) (j := p.v.sn) (i := k) (by have := EM.out; unfold lvn at this; omega)
    exact ⟨(lvs p.v p.v.sn).getD k 0, by have := ER.out; omega, rfl, by rw [← EPO.out]; rfl⟩)
  have ALL := hide (fun (X : World) (hb : Below W3.heap.size W3 X) => (⟨C1.out.below (B3.out.trans (hb.mono B3.out.size)) z1, L3.out.below hb, HR.out.2.1.below ((B3.out.trans (hb.mono B3.out.size)).mono hB1), B1.out.trans ((B3.out.trans (hb.mono B3.out.size)).mono B1.out.size)⟩ : Cells7 X w.heap.size (.slice p.v.sa p.v.sn p.v.scap) (.slice p.v.ia p.v.i p.v.icap) (.slice p.v.fa p.v.fn p.v.fcap) (.slice p.v.ka p.v.kn p.v.kcap) (.slice p.v.oa p.v.on p.v.ocap) (.slice p.oa p.r p.ocap) (.int .i64 ar) ∧ LM W3.heap.size X ga m (LVS p.v) ∧ Ints B X p.oa p.r p.O ∧ Below w.heap.size w X))
  have CLF := hide (fun (X : World) (hb : Below W3.heap.size W3 X) (b : Nat) (hbs : b < p.v.sn) => lifeF B p.v b X (Nat.le_trans hB1 (Nat.le_trans B3.out.size hb.size)) (HR.out.1.below ((B3.out.trans (hb.mono B3.out.size)).mono hB1)) HL.out.1 hbs)
  unfold NV.val at CLF
  have m200 : (m : Int) ≤ 200 := by omega
  clear bZ l3
  go_wp2_with fail
  clear hZ
  go_loopw [4, 5] (fun g t wx => ∃ (k : Nat) (a : Option Addr) (c : Nat), k ≤ m ∧ t = .int .i64 k ∧ g = .slice a k c ∧ RowV W3.heap.size wx (.slice a k c) k PO ∧ (∀ q, q < k → (0 ≤ PO q ∧ PO q ≤ 1000000) ∧ PO q + (LVS p.v q).s ≤ ar) ∧ Below W3.heap.size W3 wx) (fun _ t _ => m - (intOf t).toNat)
  case atStart => exact ⟨0, _, _, Nat.zero_le _, rfl, rfl, R0.out, fun q hq => by omega, BZ.out⟩
  case round =>
    obtain ⟨X, rfl⟩ : ∃ X, X = wr := ⟨_, rfl⟩
    obtain ⟨k, a, c, hk, rfl, rfl, hrv, hf, hby⟩ := hrel
    have RV := hide hrv
    have HF := hide hf
    have HBY := hide hby
    have zX := hby.size
    obtain ⟨⟨p0, p1, p2, p3, p4, p5, p6⟩, lX, iX, bX⟩ := ALL.out X hby
    clear hrv hf hby
    by_cases hlt : k < m
    case pos =>
      have kI : (k : Int) < m := by omega
      obtain ⟨n, nlt, hbn, hpo⟩ := BUF.out k hlt
      have nI : (n : Int) < p.r := by omega
      rcases lX with h0 | ⟨lb, lo, rfl, hlb, hlc⟩
      · omega
      obtain ⟨⟨c0, c1, c2, c3⟩, _⟩ := hlc k hlt
      rw [hbn] at c0
      rcases iX with h0 | ⟨ob, oo, hoa, hob, hoc⟩
      · omega
      have co := (hoc n nlt).1
      rw [← hpo] at co
      rw [hoa] at p5
      have xs := (LOK.out.2 k hlt).1
      obtain ⟨sz, hsz⟩ : ∃ sz, (LVS p.v k).s = sz := ⟨_, rfl⟩
      rw [hsz] at c1 xs
      obtain ⟨ok, hok⟩ : ∃ z, PO k = z := ⟨_, rfl⟩
      rw [hok] at co
      have ES := hide hsz
      have EO := hide hok
      have kc0 := cell_regrown c0
      have kc1 := cell_regrown c1
      have kco := cell_regrown co
      have kp5 := cell_regrown p5
      have kp6 := cell_regrown p6
      clear hlc hoc hoa hpo hbn hsz hok
      go_wp2_with fail
      refine wp_region_quiet_below (by kernel_rfl) (by kernel_rfl) ?_
      repeat (go_big_quiet_step (fail))
      refine wpQuiet_nil ?_
      intro _ hw'
      obtain ⟨⟨dq, osq⟩, hw''⟩ := hw'
      subst hw''
      have hb4 := below_regrown X dq osq
      obtain ⟨Y, hY⟩ : ∃ Y, Sort.grow (redrawn X dq) osq = Y := ⟨_, rfl⟩
      rw [hY] at hb4 ⊢
      have HBY4 := hide (HBY.out.trans (hb4.mono zX))
      have zY := HBY4.out.size
      have RY := hide (show RowV W3.heap.size Y (.slice a k c) k PO from ⟨own_below RV.out.1 hb4, RV.out.2⟩)
      clear hY kc0 kc1 kco kp5 kp6 p0 p1 p2 p3 p4 p5 p6 co c0 c2 c3
      obtain ⟨⟨p0, p1, p2, p3, p4, p5, p6⟩, lY, iY, bY⟩ := ALL.out Y HBY4.out
      have y1 := (hb4.cell (p := ⟨lb, lo + k * 4 + 1, none⟩) (Nat.lt_of_lt_of_le hlb zX)).trans c1
      have ky1 := cell_regrown y1
      have kp6 := cell_regrown p6
      clear c1 hb4 lY iY
      by_cases t0 : ok < 0
      case pos =>
        have e := hide (show ¬ PlOk p from fun q => by have := (UN.out.1 q).2.1.2.2.1 k hlt; rw [EO.out] at this; omega)
        go_wp2_with fail
        refine wp_region_quiet_below (by kernel_rfl) (by kernel_rfl) ?_
        repeat (go_big_quiet_step (fail))
        refine wpQuiet_nil ?_
        intro _ hw'
        obtain ⟨⟨dq, osq⟩, hw''⟩ := hw'
        subst hw''
        go_wp2_with fail
        go_ret
        exact ⟨by rw [decide_eq_false e.out]; rfl, bY.trans ((below_regrown Y dq osq).mono bY.size)⟩
      have t0' : decide (ok < 0) = false := by rw [decide_eq_false_iff_not]; exact t0
      by_cases t1 : 1000000 < ok
      case pos =>
        have e := hide (show ¬ PlOk p from fun q => by have := (UN.out.1 q).2.1.2.2.1 k hlt; rw [EO.out] at this; omega)
        clear t0
        go_wp2_with fail
        refine wp_region_quiet_below (by kernel_rfl) (by kernel_rfl) ?_
        repeat (go_big_quiet_step (fail))
        refine wpQuiet_nil ?_
        intro _ hw'
        obtain ⟨⟨dq, osq⟩, hw''⟩ := hw'
        subst hw''
        go_wp2_with fail
        go_ret
        exact ⟨by rw [decide_eq_false e.out]; rfl, bY.trans ((below_regrown Y dq osq).mono bY.size)⟩
      have t1' : decide (1000000 < ok) = false := by rw [decide_eq_false_iff_not]; exact t1
      have ws : IntKind.i64.wrap (ok + sz) = ok + sz := by rw [IntKind.wrap_i64]; omega
      by_cases t2 : ar < ok + sz
      case pos =>
        have e := hide (show ¬ PlOk p from fun q => by have := (UN.out.1 q).2.2.2.2 k hlt; rw [EO.out, ES.out] at this; omega)
        clear t0 t1
        go_wp2_with fail
        refine wp_region_quiet_below (by kernel_rfl) (by kernel_rfl) ?_
        repeat (go_big_quiet_step (fail))
        refine wpQuiet_nil ?_
        intro _ hw'
        obtain ⟨⟨dq, osq⟩, hw''⟩ := hw'
        subst hw''
        go_wp2_with fail
        go_ret
        exact ⟨by rw [decide_eq_false e.out]; rfl, bY.trans ((below_regrown Y dq osq).mono bY.size)⟩
      have t2' : decide (ar < ok + sz) = false := by rw [decide_eq_false_iff_not]; exact t2
      have f := hide (show ∀ q, q < k + 1 → (0 ≤ PO q ∧ PO q ≤ 1000000) ∧ PO q + (LVS p.v q).s ≤ ar from fun q hq => by
        by_cases cq : q = k
        · rw [cq, EO.out, ES.out]; omega
        · exact HF.out q (by omega))
      clear t0 t1 t2
      go_wp2_with fail
      refine wp_region_quiet_below (by kernel_rfl) (by kernel_rfl) ?_
      repeat (go_big_quiet_step (fail))
      refine wpQuiet_nil ?_
      intro _ hw'
      obtain ⟨⟨dq, osq⟩, hw''⟩ := hw'
      subst hw''
      have hb5 := below_regrown Y dq osq
      obtain ⟨V, hV⟩ : ∃ V, Sort.grow (redrawn Y dq) osq = V := ⟨_, rfl⟩
      rw [hV] at hb5 ⊢
      have HBV := hide (HBY4.out.trans (hb5.mono zY))
      have zV := HBV.out.size
      have RVV := hide (show RowV W3.heap.size V (.slice a k c) k PO from ⟨own_below RY.out.1 hb5, RY.out.2⟩)
      have BO := hide (PBD.out k hlt)
      clear hV hb5 ky1 kp6 y1 p0 p1 p2 p3 p4 p5 p6 bY t0' t1' t2' ws
      go_wp2_with (at_builtin; refine wpList_append_own _ rfl _ _ 22 rfl W3.heap.size 3 i0 (.int .i64 0) 1 8 Try.underlying22 hi0 hz0 hz1 hz2 rfl (by decide) _ _ _ rfl (RVV.out.1.alloc _) ⟨V.heap.size, 0, none⟩ 1 1 [.int .i64 ok] rfl rfl (World.news_of_block (cs := #[.int .i64 ok]) (t := 3) (fr := (0, 0)) (heap_alloc_new V _)) (by simp [Value.oneCell']) (by unfold maxLen; omega) (by omega) (by simp; omega) ?_; intro v' X3 hown1 hgrow1 _)
      go_roundw
      case rel =>
        rw [← EO.out, ints_succ] at hown1
        have rv : RowV W3.heap.size X3 v' (k + 1) PO := ⟨hown1, fun q hq => by
          by_cases cq : q = k
          · rw [cq]; exact BO.out
          · exact RV.out.2 q (by omega)⟩
        obtain ⟨a', c', rfl, _⟩ := RowV.own rv
        exact ⟨k + 1, a', c', by omega, by go_num, rfl, rv, f.out, grow_kept RVV.out _ hgrow1.os hgrow1.tape hgrow1.output hgrow1.size (fun b hb hn => hgrow1.block b hb (fun q => hn q.symm)) HBV.out zV⟩
      case measure => simp [intOf]; omega
    case neg =>
      obtain rfl : k = m := by omega
      obtain ⟨av, cv, hav, hO⟩ := RowV.own RV.out
      cases hav
      have XI := hide hO.ints
      have XX := hide (HBY.out)
      clear hO
      go_wp2_with fail
      clear p0 p1 p2 p3 p4 p5 p6 lX iX bX
      go_loopw [7] (fun t wx => ∃ b : Nat, b ≤ p.r ∧ t = .int .i64 b ∧ (∀ q, q < b → lifeB p.v q = false → p.O q = -1) ∧ Below X.heap.size X wx) (fun t _ => p.r - (intOf t).toNat)
      case atStart => exact ⟨0, Nat.zero_le _, rfl, fun q hq => by omega, Below.refl _ _⟩
      case round =>
        obtain ⟨Y, rfl⟩ : ∃ Y, Y = wr := ⟨_, rfl⟩
        obtain ⟨b, hb, rfl, hg, hby⟩ := hrel
        have HG := hide hg
        have HBX := hide hby
        have HBY2 := hide (HBY.out.trans (hby.mono zX))
        obtain ⟨⟨p0, p1, p2, p3, p4, p5, p6⟩, lY, iY, bY⟩ := ALL.out Y HBY2.out
        clear hg hby
        by_cases hlb : b < p.r
        case pos =>
          have bI : (b : Int) < p.r := by omega
          have CL := hide (CLF.out Y HBY2.out b (by have := ER.out; omega))
          rcases iY with h0 | ⟨ob, oo, hoa, hob, hoc⟩
          · omega
          have co := (hoc b hlb).1
          rw [hoa] at p5
          obtain ⟨x, hx⟩ : ∃ x, lifeV p.v b = x := ⟨_, rfl⟩
          rw [hx] at CL
          clear hoc hoa hx lY
          cases hb1 : lifeB p.v b with
          | true =>
            rw [hb1] at CL
            have f := hide (show ∀ q, q < b + 1 → lifeB p.v q = false → p.O q = -1 from fun q hq hlq => by
              by_cases cq : q = b
              · rw [cq, hb1] at hlq; cases hlq
              · exact HG.out q (by omega) hlq)
            clear hb1
            go_wp2_with fail
            refine CL.out.mono ?_
            rintro e1 Y1 ⟨rfl, b1⟩
            have B1' := hide (HBX.out.trans ((b1.trans ((Below.refl Y1.heap.size Y1).alloc (Nat.le_refl _) (.cells #[.int .i64 x.b, .int .i64 x.s, .int .i64 x.f, .int .i64 x.t] 54) |>.mono b1.size)).mono HBX.out.size))
            clear b1 CL p0 p1 p2 p3 p4 p5 p6 co
            go_wp2_with fail
            go_roundw
            all_goals first
              | (simp only [intOf]; omega)
              | (simp [intOf]; omega)
              | exact ⟨b + 1, by omega, by go_num, f.out, B1'.out⟩
          | false =>
            rw [hb1] at CL
            have HB1 := hide hb1
            clear hb1
            go_wp2_with fail
            refine CL.out.mono ?_
            rintro e1 Y1 ⟨rfl, b1⟩
            obtain ⟨U, hU⟩ : ∃ U, Y1.alloc (.cells #[.int .i64 x.b, .int .i64 x.s, .int .i64 x.f, .int .i64 x.t] 54) = U := ⟨_, rfl⟩
            have bU : Below Y1.heap.size Y1 U := by rw [← hU]; exact (Below.refl _ _).alloc (Nat.le_refl _) _
            have BU := hide (HBX.out.trans ((b1.trans (bU.mono b1.size)).mono HBX.out.size))
            have BU2 := hide (HBY.out.trans (BU.out.mono zX))
            have u5 := (bU.cell (p := ⟨w.heap.size, 5, none⟩) (Nat.lt_of_lt_of_le (Nat.lt_of_lt_of_le z1 (Nat.le_trans B3.out.size HBY2.out.size)) b1.size)).trans ((b1.cell (p := ⟨w.heap.size, 5, none⟩) (Nat.lt_of_lt_of_le z1 (Nat.le_trans B3.out.size HBY2.out.size))).trans p5)
            have uo := (bU.cell (p := ⟨ob, oo + b, none⟩) (Nat.lt_of_lt_of_le (Nat.lt_of_lt_of_le hob (Nat.le_trans hB1 (Nat.le_trans B3.out.size HBY2.out.size))) b1.size)).trans ((b1.cell (p := ⟨ob, oo + b, none⟩) (Nat.lt_of_lt_of_le hob (Nat.le_trans hB1 (Nat.le_trans B3.out.size HBY2.out.size)))).trans co)
            obtain ⟨z, hz⟩ : ∃ z, p.O b = z := ⟨_, rfl⟩
            rw [hz] at uo
            have EZ := hide hz
            have bwU := hide ((ALL.out U BU2.out).2.2.2)
            clear b1 bU CL p0 p1 p2 p3 p4 p5 p6 co hz
            by_cases t0 : z = -1
            · have t0' : (z != -1) = false := by simp [t0]
              have f := hide (show ∀ q, q < b + 1 → lifeB p.v q = false → p.O q = -1 from fun q hq hlq => by
                by_cases cq : q = b
                · rw [cq, EZ.out]; exact t0
                · exact HG.out q (by omega) hlq)
              clear t0
              go_wp2_with fail
              go_roundw
              all_goals first
                | (simp only [intOf]; omega)
                | (simp [intOf]; omega)
                | exact ⟨b + 1, by omega, by go_num, f.out, BU.out⟩
            · have t0' : (z != -1) = true := by simp [t0]
              have e := hide (show ¬ PlOk p from fun q => t0 (by have := (UN.out.1 q).1 b (by have := ER.out; omega) HB1.out; rw [EZ.out] at this; exact this))
              clear t0
              go_wp2_with fail
              go_ret
              exact ⟨by rw [decide_eq_false e.out]; rfl, bwU.out⟩
        case neg =>
          obtain rfl : b = p.r := by omega
          have CP := hide (specPackOk Y.heap.size ga k gc (LVS p.v) a k c PO Y (Nat.le_refl _) (lY.mono (HBY2.out.size)) ((XI.out.below HBX.out).mono HBX.out.size) (by omega) (by omega))
          have e := hide (show decide (POk k (LVS p.v) k PO) = decide (PlOk p) from decide_eq_decide.2 ⟨fun q => UN.out.2 ⟨fun b hb hl => HG.out b (by have := ER.out; omega) hl, q, ar1, ar0, fun i hi => (HF.out i hi).2⟩, fun q => (UN.out.1 q).2.1⟩)
          rw [e.out] at CP
          have bw := hide bY
          go_wp2_with fail
          refine CP.out.mono ?_
          rintro e1 Y2 ⟨rfl, b2⟩
          have B9 := hide (bw.out.trans (b2.mono bw.out.size))
          go_wp2_with fail
          go_ret
          exact ⟨rfl, B9.out⟩
end Vo
end Go.Proofs.Ytgmjijjckedmcaa
