/- Pack of the program. -/
import Derived.Test.YtbdcbanbnbaoiaaHf
namespace Go.Proofs.Ytbdcbanbnbaoiaa
namespace Vo
open Go.ChangeShapes Go.WideShapes Go.ChangeAt Go.RowKit Go.Joins Go.Sort
open Vl Vp
set_option linter.unusedVariables false
set_option linter.unusedSimpArgs false
section
variable {P : Program} {ops : Array Oper} {C : World → Prop} {a : Act} {o : Oper}
theorem quiet_valH {K : Act → Prop} (v : Value) (hr : ∀ w, (execOp a.eval o).run P w = .ok (.value v) w) (hk : K (a.put o.dst v)) : o.quiet P a C K :=
  ⟨v, fun w _ => by unfold Oper.quietAt; rw [hr]; exact ⟨rfl, rfl⟩, hk⟩
end
theorem runFieldH {o : Oper} {A : Act} {w : World} {x : Operand} {u y : Int} (ho : o.op = .field 40 x 1) (hx : A.eval x = .agg #[.int .i64 u, .int .i64 y]) : (execOp A.eval o).run Try.prog w = .ok (.value (.int .i64 y)) w := by
  have hfd : ∀ w : World, (Instr.field 40 (.agg #[.int .i64 u, .int .i64 y]) 1).run Try.prog w = .ok (.int .i64 y) w := fun _ => by kernel_rfl
  unfold execOp
  rw [ho]
  simp only [hx]
  go_simp
set_option maxRecDepth 100000 in
set_option maxHeartbeats 4000000 in
theorem peakF (B : Nat) (a : Option Addr) (m cap : Nat) (C : Nat → MV) (oa : Option Addr) (ocap : Nat) (O : Nat → Int) (w : World) (hB : B ≤ w.heap.size) (h : LM B w a m C) (h' : Ints B w oa m O) (hL : LOk m C) (hO : WI m O 1000001) :
    Calls Try.prog 19 #[.slice a m cap, .slice oa m ocap] w fun e w' => e = .returned (.int .i64 (mxE C O m)) ∧ Below w.heap.size w w' := by
  have H := hide h
  have H' := hide h'
  have HL := hide hL
  have HO := hide hO
  have m200 : (m : Int) ≤ 200 := by have := hL.1; omega
  clear h h' hL hO
  go_enter Try.func19, Try.ntmps19
  go_wp2_with fail
  go_loopw [5, 10] (fun v i wx => ∃ (k : Nat) (s : Int), k ≤ m ∧ i = .int .i64 k ∧ v = .int .i64 s ∧ s = mxE C O k ∧ Below w.heap.size w wx) (fun _ i _ => m - (intOf i).toNat)
  case atStart => exact ⟨0, 0, Nat.zero_le _, rfl, rfl, rfl, Below.refl _ _⟩
  case round =>
    obtain ⟨X, rfl⟩ : ∃ X, X = wr := ⟨_, rfl⟩
    obtain ⟨k, s, hk, rfl, rfl, hs, hby⟩ := hrel
    have HS := hide hs
    have HBY := hide hby
    clear hs hby
    by_cases hlt : k < m
    case neg =>
      obtain rfl : k = m := by omega
      go_wp2_with fail
      go_ret
      exact ⟨by rw [← HS.out]; rfl, HBY.out⟩
    have kI : (k : Int) < m := by omega
    rcases H.out.below (HBY.out.mono hB) with h0 | ⟨b, off, rfl, hbB, hc⟩
    · omega
    obtain ⟨⟨c0, c1, c2, c3⟩, _⟩ := hc k hlt
    rcases H'.out.below (HBY.out.mono hB) with h0 | ⟨ob, oo, rfl, hob, hoc⟩
    · omega
    obtain ⟨x, hx⟩ : ∃ x, C k = x := ⟨_, rfl⟩
    rw [hx] at c0 c1 c2 c3
    have mx := HL.out.2 k hlt
    rw [hx] at mx
    have po := (hoc k hlt).1
    have ho := HO.out k hlt
    obtain ⟨ok, hok⟩ : ∃ z, O k = z := ⟨_, rfl⟩
    rw [hok] at po ho
    have e2 := hide (show (if s < ok + x.s then ok + x.s else s) = mxE C O (k + 1) by
      show _ = if mxE C O k < O k + (C k).s then O k + (C k).s else mxE C O k
      rw [hx, hok, ← HS.out])
    obtain ⟨Y, hY⟩ : ∃ Y, X.alloc (.cells #[.int .i64 x.b, .int .i64 x.s, .int .i64 x.f, .int .i64 x.t] 31) = Y := ⟨_, rfl⟩
    have bY : Below X.heap.size X Y := by rw [← hY]; exact (Below.refl _ _).alloc (Nat.le_refl _) _
    have mc := mcells X (.int .i64 x.b) (.int .i64 x.s) (.int .i64 x.f) (.int .i64 x.t) 31
    rw [hY] at mc
    obtain ⟨m0, m1, m2, m3⟩ := mc
    have po2 := (bY.cell (p := ⟨ob, oo + k, none⟩) (Nat.lt_of_lt_of_le hob (Nat.le_trans hB HBY.out.size))).trans po
    have BY := hide (HBY.out.trans (bY.mono HBY.out.size))
    have km0 := cell_regrown m0
    have km1 := cell_regrown m1
    have km2 := cell_regrown m2
    have km3 := cell_regrown m3
    have kp := cell_regrown po2
    have c1x := hide (fun (q1 : Nat) (os : Array Obj) => show Calls Try.prog 16 #[.agg #[.int .i64 x.b, .int .i64 x.s, .int .i64 x.f, .int .i64 x.t], .int .i64 ok] (Sort.grow (redrawn Y q1) os) (fun e w'' => e = .returned (.agg #[.int .i64 ok, .int .i64 (ok + x.s)]) ∧ ∃ p : Regrown, w'' = Sort.grow (redrawn Y p.d) p.os) from Calls.regrown_of (roomAtF x ok _ ho mx))
    obtain ⟨ed, hed⟩ : ∃ z, ok + x.s = z := ⟨_, rfl⟩
    rw [hed] at e2 c1x
    clear hc hoc hx hok hed bY mx ho
    go_wp2_with fail
    clear hY c0 c1 c2 c3 po
    refine wp_region_quiet_below (by kernel_rfl) (by kernel_rfl) ?_
    repeat (go_big_quiet_step (first | (go_at_call 16; exact c1x.out _ _)))
    refine BigFrame.wpQuiet_want (by rfl) (fun K hK => quiet_valH (.int .i64 ed) (fun W => runFieldH rfl rfl) (hK _ ?_))
    simp only [Act.put, List.setIfInBounds_toArray, List.set_cons_succ, List.set_cons_zero]
    repeat (go_big_quiet_step (fail))
    refine wpQuiet_nil ?_
    intro _ hw'
    obtain ⟨⟨dq, osq⟩, hw''⟩ := hw'
    subst hw''
    go_wp2_with fail
    go_roundw
    all_goals first
      | (simp only [intOf]; omega)
      | (simp [intOf]; omega)
      | exact ⟨k + 1, _, by omega, by go_num, rfl, e2.out, BY.out.trans ((below_regrown Y dq osq).mono BY.out.size)⟩
/-- how many offsets, which peak -/
def pkN (n : Nat) (C : Nat → MV) : Nat := if LOk n C then n else 0
def pkK (n : Nat) (C : Nat → MV) : Int := if LOk n C then pkP n C n else 0
def PackR (B n : Nat) (C : Nat → MV) (w : World) (e : Ending) (w' : World) : Prop := ∃ oa oc, e = .returned (.tuple #[.slice oa (pkN n C) oc, .int .i64 (pkK n C)]) ∧ OwnL B w' oa (pkN n C) (pkO n C n) ∧ Below w.heap.size w w'
set_option maxRecDepth 100000 in
set_option maxHeartbeats 8000000 in
theorem packF (B : Nat) (a : Option Addr) (n cap : Nat) (C : Nat → MV) (w : World) (hB : B ≤ w.heap.size) (h : LM B w a n C) (hn : (n : Int) ≤ 1048576) :
    Calls Try.prog 6 #[.slice a n cap] w fun e w' => PackR w.heap.size n C w e w' := by
  have CL := hide (livesFitF B a n cap C w hB h hn)
  have H := hide h
  clear h
  go_enter Try.func6, Try.ntmps6
  go_wp2_with fail
  refine CL.out.mono ?_
  rintro e W1 ⟨rfl, b1⟩
  have B1 := hide b1
  have H1 := hide (H.out.below (b1.mono hB))
  have s1 := b1.size
  clear b1 CL
  by_cases hL : LOk n C
  case neg =>
    have e1 := hide (show pkN n C = 0 by unfold pkN; rw [if_neg hL])
    have e2 := hide (show pkK n C = 0 by unfold pkK; rw [if_neg hL])
    rw [decide_eq_false hL]
    clear hL
    go_wp2_with fail
    refine bodyPost_ret (v := .tuple #[.slice (some ⟨W1.heap.size, 0, none⟩) 0 0, .int .i64 0]) (by simp [results, Try.results6, go_sem]) rfl ?_
    exact ⟨_, _, by rw [e1.out, e2.out], .inl e1.out, B1.out.alloc s1 _⟩
  rw [decide_eq_true hL]
  have e1 := hide (show pkN n C = n by unfold pkN; rw [if_pos hL])
  have e2 := hide (show pkK n C = pkP n C n by unfold pkK; rw [if_pos hL])
  have n2 : n ≤ 200 := hL.1
  have HL := hide hL
  clear hL
  have hmk := make_int n (by omega)
  obtain ⟨W2, hW2⟩ : ∃ W2, W1.alloc (.cells (madeCells #[.int .i64 0] n) 3) = W2 := ⟨_, rfl⟩
  have R2 := hide (show Rw W2 W1.heap.size n (fun _ => 0) by rw [← hW2]; exact rw_new W1 n _)
  have b2 : Below W1.heap.size W1 W2 := by rw [← hW2]; exact (Below.refl _ _).alloc (Nat.le_refl _) _
  have z2 : W1.heap.size < W2.heap.size := by rw [← hW2]; simp
  have B2 := hide (B1.out.trans (b2.mono s1))
  have H2 := hide (H1.out.below (b2.mono (by omega)))
  have CP := hide (placesM B n cap a C W2 (by omega) H2.out (by omega) HL.out.2)
  clear b2
  go_wp2_with fail
  clear hmk hW2
  refine CP.out.mono ?_
  rintro e W3 ⟨gE, rfl, g1, g2, re, b3⟩
  have RE := hide re
  have R3 := hide (R2.out.below b3 z2)
  have B3 := hide (B2.out.trans (b3.mono B2.out.size))
  have H3 := hide (H2.out.below (b3.mono (by omega)))
  have s3 := b3.size
  obtain ⟨g0, hg0⟩ : ∃ g0, g0 = W1.heap.size := ⟨_, rfl⟩
  have G0 := hide hg0
  rw [← hg0] at R3 ⊢
  have gl0 : w.heap.size ≤ g0 := by omega
  have gl1 : g0 < W3.heap.size := by omega
  have gne : gE ≠ g0 := by omega
  have gle : w.heap.size ≤ gE := by omega
  clear re b3 CP hg0
  go_wp2_with fail
  go_loopw [22] (fun i wx => ∃ (d : Nat) (P : Nat → Int), d ≤ n ∧ i = .int .i64 d ∧ Rw wx g0 n P ∧ Rw wx gE n (fun k => (So.ord (keyM C) n k : Nat)) ∧ (∀ q, q < d → P (So.ord (keyM C) n q) = pkO n C d (So.ord (keyM C) n q)) ∧ PkI n C d ∧ LM B wx a n C ∧ Below w.heap.size w wx ∧ W3.heap.size ≤ wx.heap.size) (fun i _ => n - (intOf i).toNat)
  case atStart => exact ⟨0, fun _ => 0, Nat.zero_le _, rfl, R3.out, RE.out, fun q hq => by omega, PkI.zero n C, H3.out, B3.out, Nat.le_refl _⟩
  case round =>
    obtain ⟨X, rfl⟩ : ∃ X, X = wr := ⟨_, rfl⟩
    obtain ⟨d, P, hd, rfl, hP, hE, hpo, hpi, hlm, hby, hsz⟩ := hrel
    have HP := hide hP
    have HE := hide hE
    have HPO := hide hpo
    have HPI := hide hpi
    have HLM := hide hlm
    have HBY := hide hby
    clear hP hE hpo hpi hlm hby
    by_cases hlt : d < n
    case neg =>
      obtain rfl : d = n := by omega
      have RP := hide (HP.out.same (E := pkO d C d) (fun p hp => by
        have := HPO.out _ (So.rnk_len (K := keyM C) hp)
        rw [So.ord_rnk hp] at this
        exact this.symm))
      have WP := hide (show WI d (pkO d C d) 1000001 from fun p hp => by
        have q := HPI.out.rng (Nat.le_refl _) HL.out p hp
        have r := q.2.2.2 (So.rnk_len (K := keyM C) hp)
        have t := (HL.out.2 p hp).1
        omega)
      have CK := hide (peakF X.heap.size a d cap C (some ⟨g0, 0, none⟩) d (pkO d C d) X (Nat.le_refl _) (HLM.out.mono (by have := HBY.out.size; omega)) (RP.out.ints (by omega)) HL.out WP.out)
      rw [peak_same, ← e2.out] at CK
      go_wp2_with fail
      refine CK.out.mono ?_
      rintro e W5 ⟨rfl, b5⟩
      have O5 := hide (show OwnL w.heap.size W5 (some ⟨g0, 0, none⟩) d (pkO d C d) from .inr ⟨g0, rfl, gl0, RP.out.below b5 (by omega)⟩)
      have B5 := hide (HBY.out.trans (b5.mono HBY.out.size))
      clear b5 CK
      go_wp2_with fail
      refine bodyPost_ret (v := .tuple #[.slice (some ⟨g0, 0, none⟩) d d, .int .i64 (pkK d C)]) (by simp [results, Try.results6, go_sem]) rfl ?_
      exact ⟨_, _, by rw [e1.out], by rw [e1.out]; exact O5.out, B5.out⟩
    obtain ⟨i, hi⟩ : ∃ i, So.ord (keyM C) n d = i := ⟨_, rfl⟩
    have iO := (So.ord_is (K := keyM C) hlt).1
    rw [hi] at iO
    have dI : (d : Int) < n := by omega
    have iI : (i : Int) < n := by omega
    obtain ⟨ce, _, _⟩ := HE.out d hlt
    dsimp only at ce
    rw [hi] at ce
    have EI := hide hi
    clear hi
    obtain ⟨Y, hY⟩ : ∃ Y, X.alloc (.cells #[.int .i64 0, .int .i64 1000000] 40) = Y := ⟨_, rfl⟩
    have bY : Below X.heap.size X Y := by rw [← hY]; exact (Below.refl _ _).alloc (Nat.le_refl _) _
    have zY : Y.heap.size = X.heap.size + 1 := by rw [← hY]; simp
    have ORY := hide (show OR X.heap.size Y X.heap.size 1 (fun _ => ⟨0, 1000000⟩) from ⟨Nat.le_refl _, by omega, fun q hq => by
      have : q = 0 := by omega
      subst this
      rw [← hY]
      constructor <;> simp [go_sem], fun q => by rw [← hY]; simp [go_sem]⟩)
    have BY := hide bY
    have FR0 := hide (show Fre 1 (fun _ => ⟨0, 1000000⟩) (frT n C (pkO n C d) i 0) from fre_all.congr (fun x => ⟨fun _ q hq => by omega, fun _ => trivial⟩))
    have lX : w.heap.size ≤ X.heap.size := HBY.out.size
    clear bY
    go_wp2_with fail
    clear hY
    go_loopw [8, 33] (fun v t' wx => ∃ (t gf m cf : Nat) (D : Nat → RV), t ≤ d ∧ t' = .int .i64 t ∧ v = .slice (some ⟨gf, 0, none⟩) m cf ∧ m ≤ cf ∧ OR X.heap.size wx gf m D ∧ Fre m D (frT n C (pkO n C d) i t) ∧ Below X.heap.size X wx) (fun _ t' _ => d - (intOf t').toNat)
    case atStart => exact ⟨0, X.heap.size, 1, 1, _, Nat.zero_le _, rfl, rfl, Nat.le_refl _, ORY.out, FR0.out, BY.out⟩
    case round =>
      obtain ⟨V, rfl⟩ : ∃ V, V = wr := ⟨_, rfl⟩
      obtain ⟨t, gf, m, cf, D, ht, rfl, rfl, hmc, hor, hfr, hbv⟩ := hrel
      have HOR := hide hor
      have HFR := hide hfr
      have HBV := hide hbv
      have lV : X.heap.size ≤ V.heap.size := hbv.size
      clear hor hfr hbv
      by_cases htd : t < d
      case neg =>
        obtain rfl : t = d := by omega
        have FI := first_is HPI.out hlt HL.out (by rw [EI.out]; exact HFR.out)
        rw [EI.out] at FI
        obtain ⟨f1, f2, f3, f4⟩ := FI
        have PN := hide (HPI.out.next hlt HL.out (by rw [EI.out]; exact f3) (by rw [EI.out]; exact f4))
        obtain ⟨bb, hbb⟩ : ∃ bb, bst n C (pkO n C t) i n = bb := ⟨_, rfl⟩
        rw [hbb] at f2 f3 f4
        rcases HLM.out.below (HBV.out.mono (by omega)) with h0 | ⟨b, off, rfl, hbB, hc⟩
        · omega
        obtain ⟨⟨_, d1, _, _⟩, _⟩ := hc i iO
        obtain ⟨z, hz⟩ : ∃ z, (C i).s = z := ⟨_, rfl⟩
        rw [hz] at d1 f1 f2
        have CW := hide (withoutF X.heap.size gf m cf z D V HOR.out (by have := HFR.out.len; omega) hmc HFR.out.rb)
        have NEW := hide (show pkO n C (t + 1) i = bb by have := pk_new n t C; rw [EI.out, hbb] at this; exact this)
        have gf1 := HOR.out.lo
        have F2 := hide f2
        have bbd := hide (show bd bb by unfold bd; omega)
        have lp : (0 : Int) < ((kr z D m).length : Nat) := by omega
        have F1 := hide f1
        have lpN : 0 < (kr z D m).length := f1
        clear hc f1 f2 hbb hz
        go_wp2_with fail
        refine CW.out.mono ?_
        rintro e V6 ⟨rfl, o6, k6⟩
        obtain ⟨q0, q1⟩ := o6.laid 0 F1.out
        rw [show (lfR z D m 0).f = bb from F2.out] at q0
        have q0' : V6.cell? ⟨gf, 0, none⟩ = some (.int .i64 bb) := by simpa using q0
        have RP6 := hide ((HP.out.below HBV.out (by omega)).kept k6 (by show ¬ g0 = gf; omega))
        have RE6 := hide ((HE.out.below HBV.out (by omega)).kept k6 (by show ¬ gE = gf; omega))
        have KB := hide (show Below w.heap.size X V6 from (HBV.out.mono lX).trans (k6.below (by omega) (fun q e => by have e : q = gf := e; omega)))
        obtain ⟨r1, r2, _⟩ := RP6.out i iO
        have s6 := k6.size
        clear q0 q1 o6 k6
        go_wp2_with fail
        go_roundw
        all_goals first
          | (simp only [intOf]; omega)
          | (simp [intOf]; omega)
          | exact ⟨t + 1, _, by omega, by go_num, RP6.out.set i bb bbd.out, RE6.out.kept (Kept.setCell _ ⟨g0, i, none⟩ _) (by show ¬ gE = g0; exact gne), fun q hq => by
              by_cases e : q = t
              · subst e
                rw [EI.out, NEW.out, if_pos rfl]
              · have ne : So.ord (keyM C) n q ≠ i := fun ee => e (ord_inj (K := keyM C) (by omega) hlt (by rw [EI.out]; exact ee))
                rw [if_neg ne, HPO.out q (by omega), pk_old hlt (by omega) e], PN.out, (HLM.out.below (KB.out.mono hB)).below (((Below.refl B V6)).setCell (p := ⟨g0, i, none⟩) (by show B ≤ g0; omega) _), (HBY.out.trans KB.out).setCell (p := ⟨g0, i, none⟩) gl0 _, by have := lV; simp [World.setCell]; omega⟩
      have tI : (t : Int) < d := by omega
      obtain ⟨p, hp⟩ : ∃ p, So.ord (keyM C) n t = p := ⟨_, rfl⟩
      have pO := (So.ord_is (K := keyM C) (show t < n by omega)).1
      rw [hp] at pO
      have pI : (p : Int) < n := by omega
      obtain ⟨cp, _, _⟩ := (HE.out.below HBV.out (by omega)) t (by omega)
      dsimp only at cp
      rw [hp] at cp
      have EP := hide hp
      clear hp
      rcases HLM.out.below (HBV.out.mono (by omega)) with h0 | ⟨b, off, rfl, hbB, hc⟩
      · omega
      obtain ⟨⟨c0, c1, c2, c3⟩, _⟩ := hc p pO
      obtain ⟨⟨d0, d1, d2, d3⟩, _⟩ := hc i iO
      obtain ⟨x, hx⟩ : ∃ x, C p = x := ⟨_, rfl⟩
      obtain ⟨y, hy⟩ : ∃ y, C i = y := ⟨_, rfl⟩
      rw [hx] at c0 c1 c2 c3
      rw [hy] at d0 d1 d2 d3
      have mx := HL.out.2 p pO
      rw [hx] at mx
      have EX := hide hx
      have EY := hide hy
      clear hc hx hy
      have k0 := cell_regrown c0
      have k1 := cell_regrown c1
      have k2 := cell_regrown c2
      have k3 := cell_regrown c3
      have l0 := cell_regrown d0
      have l1 := cell_regrown d1
      have l2 := cell_regrown d2
      have l3 := cell_regrown d3
      have cm := hide (fun (q1 : Nat) (os : Array Obj) => show Calls Try.prog 15 #[.agg #[.int .i64 x.b, .int .i64 x.s, .int .i64 x.f, .int .i64 x.t], .agg #[.int .i64 y.b, .int .i64 y.s, .int .i64 y.f, .int .i64 y.t]] (Sort.grow (redrawn V q1) os) (fun e w'' => e = .returned (.bool (decide (meet x y))) ∧ ∃ p : Regrown, w'' = Sort.grow (redrawn V p.d) p.os) from Calls.regrown_of (meetsF x y _))
      by_cases hm : meet x y
      case neg =>
        simp only [decide_eq_false hm] at cm
        have FN := hide (HFR.out.congr (G := frT n C (pkO n C d) i (t + 1)) (fun z => ⟨fun hf q hq hmm => by
          by_cases e : q = t
          · subst e
            rw [EP.out, EX.out, EY.out] at hmm
            exact absurd hmm hm
          · exact hf q (by omega) hmm, fun hf q hq hmm => hf q (by omega) hmm⟩))
        clear hm
        go_wp2_with fail
        refine wp_region_quiet_below (by kernel_rfl) (by kernel_rfl) ?_
        repeat (go_big_quiet_step (first | (go_at_call 15; exact cm.out _ _)))
        refine wpQuiet_nil ?_
        intro _ hw'
        obtain ⟨⟨dq, osq⟩, hw''⟩ := hw'
        subst hw''
        have bz := below_regrown V dq osq
        have O2 := hide (HOR.out.below bz)
        have B2' := hide (HBV.out.trans (bz.mono lV))
        clear bz
        go_wp2_with fail
        go_roundw
        all_goals first
          | (simp only [intOf]; omega)
          | (simp [intOf]; omega)
          | exact ⟨t + 1, gf, m, cf, D, by omega, by go_num, rfl, hmc, O2.out, FN.out, B2'.out⟩
      simp only [decide_eq_true hm] at cm
      obtain ⟨o, ho⟩ : ∃ o, pkO n C d p = o := ⟨_, rfl⟩
      have oR := HPI.out.yes t htd
      rw [EP.out, ho, EX.out] at oR
      have n200 : (n : Int) ≤ 200 := by omega
      obtain ⟨cq, _, _⟩ := (HP.out.below HBV.out (by omega)) p pO
      rw [show P p = o by have := HPO.out t htd; rw [EP.out, ho] at this; exact this] at cq
      have FN := hide ((HFR.out.take (a := o) (b := o + x.s) (by have := mx.1; omega)).congr (G := frT n C (pkO n C d) i (t + 1)) (fun z => ⟨fun hf q hq hmm => by
        by_cases e : q = t
        · subst e
          rw [EP.out, ho, EX.out]
          exact hf.2
        · exact hf.1 q (by omega) hmm, fun hf => ⟨fun q hq hmm => hf q (by omega) hmm, by
          have := hf t (by omega) (by rw [EP.out, EX.out, EY.out]; exact hm)
          rw [EP.out, ho, EX.out] at this
          exact this⟩⟩))
      have mx1 := mx.1
      have CRM := hide (fun W => roomAtF x o W (by omega) mx)
      clear hm
      go_wp2_with fail
      refine wp_region_quiet_below (by kernel_rfl) (by kernel_rfl) ?_
      repeat (go_big_quiet_step (first | (go_at_call 15; exact cm.out _ _)))
      refine wpQuiet_nil ?_
      intro _ hw'
      obtain ⟨⟨dq, osq⟩, hw''⟩ := hw'
      subst hw''
      have bz := below_regrown V dq osq
      generalize Sort.grow (redrawn V dq) osq = V2 at bz ⊢
      have O2 := hide (HOR.out.below bz)
      have B2' := hide (HBV.out.trans (bz.mono lV))
      have lb : b < V.heap.size := by omega
      replace c0 := (bz.cell (p := ⟨b, off + p * 4, none⟩) lb).trans c0
      replace c1 := (bz.cell (p := ⟨b, off + p * 4 + 1, none⟩) lb).trans c1
      replace c2 := (bz.cell (p := ⟨b, off + p * 4 + 2, none⟩) lb).trans c2
      replace c3 := (bz.cell (p := ⟨b, off + p * 4 + 3, none⟩) lb).trans c3
      replace cq := (bz.cell (p := ⟨g0, p, none⟩) (by show g0 < V.heap.size; omega)).trans cq
      have lV2 : V.heap.size ≤ V2.heap.size := bz.size
      clear bz k0 k1 k2 k3 l0 l1 l2 l3 d0 d1 d2 d3 cm
      have k0 := cell_regrown c0
      have k1 := cell_regrown c1
      have k2 := cell_regrown c2
      have k3 := cell_regrown c3
      have kq := cell_regrown cq
      have cr := hide (fun (q1 : Nat) (os : Array Obj) => show Calls Try.prog 16 #[.agg #[.int .i64 x.b, .int .i64 x.s, .int .i64 x.f, .int .i64 x.t], .int .i64 o] (Sort.grow (redrawn V2 q1) os) (fun e w'' => e = .returned (.agg #[.int .i64 o, .int .i64 (o + x.s)]) ∧ ∃ p : Regrown, w'' = Sort.grow (redrawn V2 p.d) p.os) from Calls.regrown_of (CRM.out _))
      go_wp2_with fail
      refine Qt.region_tail_below 10 (by kernel_rfl) (by kernel_rfl) ?_
      simp only [List.take_succ_cons, List.take_zero, List.drop_succ_cons, List.drop_zero]
      repeat (go_big_quiet_step (first | (go_at_call 16; exact cr.out _ _)))
      refine wpQuiet_nil ?_
      intro _ hw'
      obtain ⟨⟨dq, osq⟩, hw''⟩ := hw'
      subst hw''
      have bz := below_regrown V2 dq osq
      generalize Sort.grow (redrawn V2 dq) osq = V3 at bz ⊢
      have CD := hide (deletedF X.heap.size gf m cf o (o + x.s) D V3 (O2.out.below bz) HFR.out.len HFR.out.rb (by unfold rb; dsimp only; omega))
      have B3' := hide (B2'.out.trans (bz.mono (by omega)))
      have lV3 : V2.heap.size ≤ V3.heap.size := bz.size
      clear bz k0 k1 k2 k3 kq cr c0 c1 c2 c3 cq
      go_wp2_with fail
      refine CD.out.mono ?_
      rintro e V4 ⟨gl, rfl, o4, b4⟩
      have O4 := hide (show OR X.heap.size V4 gl (kr 1 (cutR o (o + x.s) D) (2 * m)).length (lfR 1 (cutR o (o + x.s) D) (2 * m)) from ⟨by have := o4.lo; omega, o4.lt, o4.laid, o4.free⟩)
      have B4' := hide (B3'.out.trans (b4.mono (by omega)))
      have LK := hide (kr_len 1 (cutR o (o + x.s) D) (2 * m))
      clear o4 b4 CD
      go_wp2_with fail
      go_roundw
      all_goals first
        | (simp only [intOf]; omega)
        | (simp [intOf]; omega)
        | exact ⟨t + 1, gl, _, _, _, by omega, by go_num, rfl, LK.out, O4.out, FN.out, B4'.out⟩
end Vo
end Go.Proofs.Ytbdcbanbnbaoiaa
