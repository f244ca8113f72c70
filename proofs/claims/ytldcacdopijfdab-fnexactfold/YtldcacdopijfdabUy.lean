/- Fold of the program. -/
import Derived.Test.YtldcacdopijfdabUx
import Derived.Test.YtldcacdopijfdabTn
namespace Go.Proofs.Ytldcacdopijfdab
namespace Vo
open Go.ChangeShapes Go.WideShapes Go.ChangeAt Go.RowKit Go.Joins Go.Sort
open Vl Vp Vr
set_option linter.unusedVariables false
set_option linter.unusedSimpArgs false
theorem wrap_last {r : Nat} (h : (r : Int) ≤ 1048576) : IntKind.i64.wrap ((r : Int) - 1) = (r : Int) - 1 := wrap_id (by omega) (by omega)
theorem head_ints {B : Nat} {w : World} {a : Option Addr} {r q : Nat} {D : Nat → Int} (h : Ints B w a r D) (hq : q ≤ r) : Ints B w a q D := by
  rcases h with h | ⟨b, off, rfl, hb, hc⟩
  · exact .inl (by omega)
  · exact .inr ⟨b, off, rfl, hb, fun j hj => hc j (by omega)⟩
/-- dims, windows and whether they fit -/
def FoldR (B : Nat) (q : Nat) (D : Nat → Int) (k : Nat) (t n : Int) (V : PV) (w : World) (e : Ending) (w' : World) : Prop :=
  ∃ (g c : Nat) (ta tb : Option Addr) (tc td : Nat) (z : Bool), e = .returned (.tuple #[.slice (some ⟨g, 0, none⟩) q c, .agg #[.slice ta V.r tc, .slice tb V.s td, .int .i64 V.o, .int .i64 V.n], .bool z]) ∧ (z = true ↔ (V.r = q + 1 ∧ ∀ j, j < V.r → V.D j = D j)) ∧ Rw w' g q (up1 D k n) ∧ VOwn B w' ta tb V.r V.s V.D V.S ∧ B ≤ g ∧ g < w'.heap.size ∧ Below w.heap.size w w'
set_option maxHeartbeats 1000000 in
theorem foldedNo (a : Option Addr) (r cap : Nat) (x t n : Int) (w : World) (hr : (r : Int) ≤ 1048576) (hx : x < 0 ∨ (r : Int) - 1 ≤ x) :
    Calls Try.prog 39 #[.slice a r cap, .int .i64 x, .int .i64 t, .int .i64 n] w fun e w' => ∃ z c, e = .returned (.tuple #[.slice z 0 c, .agg #[.slice none 0 0, .slice none 0 0, .int .i64 0, .int .i64 0], .bool false]) ∧ Below w.heap.size w w' := by
  have wl := wrap_last hr
  have m0 := box_new w (.slice none 0 0) (.slice none 0 0) (.int .i64 0) (.int .i64 0) 26
  have f0 := free_new w #[.slice none 0 0, .slice none 0 0, .int .i64 0, .int .i64 0] 26
  have BL := hide (show Below w.heap.size w (w.alloc (.cells #[.slice none 0 0, .slice none 0 0, .int .i64 0, .int .i64 0] 26)) from (Below.refl _ _).alloc (Nat.le_refl _) _)
  have M0 := hide m0
  have F0 := hide f0
  clear m0 f0
  obtain ⟨y0, y1, y2, y3⟩ := M0.out
  have gg := F0.out
  unfold Free at gg
  by_cases h0 : x < 0
  · have h0' : decide (x < 0) = true := decide_eq_true h0
    clear hx h0
    go_enter Try.func39, Try.ntmps39
    go_wp2_with fail
    refine bodyPost_ret (v := .tuple #[.slice (some ⟨w.heap.size + 1, 0, none⟩) 0 0, .agg #[.slice none 0 0, .slice none 0 0, .int .i64 0, .int .i64 0], .bool false]) (by simp [results, Try.results39, go_sem, y0, y1, y2, y3]) rfl ⟨_, _, rfl, ?_⟩
    repeat (refine Below.setCell ?_ (by simp) _)
    exact BL.out.alloc (by simp) _
  · have h0' : decide (x < 0) = false := decide_eq_false h0
    have h1' : decide ((r : Int) - 1 ≤ x) = true := decide_eq_true (by omega)
    clear hx h0
    go_enter Try.func39, Try.ntmps39
    go_wp2_with fail
    refine bodyPost_ret (v := .tuple #[.slice (some ⟨w.heap.size + 1, 0, none⟩) 0 0, .agg #[.slice none 0 0, .slice none 0 0, .int .i64 0, .int .i64 0], .bool false]) (by simp [results, Try.results39, go_sem, y0, y1, y2, y3]) rfl ⟨_, _, rfl, ?_⟩
    repeat (refine Below.setCell ?_ (by simp) _)
    exact BL.out.alloc (by simp) _
/-- the windows, laid in their variable -/
def FCut (V : PV) (w1 : World) (p : Value) (wx : World) : Prop :=
  ∃ (P : Nat) (ta tb : Option Addr) (tc td : Nat), p = .pointer (some ⟨P, 0, none⟩) ∧ w1.heap.size ≤ P ∧ P < wx.heap.size ∧ Box wx P (.slice ta V.r tc) (.slice tb V.s td) (.int .i64 V.o) (.int .i64 V.n) ∧ VOwn w1.heap.size wx ta tb V.r V.s V.D V.S ∧ Below w1.heap.size w1 wx
theorem fcut_new {V : PV} {w1 wE : World} {ta tb : Option Addr} {tc td : Nat} (hP : w1.heap.size ≤ wE.heap.size) (hb : Below w1.heap.size w1 wE) (vo : VOwn w1.heap.size wE ta tb V.r V.s V.D V.S) :
    FCut V w1 (.pointer (some ⟨wE.heap.size, 0, none⟩)) (wE.alloc (.cells #[.slice ta V.r tc, .slice tb V.s td, .int .i64 V.o, .int .i64 V.n] 26)) :=
  ⟨wE.heap.size, ta, tb, tc, td, rfl, hP, by simp, box_new wE _ _ _ _ _, vo.below ((Below.refl _ _).alloc (Nat.le_refl _) _), hb.alloc hP _⟩
theorem fcut {V : PV} {w1 wE : World} {P : Nat} {ta tb : Option Addr} {tc td : Nat} (hP : w1.heap.size ≤ P) (lP : P < wE.heap.size) (hb : Below w1.heap.size w1 wE) (vo : VOwn w1.heap.size wE ta tb V.r V.s V.D V.S) (zb : Box wE P (.slice none 0 0) (.slice none 0 0) (.int .i64 0) (.int .i64 0)) :
    FCut V w1 (.pointer (some ⟨P, 0, none⟩)) ((((wE.setCell ⟨P, 0, none⟩ (.slice ta V.r tc)).setCell ⟨P, 1, none⟩ (.slice tb V.s td)).setCell ⟨P, 2, none⟩ (.int .i64 V.o)).setCell ⟨P, 3, none⟩ (.int .i64 V.n)) := by
  have k4 := kept_sets4 wE P (.slice ta V.r tc) (.slice tb V.s td) (.int .i64 V.o) (.int .i64 V.n)
  exact ⟨P, ta, tb, tc, td, rfl, hP, Nat.lt_of_lt_of_le lP k4.size, box_sets4 zb _ _ _ _, vo.kept k4 (vo.apart zb.1), hb.trans (k4.below hb.size (fun j e => by have e : j = P := e; omega))⟩
set_option maxRecDepth 100000 in
set_option maxHeartbeats 2000000 in
theorem foldedDims (B : Nat) (a : Option Addr) (q k cap : Nat) (D : Nat → Int) (t n : Int) (w : World) (hB : B ≤ w.heap.size) (h : Ints B w a (q + 1) D) (hq : (q : Int) ≤ 5) (hk : k < q) (hcap : q + 1 ≤ cap) (hbt : bd t) (hbn : bd n) :
    Calls Try.prog 39 #[.slice a (q + 1) cap, .int .i64 k, .int .i64 t, .int .i64 n] w fun e w' => FoldR w.heap.size q D k t n (fldV q D k t n) w e w' := by
  have m0 := box_new w (.slice none 0 0) (.slice none 0 0) (.int .i64 0) (.int .i64 0) 26
  have f0 := free_new w #[.slice none 0 0, .slice none 0 0, .int .i64 0, .int .i64 0] 26
  obtain ⟨W0, hW0⟩ : ∃ W0, w.alloc (.cells #[.slice none 0 0, .slice none 0 0, .int .i64 0, .int .i64 0] 26) = W0 := ⟨_, rfl⟩
  have bl : Below w.heap.size w W0 := by rw [← hW0]; exact (Below.refl _ _).alloc (Nat.le_refl _) _
  have z0 : W0.heap.size = w.heap.size + 1 := by rw [← hW0]; simp
  rw [hW0] at m0 f0
  have BL := hide bl
  have Z0 := hide z0
  have M0 := hide m0
  have F0 := hide f0
  have H := hide (h.below (bl.mono hB))
  have wl : IntKind.i64.wrap ((q : Int) + 1 - 1) = (q : Int) := by rw [wrap_id (by omega) (by omega)]; omega
  have wl2 : IntKind.i64.wrap (((q + 1 : Nat) : Int) - 1) = (q : Int) := by rw [wrap_id (by omega) (by omega)]; omega
  have h0' : decide ((k : Int) < 0) = false := decide_eq_false (by omega)
  have h1' : decide ((q : Int) ≤ k) = false := decide_eq_false (by omega)
  have h1'' : decide (q ≤ k) = false := decide_eq_false (by omega)
  have qc : (q : Int) ≤ cap := by omega
  have HBN := hide hbn
  have HBT := hide hbt
  obtain ⟨E, hE⟩ : ∃ E, up1 D k n = E := ⟨_, rfl⟩
  obtain ⟨V, hV⟩ : ∃ V, fldV q D k t n = V := ⟨_, rfl⟩
  have lw1 := (wholeV_le q E).1
  have lw2 := (wholeV_le q E).2
  have HV := hide (show turnedV (wholeV q E).r (wholeV q E).s (wholeV q E).D (wholeV q E).S (wholeV q E).o (wholeV q E).n (winV (wholeV q E).r (wholeV q E).s (wholeV q E).D (wholeV q E).S (wholeV q E).o (wholeV q E).n (k : Int) (D q) t) = V by rw [← hE]; exact hV)
  have lv := fldV_le q D k t n
  rw [hV] at lv ⊢
  have HE := hide hE
  clear h bl z0 m0 f0 hbn hbt hE hV
  go_enter Try.func39, Try.ntmps39
  go_wp2_with fail
  have zz := Z0.out
  refine (withLength B a q cap k D n _ (by omega) (head_ints H.out (by omega)) (by omega) hk HBN.out).mono ?_
  rintro e w1 ⟨g, c, rfl, rg, hg1, hg2, b1⟩
  have M1 := hide (M0.out.below b1 (by omega))
  have F1 := hide (F0.out.below b1 (by omega))
  have B1 := hide (BL.out.trans (b1.mono BL.out.size))
  have H1 := hide (H.out.below (b1.mono (by omega)))
  have RG := hide rg
  have s1 : w.heap.size < w1.heap.size := by have := b1.size; omega
  rw [HE.out] at RG
  rcases H1.out with h0 | ⟨ba, oa, rfl, hba, hca⟩
  · omega
  have cq := (hca q (by omega)).1
  have bq := (hca q (by omega)).2
  have hbaw : ba < w1.heap.size := by have := b1.size; omega
  obtain ⟨U, hU⟩ : ∃ U, wholeV q E = U := ⟨_, rfl⟩
  rw [hU] at HV lw1 lw2
  have CW := hide (fun (W : World) (hW : Below w1.heap.size w1 W) => wholeC w1.heap.size ⟨g, 0, none⟩ q c E W ((RG.out.below hW hg2).ints hg2) hW.size (by omega))
  rw [hU] at CW
  have CN := hide (fun (W : World) (ta tb : Option Addr) (tc td : Nat) (hW : Below w1.heap.size w1 W) (vo : VOwn w1.heap.size W ta tb U.r U.s U.D U.S) => by
    have q := windowsG W.heap.size ta tb U.r U.s tc td U.D U.S U.o U.n (k : Int) (D q) t W (Nat.le_refl _) vo.d.ints vo.t.ints (by omega) (by omega) (fun e => by rcases vo.d with h0 | ⟨g, e', _⟩; exact h0; rw [e] at e'; cases e') (fun e => by rcases vo.t with h0 | ⟨g, e', _⟩; exact h0; rw [e] at e'; cases e') ⟨by unfold bd; omega, bq, HBT.out⟩ (fun C B ia ica va vb W h1 h2 h3 h4 h5 h6 => windowsTurn U.r U.s U.D U.S U.o U.n (k : Int) (D q) t C B ia ica va vb W h1 h2 h3 h4 h5 h6 (by omega))
    rw [HV.out] at q
    exact q)
  have CE := hide (fun (W : World) (ta : Option Addr) (tc : Nat) (hW : Below w1.heap.size w1 W) (ho : OwnL w1.heap.size W ta V.r V.D) => equalI W.heap.size ta (some ⟨ba, oa, none⟩) V.r (q + 1) tc cap V.D D W (Nat.le_refl _) ho.ints ((H1.out.below (hW.mono (by omega))).mono (by have := hW.size; omega)) lv.1 (by omega))
  have A0 := hide (show Below w1.heap.size w1 w1.drew from (Below.refl _ _).drew)
  have A1 := hide (fun (x : Obj) => show Below w1.heap.size w1 (w1.drew.alloc x) from A0.out.alloc (Nat.le_refl _) _)
  have A2 := hide (fun (W : World) (hW : Below w1.heap.size w1 W) (x : Obj) => show Below w1.heap.size w1 (W.alloc x) from hW.alloc hW.size _)
  have A3 := hide (fun (W W' : World) (hW : Below w1.heap.size w1 W) (hW' : Below W.heap.size W W') => show Below w1.heap.size w1 W' from hW.trans (hW'.mono hW.size))
  have A4 := hide (fun (W : World) (hW : Below w1.heap.size w1 W) => show W.cell? ⟨ba, oa + q, none⟩ = some (.int .i64 (D q)) from (hW.cell (p := ⟨ba, oa + q, none⟩) hbaw).trans cq)
  have A5 := hide (fun (W W' : World) (ta tb : Option Addr) (hW : Below w1.heap.size w1 W) (vo : VOwn W.heap.size W' ta tb U.r U.s U.D U.S) => vo.mono hW.size)
  have A6 := hide (fun (W W' : World) (ta tb : Option Addr) (hW : Below w1.heap.size w1 W) (vo : VOwn W.heap.size W' ta tb V.r V.s V.D V.S) => vo.mono hW.size)
  have A7 := hide (fun (W : World) (ta tb : Option Addr) (x : Obj) (vo : VOwn w1.heap.size W ta tb U.r U.s U.D U.S) => vo.below (w' := W.alloc x) ((Below.refl _ _).alloc (Nat.le_refl _) _))
  have qI2 : (q : Int) < (q : Int) + 1 := by omega
  have A8 := hide (fun (W : World) (hW : Below w1.heap.size w1 W) => show w1.heap.size ≤ W.heap.size from hW.size)
  clear hU rg b1 zz hca
  go_wp2_with fail
  go_cut [13] (fun p wx => FCut V w1 p wx)
  case first =>
    go_region_held3 (fun w' => w'.cell? ⟨ba, oa + q, none⟩ = some (.int .i64 (D q)))
      ((try dsimp only) <;> (repeat (first | with_reducible assumption | with_reducible apply drew_old | with_reducible apply alloc_old | (with_reducible apply set_other; (focus (first | (dsimp only; omega) | (simp; done) | (simp; omega)))) | assumption)))
      (first
      | (go_at_call 63
         refine (CW.out _ (by first | exact A0.out | exact A1.out _)).mono ?_
         rintro e wD ⟨ta, tb, tc, td, rfl, vo, bD⟩
         first
          | (have sD : w1.heap.size + 1 ≤ wD.heap.size := by (have q := bD.size; simp only [World.size_alloc, drewSize] at q; omega)
             have eC := fun i => bD.cell (p := ⟨w1.heap.size, i, none⟩) (by simp only [World.size_alloc, drewSize]; omega)
             have fC := fun i => bD.frozen (p := ⟨w1.heap.size, i, none⟩) (by simp only [World.size_alloc, drewSize]; omega)
             have bD' := hide (A3.out _ _ (A1.out _) bD)
             have VO1 := hide (A5.out _ _ _ _ (A1.out _) vo)
             have c4 := A4.out _ bD'.out
             have l4 := A8.out _ bD'.out)
          | (have bD' := hide (A3.out _ _ A0.out bD)
             have VO1 := hide (A5.out _ _ _ _ A0.out vo)
             have c4 := A4.out _ bD'.out
             have l4 := A8.out _ bD'.out))
      | (go_at_call 62
         first
          | (refine (CN.out _ ta tb tc td bD'.out VO1.out).mono ?_
             rintro e wE ⟨pa, pb, pc, pd, rfl, vp, bE⟩
             have bE' := hide (A3.out _ _ bD'.out bE)
             have VO2 := hide (A6.out _ _ _ _ bD'.out vp)
             have c5 := A4.out _ bE'.out
             have l5 := A8.out _ bE'.out
             first
              | (have eE := fun i => bE.cell (p := ⟨w1.heap.size, i, none⟩) (show w1.heap.size < wD.heap.size by omega)
                 have fE := fun i => bE.frozen (p := ⟨w1.heap.size, i, none⟩) (show w1.heap.size < wD.heap.size by omega))
              | skip)
          | (refine (CN.out _ ta tb tc td (A2.out _ bD'.out _) (A7.out _ _ _ _ VO1.out)).mono ?_
             rintro e wE ⟨pa, pb, pc, pd, rfl, vp, bE⟩
             have bE' := hide (A3.out _ _ (A2.out _ bD'.out _) bE)
             have VO2 := hide (A6.out _ _ _ _ (A2.out _ bD'.out _) vp)
             have c5 := A4.out _ bE'.out
             have l5 := A8.out _ bE'.out
             have eE := fun i => bE.cell (p := ⟨wD.heap.size, i, none⟩) (by simp only [World.size_alloc]; omega)
             have fE := fun i => bE.frozen (p := ⟨wD.heap.size, i, none⟩) (by simp only [World.size_alloc]; omega))))
    all_goals (go_wp2_with fail)
    all_goals go_meet
    all_goals first
      | with_reducible exact fcut_new l5 bE'.out VO2.out
      | (with_reducible refine fcut (wE := wE) (P := w1.heap.size) (Nat.le_refl _) ?_ bE'.out VO2.out ?_
         · have := bE.size; omega
         · refine Box.below (B := wD.heap.size) ?_ bE (by show w1.heap.size < wD.heap.size; omega)
           exact ((box_new w1.drew (.slice none 0 0) (.slice none 0 0) (.int .i64 0) (.int .i64 0) 26).below bD (by simp)))
      | (with_reducible refine fcut (wE := wE) (P := wD.heap.size) l4 ?_ bE'.out VO2.out ?_
         · have := bE.size; simp only [World.size_alloc] at this; omega
         · exact (box_new wD (.slice none 0 0) (.slice none 0 0) (.int .i64 0) (.int .i64 0) 26).below bE (by simp))
  case rest =>
    obtain ⟨P, ta, tb, tc, td, rfl, hP, lP, hbx, hvo, hbw⟩ := hcut
    obtain ⟨X, rfl⟩ : ∃ X, X = wc := ⟨_, rfl⟩
    have VO := hide hvo
    have HBW := hide hbw
    have M2 := hide (M1.out.below hbw s1)
    have G2 := hide (F1.out.below hbw s1)
    have BXF := hide (fun (W : World) (hW : Below X.heap.size X W) => hbx.below hW lP)
    have CEE := hide (CE.out X.drew ta tc (by exact (hbw.trans ((Below.refl X.heap.size X).drew.mono hbw.size))) (by exact hvo.d))
    have MF := hide (fun (W : World) (hW : Below X.heap.size X W) => M2.out.below hW (by have := HBW.out.size; omega))
    have GF := hide (fun (W : World) (hW : Below X.heap.size X W) => G2.out.below hW (by have := HBW.out.size; omega))
    have XF := hide (fun (W : World) (hW : Below X.drew.heap.size X.drew W) => show Below X.heap.size X W from (Below.refl _ _).drew.trans hW)
    have wP : w.heap.size < P := by omega
    obtain ⟨x0, x1, x2, x3⟩ := hbx
    clear hvo hbw CE CN CW A0 A1 A2 A3 A4 A5 A6 A7 A8 cq
    go_wp2_with fail
    go_region_held3 (fun w' => w'.cell? ⟨P, 0, none⟩ = some (.slice ta V.r tc) ∧ w'.cell? ⟨P, 1, none⟩ = some (.slice tb V.s td) ∧ w'.cell? ⟨P, 2, none⟩ = some (.int .i64 V.o) ∧ w'.cell? ⟨P, 3, none⟩ = some (.int .i64 V.n))
      ((try dsimp only) <;> (repeat' apply And.intro) <;> (repeat (first | with_reducible assumption | with_reducible apply drew_old | (with_reducible apply set_other; (focus (first | (dsimp only; omega) | (simp; done) | (simp; omega)))) | assumption)))
      (first
      | (go_at_call 64
         refine CEE.out.mono ?_
         rintro e wF ⟨⟨zb, rfl, hz⟩, bF⟩
         have bF' := hide (XF.out wF bF)
         obtain ⟨r0, r1, r2, r3⟩ := BXF.out wF bF'.out
         obtain ⟨y0, y1, y2, y3⟩ := MF.out wF bF'.out
         have gg := GF.out wF bF'.out
         unfold Free at gg
         have HZ := hide hz
         clear hz bF))
    all_goals (go_wp2_with fail)
    refine bodyPost_ret (v := .tuple #[.slice (some ⟨g, 0, none⟩) q c, .agg #[.slice ta V.r tc, .slice tb V.s td, .int .i64 V.o, .int .i64 V.n], .bool zb]) (by simp [results, Try.results39, go_sem, y0, y1, y2, y3]) rfl ?_
    have k4 := kept_sets4 wF w.heap.size (.slice ta V.r tc) (.slice tb V.s td) (.int .i64 V.o) (.int .i64 V.n)
    have bw : Below w1.heap.size w1 wF := HBW.out.trans (bF'.out.mono HBW.out.size)
    have bw2 : Below w.heap.size w wF := B1.out.trans (bw.mono B1.out.size)
    have rgF := (RG.out.below bw hg2).kept k4 (by show ¬ g = w.heap.size; have := Z0.out; omega)
    have voF := VO.out.below bF'.out
    have HEo := HE.out
    refine ⟨g, c, ta, tb, tc, td, zb, rfl, HZ.out, by rw [HEo]; exact rgF, (voF.kept k4 (fun j hj e => by have := (voF.blk hj).1; have e : j = w.heap.size := e; omega)).mono (by omega), by have := Z0.out; omega, by have := bw.size; have := k4.size; omega, bw2.trans (k4.below bw2.size (fun j e => by have e : j = w.heap.size := e; omega))⟩
set_option maxRecDepth 100000 in
set_option maxHeartbeats 2000000 in
theorem foldF (B : Nat) (a b : Option Addr) (r s cap dap : Nat) (D S : Nat → Int) (x t n : Int) (w : World) (hB : B ≤ w.heap.size) (h : Ints B w a r D) (h' : Ints B w b s S) (hr : (r : Int) ≤ 1048576) (hs : (s : Int) ≤ 1048576) (hcap : r ≤ cap) (hbt : bd t) (hbn : bd n) :
    Calls Try.prog 16 #[.agg #[.slice a r cap, .slice b s dap], .int .i64 x, .int .i64 t, .int .i64 n] w fun e w' => TensR w.heap.size (foldP r s D S x t n) w e w' := by
  obtain ⟨W0, hW0⟩ : ∃ W0, (w.alloc (.cells #[.slice a r cap, .slice b s dap] 35)).alloc (.cells #[.slice none 0 0, .slice none 0 0] 35) = W0 := ⟨_, rfl⟩
  have hs0 : W0.heap.size = w.heap.size + 1 + 1 := by rw [← hW0]; simp
  have bl : Below w.heap.size w W0 := by rw [← hW0]; exact ((Below.refl _ _).alloc (Nat.le_refl _) _).alloc (by simp) _
  have n0 : Bx W0 w.heap.size (.slice a r cap) (.slice b s dap) := by
    rw [← hW0]; exact (bx_new w (.slice a r cap) (.slice b s dap) 35).below ((Below.refl (w.heap.size + 1) _).alloc (by simp) _) (by omega)
  have m0 : Bx W0 (w.heap.size + 1) (.slice none 0 0) (.slice none 0 0) := by
    have q := bx_new (w.alloc (.cells #[.slice a r cap, .slice b s dap] 35)) (.slice none 0 0) (.slice none 0 0) 35
    rw [World.size_alloc] at q
    rw [← hW0]; exact q
  have g0 : Free W0 (w.heap.size + 1) := by
    have q := free_new (w.alloc (.cells #[.slice a r cap, .slice b s dap] 35)) #[.slice none 0 0, .slice none 0 0] 35
    rw [World.size_alloc] at q
    rw [← hW0]; exact q
  have H := hide (h.below (bl.mono hB))
  have H' := hide (h'.below (bl.mono hB))
  have BL := hide bl
  have HS0 := hide hs0
  have N0 := hide n0
  have M0 := hide m0
  have G0 := hide g0
  have NO := hide (fun (hz : foldP r s D S x t n = PT.zero) (w2 : World) (hb : Below w.heap.size w w2) => show TensR w.heap.size (foldP r s D S x t n) w (.returned (.agg #[.slice none 0 0, .slice none 0 0])) w2 by rw [hz]; exact tensR_zero hb)
  obtain ⟨x0, x1⟩ := n0
  clear h h' bl m0 g0 hs0
  go_enter Try.func16, Try.ntmps16
  go_wp2_with fail
  clear hW0
  refine (tensorOk B a b r s cap dap D S _ (by have := HS0.out; omega) H.out H'.out hr hs).mono ?_
  rintro e w1 ⟨rfl, b1⟩
  have z0 := HS0.out
  have N1 := hide (N0.out.below b1 (by omega))
  have M1 := hide (M0.out.below b1 (by omega))
  have G1 := hide (G0.out.below b1 (by omega))
  have B1 := hide (BL.out.trans (b1.mono BL.out.size))
  have H1 := hide (H.out.below (b1.mono (by omega)))
  have H1' := hide (H'.out.below (b1.mono (by omega)))
  have s1 : w.heap.size + 1 < w1.heap.size := by have := b1.size; omega
  clear b1 x0 x1 z0
  obtain ⟨x0, x1⟩ := N1.out
  obtain ⟨y0, y1⟩ := M1.out
  have gg := G1.out
  unfold Free at gg
  cases ht : tok r s D S with
  | false =>
    have ez := hide (foldP_no (r := r) (s := s) (D := D) (S := S) (x := x) (t := t) (n := n) (fun e => by rw [ht] at e; exact absurd e.1 (by decide)))
    clear ht
    go_wp2_with fail
    refine bodyPost_ret (v := .agg #[.slice none 0 0, .slice none 0 0]) (by simp [results, Try.results16, go_sem, y0, y1]) rfl (NO.out ez.out _ (by
      repeat (refine Below.setCell ?_ (by simp) _)
      exact B1.out))
  | true =>
  have HT := hide ht
  obtain ⟨td, ts, tw⟩ := tok_split ht
  have TD := hide td
  have TS := hide ts
  have TW := hide tw
  have r6 : r ≤ 6 := (dok_iff.1 td).1
  have s4 : (s : Int) ≤ 4096 := by rw [← ts]; exact (szR_rng D r).2
  clear ht td ts tw
  by_cases hx : 0 ≤ x ∧ x + 1 < r
  rotate_left
  · have ez := hide (foldP_no (r := r) (s := s) (D := D) (S := S) (x := x) (t := t) (n := n) (fun e => hx ⟨e.2.1, e.2.2.1⟩))
    have FN := hide (fun (W : World) => foldedNo a r cap x t n W hr (by omega))
    clear hx
    go_wp2_with fail
    refine (FN.out _).mono ?_
    rintro e w2 ⟨za, zc, rfl, b2⟩
    have M2 := hide (M1.out.below b2 (by omega))
    have G2 := hide (G1.out.below b2 (by omega))
    have B2 := hide (B1.out.trans (b2.mono B1.out.size))
    have s2 : w.heap.size + 1 < w2.heap.size := by have := b2.size; omega
    have s3 : ¬ (w.heap.size + 1 = w2.heap.size) := by omega
    clear b2 x0 x1 y0 y1 gg
    obtain ⟨y0, y1⟩ := M2.out
    have gg := G2.out
    unfold Free at gg
    go_wp2_with fail
    have c5 : ∀ (x : Obj) i, (((w2.setCell ⟨w.heap.size + 1, 0, none⟩ (.slice none 0 0)).setCell ⟨w.heap.size + 1, 1, none⟩ (.slice none 0 0)).alloc x).cell? ⟨w.heap.size + 1, i, none⟩ = ((w2.setCell ⟨w.heap.size + 1, 0, none⟩ (.slice none 0 0)).setCell ⟨w.heap.size + 1, 1, none⟩ (.slice none 0 0)).cell? ⟨w.heap.size + 1, i, none⟩ := fun x i => World.cell?_alloc_old _ x ⟨w.heap.size + 1, i, none⟩ (by simp only [size_set]; exact s3)
    refine bodyPost_ret (v := .agg #[.slice none 0 0, .slice none 0 0]) (by simp [results, Try.results16, go_sem, y0, y1, c5]) rfl (NO.out ez.out _ ?_)
    refine Below.alloc (Below.setCell (Below.setCell B2.out (by simp) _) (by simp) _) ?_ _
    simp only [size_set]
    omega
  obtain ⟨k, rfl⟩ : ∃ k : Nat, x = k := ⟨x.toNat, by omega⟩
  obtain ⟨q, rfl⟩ : ∃ q, r = q + 1 := ⟨r - 1, by omega⟩
  have hkq : k < q := by omega
  have VI := hide (fldV_iff (t := t) (n := n) hkq TD.out)
  have VE := hide (fun (hf : FoldOk q D k t n) => fldV_is hkq TD.out hf)
  have vl := fldV_le q D k t n
  obtain ⟨V, hV⟩ : ∃ V, fldV q D k t n = V := ⟨_, rfl⟩
  have CD := hide (fun (W : World) (hW : B ≤ W.heap.size) (hi : Ints B W a (q + 1) D) => foldedDims B a q k cap D t n W hW hi (by omega) hkq hcap hbt hbn)
  rw [hV] at VI VE CD vl
  clear hx hV hbt hbn
  go_wp2_with fail
  refine (CD.out _ (by omega) H1.out).mono ?_
  rintro e w2 ⟨g, c, ta, tb, tc, td, zb, rfl, hz, rg, vo, hg1, hg2, b2⟩
  obtain ⟨W2, hW2⟩ : ∃ W2, w2.alloc (.cells #[.slice ta V.r tc, .slice tb V.s td, .int .i64 V.o, .int .i64 V.n] 26) = W2 := ⟨_, rfl⟩
  have b3 : Below w2.heap.size w2 W2 := by rw [← hW2]; exact (Below.refl _ _).alloc (Nat.le_refl _) _
  have z2 : W2.heap.size = w2.heap.size + 1 := by rw [← hW2]; simp
  have sb := b2.size
  have X2 := hide (show Box W2 w2.heap.size (.slice ta V.r tc) (.slice tb V.s td) (.int .i64 V.o) (.int .i64 V.n) by rw [← hW2]; exact box_new w2 _ _ _ _ _)
  have N2 := hide ((N1.out.below b2 (by omega)).below b3 (by omega))
  have M2 := hide ((M1.out.below b2 (by omega)).below b3 (by omega))
  have G2 := hide ((G1.out.below b2 (by omega)).below b3 (by omega))
  have H2 := hide ((H1.out.below (b2.mono (by omega))).below (b3.mono (by omega)))
  have H2' := hide ((H1'.out.below (b2.mono (by omega))).below (b3.mono (by omega)))
  have B2 := hide ((B1.out.trans (b2.mono B1.out.size)).trans (b3.mono (by omega)))
  have RG := hide (rg.below b3 hg2)
  have VO := hide (vo.below b3)
  have Z2 := hide z2
  have s2 : w.heap.size + 1 < w2.heap.size := by omega
  clear b2 b3 rg vo z2 x0 x1 y0 y1 gg
  obtain ⟨v0, v1, v2, v3⟩ := X2.out
  obtain ⟨x0, x1⟩ := N2.out
  obtain ⟨y0, y1⟩ := M2.out
  have gg := G2.out
  unfold Free at gg
  by_cases hf : FoldOk q D k t n
  rotate_left
  · have ez := hide (foldP_no (r := q + 1) (s := s) (D := D) (S := S) (x := (k : Int)) (t := t) (n := n) (fun e => hf (by have := e.2.2.2; rw [Int.toNat_natCast] at this; exact this)))
    have ezb : zb = false := by
      cases zb with
      | false => rfl
      | true => exact absurd (VI.out.1 (hz.1 rfl)) hf
    subst ezb
    clear hf hz
    go_wp2_with fail
    refine bodyPost_ret (v := .agg #[.slice none 0 0, .slice none 0 0]) (by simp [results, Try.results16, go_sem, y0, y1]) rfl (NO.out ez.out _ (by
      repeat (refine Below.setCell ?_ (by simp) _)
      exact B2.out))
  have ezb : zb = true := hz.2 (VI.out.2 hf)
  subst ezb
  have eV := VE.out hf
  have ez := hide (foldP_yes HT.out hkq hf)
  subst eV
  have CL := hide (fun (W : World) (hW : Below W2.heap.size W2 W) => laidBack W2.heap.size a b ta tb ⟨g, 0, none⟩ (q + 1) s cap dap (q + 1) (q + 1) tc td q c D S D (fldS q D k t n) (up1 D k n) 0 (szR (up1 D k n) q) W hW.size ((H2.out.below (hW.mono (by have := Z2.out; omega))).mono (by have := Z2.out; omega)) ((H2'.out.below (hW.mono (by have := Z2.out; omega))).mono (by have := Z2.out; omega)) (VO.out.d.ints.below hW) (VO.out.t.ints.below hW) ((RG.out.below hW (by have := Z2.out; omega)).ints (by have := Z2.out; omega)) (by omega) s4 (by omega) (by omega) (by omega) hf.2.2.2 (fold_cnt hkq TD.out TS.out hf) (fun i hi => by rw [fold_plc hkq TD.out hf]; exact foldI_rng hkq (fun j hj => (dok_len TD.out hj).1) hf i) TW.out)
  have EP := hide (show plcN D (fldS q D k t n) (q + 1) 0 = foldI q D k t n from funext (fun i => fold_plc hkq TD.out hf i))
  rw [EP.out] at CL
  clear hf hz EP VE VI
  go_wp2_with fail
  clear hW2
  refine (CL.out _ (Below.refl _ _)).mono ?_
  rintro e w3 ⟨qa, qb, qc, qd, rfl, tz, b3⟩
  have zz := Z2.out
  have M3 := hide (M2.out.below b3 (by omega))
  have G3 := hide (G2.out.below b3 (by omega))
  have B3 := hide (B2.out.trans (b3.mono B2.out.size))
  have TZ := hide tz
  have EZ := hide (show TensR w.heap.size (foldP (q + 1) s D S (k : Int) t n) = TensR w.heap.size ⟨q, cntT q (up1 D k n), up1 D k n, fun p => scaS (foldI q D k t n) S (p : Int) s⟩ by rw [ez.out])
  clear b3 tz zz x0 x1 y0 y1 v0 v1 v2 v3 gg
  obtain ⟨y0, y1⟩ := M3.out
  have gg := G3.out
  unfold Free at gg
  go_wp2_with fail
  refine bodyPost_ret (v := .agg #[.slice qa q qc, .slice qb (cntT q (up1 D k n)) qd]) (by simp [results, Try.results16, go_sem, y0, y1]) rfl ?_
  show TensR w.heap.size (foldP (q + 1) s D S (k : Int) t n) w _ _
  rw [EZ.out]
  exact tens_end (v := ⟨q, cntT q (up1 D k n), up1 D k n, fun p => scaS (foldI q D k t n) S (p : Int) s⟩) TZ.out (P := w.heap.size + 1) (by have := Z2.out; omega) (by omega) B3.out
end Vo
end Go.Proofs.Ytldcacdopijfdab
