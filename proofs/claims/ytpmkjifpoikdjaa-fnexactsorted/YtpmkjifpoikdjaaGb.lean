/- Sorted of the program: both tensors. -/
import Derived.Test.YtpmkjifpoikdjaaGa
import Derived.BigRegion
import Derived.Deep.DeepCutAuto
namespace Go.Proofs.Ytpmkjifpoikdjaa
namespace Vo
open Go.ChangeShapes Go.WideShapes Go.ChangeAt Go.RowKit Go.Joins Go.Sort
open Vl Vp Vr
set_option linter.unusedVariables false
set_option linter.unusedSimpArgs false
theorem drewSize' (w : World) : w.drew.heap.size = w.heap.size := rfl
theorem bx_sets' {w : World} {p : Nat} {v0 v1 : Value} (h : Bx w p v0 v1) (u0 u1 : Value) : Bx ((w.setCell ⟨p, 0, none⟩ u0).setCell ⟨p, 1, none⟩ u1) p u0 u1 := by
  refine ⟨?_, ?_⟩
  · rw [World.cell?_setCell_other _ _ _ _ (by intro e; injection e with _ e _; omega)]
    exact World.cell?_setCell_same _ _ _ h.1
  · exact World.cell?_setCell_same _ _ _ ((World.cell?_setCell_other _ _ _ _ (by intro e; injection e with _ e _; omega)).trans h.2)
/-- a tensor put into a variable of its own, behind X -/
def PutR (X : World) (p : Value) (v : PT) (wx : World) : Prop := ∃ (P : Nat) (ta tb : Option Addr) (tc td : Nat), p = .pointer (some ⟨P, 0, none⟩) ∧ X.heap.size ≤ P ∧ P < wx.heap.size ∧ Bx wx P (.slice ta v.r tc) (.slice tb v.s td) ∧ VOwn X.heap.size wx ta tb v.r v.s v.D v.S ∧ (∀ k, VBlk ta tb v.r v.s k → k ≠ P) ∧ Below X.heap.size X wx
theorem putA {X W wE : World} {v : PT} {ta tb : Option Addr} {tc td : Nat} (t : TypeId) (hv : VOwn W.heap.size wE ta tb v.r v.s v.D v.S) (hW : Below X.heap.size X W) (hE : Below W.heap.size W wE) :
    PutR X (.pointer (some ⟨wE.heap.size, 0, none⟩)) v (wE.alloc (.cells #[.slice ta v.r tc, .slice tb v.s td] t)) := by
  have h1 := hW.size
  have h2 := hE.size
  have b : Below wE.heap.size wE (wE.alloc (.cells #[.slice ta v.r tc, .slice tb v.s td] t)) := (Below.refl _ _).alloc (Nat.le_refl _) _
  exact ⟨wE.heap.size, ta, tb, tc, td, rfl, by omega, by simp, bx_new wE _ _ _, (hv.below b).mono (by omega), fun k q e => by have := (hv.blk q).2; omega, (hW.trans (hE.mono h1)).trans (b.mono (by omega))⟩
theorem putB {X W wE : World} {v : PT} {ta tb : Option Addr} {tc td P : Nat} {u0 u1 : Value} (hv : VOwn W.heap.size wE ta tb v.r v.s v.D v.S) (hW : Below X.heap.size X W) (hE : Below W.heap.size W wE) (hP : P < W.heap.size) (hX : X.heap.size ≤ P) (hp : Bx W P u0 u1) :
    PutR X (.pointer (some ⟨P, 0, none⟩)) v ((wE.setCell ⟨P, 0, none⟩ (.slice ta v.r tc)).setCell ⟨P, 1, none⟩ (.slice tb v.s td)) := by
  have h1 := hW.size
  have h2 := hE.size
  have k2 := kept_sets2 wE P (.slice ta v.r tc) (.slice tb v.s td)
  have z : ((wE.setCell ⟨P, 0, none⟩ (.slice ta v.r tc)).setCell ⟨P, 1, none⟩ (.slice tb v.s td)).heap.size = wE.heap.size := by simp [World.setCell]
  exact ⟨P, ta, tb, tc, td, rfl, hX, by rw [z]; omega, bx_sets' (hp.below hE hP) _ _, (hv.kept k2 (fun k q e => by have e : k = P := e; have := (hv.blk q).1; omega)).mono h1, fun k q e => by have := (hv.blk q).1; omega, (hW.trans (hE.mono h1)).trans (k2.below (by omega) (fun j e => by have e : j = P := e; omega))⟩
/-- two tensors that are answered, each with memory of its own -/
def TensR2 (B : Nat) (v u : PT) (w : World) (e : Ending) (w' : World) : Prop :=
  ∃ a b c d a' b' c' d', e = .returned (.tuple #[.agg #[.slice a v.r c, .slice b v.s d], .agg #[.slice a' u.r c', .slice b' u.s d']]) ∧ VOwn B w' a b v.r v.s v.D v.S ∧ VOwn B w' a' b' u.r u.s u.D u.S ∧ (∀ k, VBlk a b v.r v.s k → VBlk a' b' u.r u.s k → False) ∧ Below w.heap.size w w'
theorem tens_end2 {B B' P : Nat} {v u : PT} {w X : World} {a b a' b' : Option Addr} {c d c' d' : Nat} (h : VOwn B X a b v.r v.s v.D v.S) (h' : VOwn B' X a' b' u.r u.s u.D u.S) (hlt : ∀ k, VBlk a b v.r v.s k → k < B') (hP : P + 1 < B) (hP' : P + 1 < B') (hw : w.heap.size ≤ P) (hb : Below w.heap.size w X) :
    TensR2 w.heap.size v u w (.returned (.tuple #[.agg #[.slice a v.r c, .slice b v.s d], .agg #[.slice a' u.r c', .slice b' u.s d']])) ((((X.setCell ⟨P, 0, none⟩ (.slice a v.r c)).setCell ⟨P, 1, none⟩ (.slice b v.s d)).setCell ⟨P + 1, 0, none⟩ (.slice a' u.r c')).setCell ⟨P + 1, 1, none⟩ (.slice b' u.s d')).drew := by
  have k1 := kept_sets2 X P (.slice a v.r c) (.slice b v.s d)
  have k2 := kept_sets2 ((X.setCell ⟨P, 0, none⟩ (.slice a v.r c)).setCell ⟨P, 1, none⟩ (.slice b v.s d)) (P + 1) (.slice a' u.r c') (.slice b' u.s d')
  have k : Kept (fun q => q = P ∨ q = P + 1) X ((((X.setCell ⟨P, 0, none⟩ (.slice a v.r c)).setCell ⟨P, 1, none⟩ (.slice b v.s d)).setCell ⟨P + 1, 0, none⟩ (.slice a' u.r c')).setCell ⟨P + 1, 1, none⟩ (.slice b' u.s d')).drew := kept_drew ((k1.mono (fun q _ e => .inl e)).trans (k2.mono (fun q _ e => .inr e)))
  refine ⟨a, b, c, d, a', b', c', d', rfl, (h.kept k (fun q hq e => ?_)).mono (by omega), (h'.kept k (fun q hq e => ?_)).mono (by omega), fun q h1 h2 => ?_, hb.trans (k.below hb.size (fun j e => by omega))⟩
  · have := (h.blk hq).1; omega
  · have := (h'.blk hq).1; omega
  · have := hlt q h1; have := (h'.blk h2).1; omega
set_option maxRecDepth 100000 in
set_option maxHeartbeats 2000000 in
theorem sortedF (B : Nat) (a b : Option Addr) (r s cap dap : Nat) (D S : Nat → Int) (x : Int) (w : World) (hB : B ≤ w.heap.size) (h : Ints B w a r D) (h' : Ints B w b s S) (hr : (r : Int) ≤ 1048576) (hs : (s : Int) ≤ 1048576) (hcap : r ≤ cap) :
    Calls Try.prog 17 #[.agg #[.slice a r cap, .slice b s dap], .int .i64 x] w fun e w' => TensR2 w.heap.size (lineP r s D S x (lenA r s D S x) (nuG (lenA r s D S x).toNat)) (lineP r s D S x (lenA r s D S x) (plG (lenA r s D S x).toNat)) w e w' := by
  obtain ⟨W0, hW0⟩ : ∃ W0, ((w.alloc (.cells #[.slice a r cap, .slice b s dap] 37)).alloc (.cells #[.slice none 0 0, .slice none 0 0] 37)).alloc (.cells #[.slice none 0 0, .slice none 0 0] 37) = W0 := ⟨_, rfl⟩
  have hs0 : W0.heap.size = w.heap.size + 3 := by rw [← hW0]; simp
  have bl : Below w.heap.size w W0 := by rw [← hW0]; exact (((Below.refl _ _).alloc (Nat.le_refl _) _).alloc (by simp) _).alloc (by simp; omega) _
  have n0 : Bx W0 w.heap.size (.slice a r cap) (.slice b s dap) := by
    rw [← hW0]; exact ((bx_new w (.slice a r cap) (.slice b s dap) 37).below ((Below.refl (w.heap.size + 1) _).alloc (by simp) _) (by omega)).below ((Below.refl (w.heap.size + 1) _).alloc (by simp) _) (by omega)
  have m0 : Bx W0 (w.heap.size + 1) (.slice none 0 0) (.slice none 0 0) := by
    have q := bx_new (w.alloc (.cells #[.slice a r cap, .slice b s dap] 37)) (.slice none 0 0) (.slice none 0 0) 37
    rw [World.size_alloc] at q
    rw [← hW0]; exact q.below ((Below.refl (w.heap.size + 2) _).alloc (by simp) _) (by omega)
  have m1 : Bx W0 (w.heap.size + 2) (.slice none 0 0) (.slice none 0 0) := by
    have q := bx_new ((w.alloc (.cells #[.slice a r cap, .slice b s dap] 37)).alloc (.cells #[.slice none 0 0, .slice none 0 0] 37)) (.slice none 0 0) (.slice none 0 0) 37
    rw [World.size_alloc, World.size_alloc] at q
    rw [← hW0]; exact q
  have g0 : Free W0 (w.heap.size + 1) ∧ Free W0 (w.heap.size + 2) := by
    rw [← hW0]
    constructor <;> (intro i; simp [go_sem])
  have H := hide (h.below (bl.mono hB))
  have H' := hide (h'.below (bl.mono hB))
  have BL := hide bl
  have HS0 := hide hs0
  have N0 := hide n0
  have M0 := hide m0
  have M1 := hide m1
  have G0 := hide g0
  have LA := hide (lenA_rng r s D S x)
  obtain ⟨x0, x1⟩ := n0
  clear h h' bl m0 m1 g0 hs0
  go_enter Try.func17, Try.ntmps17
  go_wp2_with fail
  clear hW0
  have LX := hide (show w.heap.size + 2 < W0.heap.size by have := HS0.out; omega)
  have c0' : ∀ (x : Obj) i, (W0.alloc x).cell? ⟨w.heap.size, i, none⟩ = W0.cell? ⟨w.heap.size, i, none⟩ := fun x i => World.cell?_alloc_old W0 x ⟨w.heap.size, i, none⟩ (by have := LX.out; show w.heap.size ≠ W0.heap.size; omega)
  have c0 : ∀ (x : Obj) i, (W0.drew.alloc x).cell? ⟨w.heap.size, i, none⟩ = W0.cell? ⟨w.heap.size, i, none⟩ := fun x i => World.cell?_alloc_old W0.drew x ⟨w.heap.size, i, none⟩ (by have := LX.out; show w.heap.size ≠ W0.heap.size; omega)
  have CL := hide (fun (W : World) (hW : Below W0.heap.size W0 W) => lengthAt B a b r s cap dap D S x W (by have := HS0.out; have := hW.size; omega) (H.out.below (hW.mono (by have := HS0.out; omega))) (H'.out.below (hW.mono (by have := HS0.out; omega))) hr hs)
  have CW := hide (fun (W : World) (hW : Below W0.heap.size W0 W) => linewise 45 #[] (nuG (lenA r s D S x).toNat) B a b r s cap dap D S x (lenA r s D S x) W (by have := HS0.out; have := hW.size; omega) (H.out.below (hW.mono (by have := HS0.out; omega))) (H'.out.below (hW.mono (by have := HS0.out; omega))) hr hs hcap (by have := LA.out; unfold bd; omega) (enters_of Try.func45 (by kernel_rfl) rfl) (fun len N e1 e2 l1 _ => by
    have e3 : len = N := by omega
    subst e3
    rw [e1, Int.toNat_natCast]
    exact srt1 len l1 (by have := LA.out; omega) W))
  go_cut [6] (fun p wx => PutR W0 p (lineP r s D S x (lenA r s D S x) (nuG (lenA r s D S x).toNat)) wx)
  case first =>
    go_region_with (first
      | (go_at_call 44
         refine (CL.out _ (by first | exact ((Below.refl _ _).alloc (Nat.le_refl _) _).drew | exact (Below.refl _ _).drew)).mono ?_
         rintro e wD ⟨rfl, bD⟩
         first
           | (have sD : W0.heap.size + 1 ≤ wD.heap.size := by (have q := bD.size; simp only [World.size_alloc, drewSize'] at q; omega)
              have bD' : Below W0.heap.size W0 wD := ((Below.refl _ W0).alloc (Nat.le_refl _) _).drew.trans (bD.mono (by simp only [World.size_alloc, drewSize']; omega))
              have pD := Bx.below (w := (W0.alloc (.cells #[.slice none 0 0, .slice none 0 0] 37)).drew) (bx_new W0 (.slice none 0 0) (.slice none 0 0) 37) bD (by simp only [World.size_alloc, drewSize']; omega)
              have fD := fun i => bD.frozen (p := ⟨W0.heap.size, i, none⟩) (by simp only [World.size_alloc, drewSize']; omega)
              have cD := fun i => bD'.cell (p := ⟨w.heap.size, i, none⟩) (show w.heap.size < W0.heap.size by have := LX.out; omega))
           | (have bD' : Below W0.heap.size W0 wD := (Below.refl _ W0).drew.trans bD
              have sD' : W0.heap.size ≤ wD.heap.size := bD'.size
              have cD := fun i => bD'.cell (p := ⟨w.heap.size, i, none⟩) (show w.heap.size < W0.heap.size by have := LX.out; omega)
              have c5 : ∀ (x : Obj) i, (wD.alloc x).cell? ⟨w.heap.size, i, none⟩ = W0.cell? ⟨w.heap.size, i, none⟩ := fun x i => (World.cell?_alloc_old wD x ⟨w.heap.size, i, none⟩ (by have := LX.out; show w.heap.size ≠ wD.heap.size; omega)).trans (cD i)))
      | (go_at_call 43
         refine (CW.out _ (by first | exact bD' | exact bD'.alloc bD'.size _)).mono ?_
         rintro e wE ⟨ta, tb, tc, td, rfl, tz, bE⟩
         first
           | (have kE := pD.below bE (by omega)
              obtain ⟨kE0, kE1⟩ := kE
              have fE := fun i => (bE.frozen (p := ⟨W0.heap.size, i, none⟩) (show W0.heap.size < wD.heap.size by omega)).trans (fD i))
           | (have kE := (bx_new wD (.slice none 0 0) (.slice none 0 0) 37).below bE (by simp only [World.size_alloc]; omega)
              obtain ⟨kE0, kE1⟩ := kE
              have fE := fun i => bE.frozen (p := ⟨wD.heap.size, i, none⟩) (by simp only [World.size_alloc]; omega))
           | skip))
    all_goals (go_wp2_with fail)
    all_goals go_meet
    all_goals first
      | exact putA _ tz bD' bE
      | exact putB tz (bD'.alloc bD'.size _) bE (by simp) bD'.size (bx_new wD (.slice none 0 0) (.slice none 0 0) 37)
      | exact putB tz bD' bE (by omega) (Nat.le_refl _) pD
  case rest =>
  obtain ⟨P, ta, tb, tc, td, rfl, pl, pz, bx, vo, vn, bw⟩ := hcut
  obtain ⟨X1, eX⟩ : ∃ X1, X1 = wc := ⟨_, rfl⟩
  subst eX
  have BX := hide bx
  have VO := hide vo
  have VN := hide vn
  have BW := hide bw
  have N1 := hide (N0.out.below bw (by have := HS0.out; omega))
  have LX1 := hide (show w.heap.size + 2 < X1.heap.size by have := HS0.out; have := bw.size; omega)
  clear x0 x1 bx vo vn bw c0 c0' CL CW LX
  have LX := LX1
  obtain ⟨x0, x1⟩ := N1.out
  have c0' : ∀ (x : Obj) i, (X1.alloc x).cell? ⟨w.heap.size, i, none⟩ = X1.cell? ⟨w.heap.size, i, none⟩ := fun x i => World.cell?_alloc_old X1 x ⟨w.heap.size, i, none⟩ (by have := LX.out; show w.heap.size ≠ X1.heap.size; omega)
  have c0 : ∀ (x : Obj) i, (X1.drew.alloc x).cell? ⟨w.heap.size, i, none⟩ = X1.cell? ⟨w.heap.size, i, none⟩ := fun x i => World.cell?_alloc_old X1.drew x ⟨w.heap.size, i, none⟩ (by have := LX.out; show w.heap.size ≠ X1.heap.size; omega)
  have CL := hide (fun (W : World) (hW : Below X1.heap.size X1 W) => lengthAt B a b r s cap dap D S x W (by have := LX.out; have := hW.size; omega) ((H.out.below (BW.out.mono (by have := HS0.out; omega))).below (hW.mono (by have := LX.out; omega))) ((H'.out.below (BW.out.mono (by have := HS0.out; omega))).below (hW.mono (by have := LX.out; omega))) hr hs)
  have CW := hide (fun (W : World) (hW : Below X1.heap.size X1 W) => linewise 47 #[] (plG (lenA r s D S x).toNat) B a b r s cap dap D S x (lenA r s D S x) W (by have := LX.out; have := hW.size; omega) ((H.out.below (BW.out.mono (by have := HS0.out; omega))).below (hW.mono (by have := LX.out; omega))) ((H'.out.below (BW.out.mono (by have := HS0.out; omega))).below (hW.mono (by have := LX.out; omega))) hr hs hcap (by have := LA.out; unfold bd; omega) (enters_of Try.func47 (by kernel_rfl) rfl) (fun len N e1 e2 l1 _ => by
    have e3 : len = N := by omega
    subst e3
    rw [e1, Int.toNat_natCast]
    exact srt2 len l1 (by have := LA.out; omega) W))
  go_wp2_with fail
  go_cut [7] (fun p wx => PutR X1 p (lineP r s D S x (lenA r s D S x) (plG (lenA r s D S x).toNat)) wx)
  case first =>
    go_region_with (first
      | (go_at_call 44
         refine (CL.out _ (by first | exact ((Below.refl _ _).alloc (Nat.le_refl _) _).drew | exact (Below.refl _ _).drew)).mono ?_
         rintro e wD ⟨rfl, bD⟩
         first
           | (have sD : X1.heap.size + 1 ≤ wD.heap.size := by (have q := bD.size; simp only [World.size_alloc, drewSize'] at q; omega)
              have bD' : Below X1.heap.size X1 wD := ((Below.refl _ X1).alloc (Nat.le_refl _) _).drew.trans (bD.mono (by simp only [World.size_alloc, drewSize']; omega))
              have pD := Bx.below (w := (X1.alloc (.cells #[.slice none 0 0, .slice none 0 0] 37)).drew) (bx_new X1 (.slice none 0 0) (.slice none 0 0) 37) bD (by simp only [World.size_alloc, drewSize']; omega)
              have fD := fun i => bD.frozen (p := ⟨X1.heap.size, i, none⟩) (by simp only [World.size_alloc, drewSize']; omega)
              have cD := fun i => bD'.cell (p := ⟨w.heap.size, i, none⟩) (show w.heap.size < X1.heap.size by have := LX.out; omega))
           | (have bD' : Below X1.heap.size X1 wD := (Below.refl _ X1).drew.trans bD
              have sD' : X1.heap.size ≤ wD.heap.size := bD'.size
              have cD := fun i => bD'.cell (p := ⟨w.heap.size, i, none⟩) (show w.heap.size < X1.heap.size by have := LX.out; omega)
              have c5 : ∀ (x : Obj) i, (wD.alloc x).cell? ⟨w.heap.size, i, none⟩ = X1.cell? ⟨w.heap.size, i, none⟩ := fun x i => (World.cell?_alloc_old wD x ⟨w.heap.size, i, none⟩ (by have := LX.out; show w.heap.size ≠ wD.heap.size; omega)).trans (cD i)))
      | (go_at_call 43
         refine (CW.out _ (by first | exact bD' | exact bD'.alloc bD'.size _)).mono ?_
         rintro e wE ⟨ta, tb, tc, td, rfl, tz, bE⟩
         first
           | (have kE := pD.below bE (by omega)
              obtain ⟨kE0, kE1⟩ := kE
              have fE := fun i => (bE.frozen (p := ⟨X1.heap.size, i, none⟩) (show X1.heap.size < wD.heap.size by omega)).trans (fD i))
           | (have kE := (bx_new wD (.slice none 0 0) (.slice none 0 0) 37).below bE (by simp only [World.size_alloc]; omega)
              obtain ⟨kE0, kE1⟩ := kE
              have fE := fun i => bE.frozen (p := ⟨wD.heap.size, i, none⟩) (by simp only [World.size_alloc]; omega))
           | skip))
    all_goals (go_wp2_with fail)
    all_goals go_meet
    all_goals first
      | exact putA _ tz bD' bE
      | exact putB tz (bD'.alloc bD'.size _) bE (by simp) bD'.size (bx_new wD (.slice none 0 0) (.slice none 0 0) 37)
      | exact putB tz bD' bE (by omega) (Nat.le_refl _) pD
  case rest =>
  obtain ⟨P2, ta2, tb2, tc2, td2, rfl, pl2, pz2, bx2, vo2, vn2, bw2⟩ := hcut
  obtain ⟨X2, eX⟩ : ∃ X2, X2 = wc := ⟨_, rfl⟩
  subst eX
  have B2 := hide ((BL.out.trans (BW.out.mono (by have := HS0.out; omega))).trans (bw2.mono (by have := LX.out; omega)))
  have K1 := BX.out.below bw2 pz
  have VO2 := hide vo2
  have VO1 := hide (VO.out.below bw2)
  have z1 := LX.out
  have M2 := (M0.out.below BW.out (by have := HS0.out; omega)).below bw2 (by omega)
  have M3 := (M1.out.below BW.out (by have := HS0.out; omega)).below bw2 (by omega)
  have G2 := (G0.out.1.below BW.out (by have := HS0.out; omega)).below bw2 (by omega)
  have G3 := (G0.out.2.below BW.out (by have := HS0.out; omega)).below bw2 (by omega)
  have nP : w.heap.size + 2 < P := by have := HS0.out; omega
  have nP2 : w.heap.size + 2 < P2 := by omega
  have SX := hide bw2.size
  obtain ⟨k0, k1⟩ := K1
  obtain ⟨j0, j1⟩ := bx2
  obtain ⟨y0, y1⟩ := M2
  obtain ⟨y2, y3⟩ := M3
  unfold Free at G2 G3
  clear x0 x1 c0 c0' CL CW bw2 vo2
  go_wp2_with fail
  go_region
  all_goals (go_wp2_with fail)
  all_goals exact bodyPost_ret (v := .tuple #[.agg #[.slice ta (lineP r s D S x (lenA r s D S x) (nuG (lenA r s D S x).toNat)).r tc, .slice tb (lineP r s D S x (lenA r s D S x) (nuG (lenA r s D S x).toNat)).s td], .agg #[.slice ta2 (lineP r s D S x (lenA r s D S x) (plG (lenA r s D S x).toNat)).r tc2, .slice tb2 (lineP r s D S x (lenA r s D S x) (plG (lenA r s D S x).toNat)).s td2]]) (by simp [results, Try.results17, go_sem, y0, y1, y2, y3]) rfl (tens_end2 VO1.out VO2.out (fun k q => (VO.out.blk q).2) (by have := HS0.out; omega) (by omega) (by omega) B2.out)
end Vo
end Go.Proofs.Ytpmkjifpoikdjaa
