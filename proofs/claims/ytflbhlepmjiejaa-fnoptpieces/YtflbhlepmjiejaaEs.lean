/- Schedules and times that a law draws. -/
import Derived.Test.YtflbhlepmjiejaaEa
import Derived.Test.YtflbhlepmjiejaaNef
import Derived.Deep.RegionHeld3
namespace Go.Proofs.Ytflbhlepmjiejaa
namespace Vo
open Go.ChangeShapes Go.WideShapes Go.ChangeAt Go.RowKit Go.Joins Go.Sort
open Vl
set_option linter.unusedVariables false
set_option linter.unusedSimpArgs false
def upI (f : Nat → Int) (k : Nat) (x : Int) (i : Nat) : Int := if i = k then x else f i
/-- a schedule that is being drawn: its variable V, the answer's variable, the cursor p -/
structure SDr (w X : World) (B p : Nat) (a : Option Addr) (len cap V : Nat) (f : Nat → Int) : Prop where
  cur : Base.Cur B X p a len cap
  gr : w.grownBy X (some p)
  c : ∀ i, i < 4 → X.cell? ⟨V, i, none⟩ = some (.int .i64 (f i))
  fz : ∀ i, X.frozen? ⟨V, i, none⟩ = false
  r : ∀ i, i < 4 → X.cell? ⟨w.heap.size, i, none⟩ = some (.int .i64 0)
  rf : ∀ i, X.frozen? ⟨w.heap.size, i, none⟩ = false
  pw : p < w.heap.size
  wV : w.heap.size < V
  VX : V < X.heap.size
theorem cur_other {B p : Nat} {a : Option Addr} {len cap : Nat} {w : World} (h : Base.Cur B w p a len cap) (q i : Nat) (v : Value) (hq : ¬ p = q) (hB : B ≤ q) : Base.Cur B (w.setCell ⟨q, i, none⟩ v) p a len cap := by
  obtain ⟨hp, hcode, c0, ⟨k, g, c1, c2, z⟩, f1, f2⟩ := h
  have o : ∀ j, (w.setCell ⟨q, i, none⟩ v).cell? ⟨p, j, none⟩ = w.cell? ⟨p, j, none⟩ := fun j => World.cell?_setCell_other _ _ _ _ (by intro e; cases e; exact hq rfl)
  exact ⟨hp, hcode.below ((Below.refl _ _).setCell hB _), (o 0).trans c0, ⟨k, g, (o 1).trans c1, (o 2).trans c2, z⟩, by rw [World.frozen?_setCell]; exact f1, by rw [World.frozen?_setCell]; exact f2⟩
theorem grown_stE {w X : World} {p q i : Nat} {v : Value} (h : w.grownBy X (some p)) (hq : w.heap.size ≤ q) : w.grownBy (X.setCell ⟨q, i, none⟩ v) (some p) := by
  have k : Kept (· = q) X (X.setCell ⟨q, i, none⟩ v) := Kept.setCell X ⟨q, i, none⟩ v
  exact ⟨k.os.trans h.os, k.tape.trans h.tape, k.output.trans h.output, Nat.le_trans h.size k.size, fun j hj hn => (k.block j (Nat.lt_of_lt_of_le hj h.size) (by omega)).trans (h.block j hj hn)⟩
section
variable {w X X' : World} {B p : Nat} {a : Option Addr} {len cap V : Nat} {f : Nat → Int}
theorem grown_keep {q i : Nat} (g : X.grownBy X' (some p)) (hq : q < X.heap.size) (hn : ¬ q = p) : X'.cell? ⟨q, i, none⟩ = X.cell? ⟨q, i, none⟩ ∧ X'.frozen? ⟨q, i, none⟩ = X.frozen? ⟨q, i, none⟩ :=
  ⟨World.cell?_of_block (w := X) (a := ⟨q, i, none⟩) (g.block q hq (by intro e; injection e with e; exact hn e)), World.frozen?_of_block (w := X) (a := ⟨q, i, none⟩) (g.block q hq (by intro e; injection e with e; exact hn e))⟩
theorem SDr.draw (h : SDr w X B p a len cap V f) (g : X.grownBy X' (some p)) (d : Base.Cur B X' p a len cap) : SDr w X' B p a len cap V f where
  cur := d
  gr := h.gr.trans g
  c i hi := by have := h.pw; have := h.wV; rw [(grown_keep g h.VX (by omega)).1]; exact h.c i hi
  fz i := by have := h.pw; have := h.wV; rw [(grown_keep g h.VX (by omega)).2]; exact h.fz i
  r i hi := by have := h.pw; have := h.wV; have := h.VX; rw [(grown_keep g (by omega) (by omega)).1]; exact h.r i hi
  rf i := by have := h.pw; have := h.wV; have := h.VX; rw [(grown_keep g (by omega) (by omega)).2]; exact h.rf i
  pw := h.pw
  wV := h.wV
  VX := Nat.lt_of_lt_of_le h.VX g.size
theorem SDr.set (h : SDr w X B p a len cap V f) (hB : B ≤ w.heap.size) (k : Nat) (x : Int) (hk : k < 4) : SDr w (X.setCell ⟨V, k, none⟩ (.int .i64 x)) B p a len cap V (upI f k x) where
  cur := cur_other h.cur V k _ (by have := h.pw; have := h.wV; omega) (by have := h.wV; omega)
  gr := grown_stE h.gr (Nat.le_of_lt h.wV)
  c i hi := by
    unfold upI
    by_cases c : i = k
    · subst c; rw [if_pos rfl]; exact World.cell?_setCell_same _ _ _ (h.c i hi)
    · rw [if_neg c, World.cell?_setCell_other _ _ _ _ (by intro e; injection e with _ e; exact c e.symm)]; exact h.c i hi
  fz i := by rw [World.frozen?_setCell]; exact h.fz i
  r i hi := by rw [World.cell?_setCell_other _ _ _ _ (by intro e; injection e with e; have := h.wV; omega)]; exact h.r i hi
  rf i := by rw [World.frozen?_setCell]; exact h.rf i
  pw := h.pw
  wV := h.wV
  VX := by simpa [World.setCell] using h.VX
theorem SDr.alloc (h : SDr w X B p a len cap V f) (o : Obj) : SDr w (X.alloc o) B p a len cap V f :=
  h.draw (Lib.grownBy_allocR (Base.grown_refl X p) o) (h.cur.alloc o)
end
/-- the answer's variable under way -/
structure RDr (w X : World) (B p : Nat) (a : Option Addr) (len cap : Nat) (f : Nat → Int) : Prop where
  cur : Base.Cur B X p a len cap
  gr : w.grownBy X (some p)
  c : ∀ i, i < 4 → X.cell? ⟨w.heap.size, i, none⟩ = some (.int .i64 (f i))
  fz : ∀ i, X.frozen? ⟨w.heap.size, i, none⟩ = false
  pw : p < w.heap.size
theorem RDr.set {w X : World} {B p : Nat} {a : Option Addr} {len cap : Nat} {f : Nat → Int} (h : RDr w X B p a len cap f) (hB : B ≤ w.heap.size) (k : Nat) (x : Int) (hk : k < 4) : RDr w (X.setCell ⟨w.heap.size, k, none⟩ (.int .i64 x)) B p a len cap (upI f k x) where
  cur := cur_other h.cur _ k _ (by have := h.pw; omega) hB
  gr := grown_stE h.gr (Nat.le_refl _)
  c i hi := by
    unfold upI
    by_cases c : i = k
    · subst c; rw [if_pos rfl]; exact World.cell?_setCell_same _ _ _ (h.c i hi)
    · rw [if_neg c, World.cell?_setCell_other _ _ _ _ (by intro e; injection e with _ e; exact c e.symm)]; exact h.c i hi
  fz i := by rw [World.frozen?_setCell]; exact h.fz i
  pw := h.pw
/-- the end of such a draw -/
def SDE (w : World) (B p : Nat) (a : Option Addr) (len cap : Nat) (e : Ending) (w' : World) : Prop :=
  ∃ x0 x1 x2 x3 : Int, e = .returned (.agg #[.int .i64 x0, .int .i64 x1, .int .i64 x2, .int .i64 x3]) ∧ bd x0 ∧ bd x1 ∧ bd x2 ∧ bd x3 ∧ Base.Cur B w' p a len cap ∧ w.grownBy w' (some p)
set_option maxHeartbeats 2000000 in
theorem drawSched (B p : Nat) (a : Option Addr) (len cap : Nat) (w : World) (hc : Base.Cur B w p a len cap) (hB : B ≤ w.heap.size) :
    Calls Try.prog 39 #[.pointer (some ⟨p, 0, none⟩)] w (SDE w B p a len cap) := by
  obtain ⟨W0, hW0⟩ : ∃ W0, w.alloc (.cells #[.int .i64 0, .int .i64 0, .int .i64 0, .int .i64 0] 25) = W0 := ⟨_, rfl⟩
  have pw := hc.lt
  have D0 := Base.hide (hW0 ▸ hc.alloc _ : Base.Cur B W0 p a len cap)
  have G0 := Base.hide (hW0 ▸ Lib.grownBy_allocR (Base.grown_refl w p) _ : w.grownBy W0 (some p))
  have R0 := Base.hide (show (∀ i, i < 4 → W0.cell? ⟨w.heap.size, i, none⟩ = some (.int .i64 0)) ∧ (∀ i, W0.frozen? ⟨w.heap.size, i, none⟩ = false) from hW0 ▸ ⟨fun i hi => by rcases (by omega : i = 0 ∨ i = 1 ∨ i = 2 ∨ i = 3) with rfl | rfl | rfl | rfl <;> simp [go_sem], fun i => by simp [go_sem]⟩)
  have z0 : W0.heap.size = w.heap.size + 1 := by rw [← hW0]; simp
  have Z0 := Base.hide z0
  have PW := Base.hide pw
  clear hc z0 pw
  go_enter Try.func39, Try.ntmps39
  go_wp2_with fail
  refine (Base.l1Below B p a len cap 200000 _ D0.out (by decide) (by decide)).mono ?_; rintro e w1 ⟨x, x0, x1, rfl, d1, g1⟩
  have D1 := Base.hide d1
  clear d1 hW0
  go_wp2_with fail
  refine (Base.l1Below B p a len cap 6 _ D1.out (by decide) (by decide)).mono ?_; rintro e w2 ⟨y, y0, y1, rfl, d2, g2⟩
  go_wp2_with fail
  obtain ⟨W3, hW3⟩ : ∃ W3, w2.alloc (.cells #[.int .i64 x, .int .i64 0, .int .i64 y, .int .i64 0] 25) = W3 := ⟨_, rfl⟩
  have g3 : W0.grownBy W3 (some p) := hW3 ▸ Lib.grownBy_allocR (g1.trans g2) _
  have H3 := Base.hide (show SDr w W3 B p a len cap w2.heap.size (fun i => if i = 0 then x else if i = 2 then y else 0) from
    { cur := hW3 ▸ d2.alloc _
      gr := G0.out.trans g3
      c := fun i hi => by rcases (by omega : i = 0 ∨ i = 1 ∨ i = 2 ∨ i = 3) with rfl | rfl | rfl | rfl <;> (rw [← hW3]; simp [go_sem])
      fz := fun i => by rw [← hW3]; simp [go_sem]
      r := fun i hi => by have := Z0.out; have := PW.out; rw [(grown_keep g3 (by omega) (by omega)).1]; exact R0.out.1 i hi
      rf := fun i => by have := Z0.out; have := PW.out; rw [(grown_keep g3 (by omega) (by omega)).2]; exact R0.out.2 i
      pw := PW.out
      wV := by have := Z0.out; have := g1.size; have := g2.size; omega
      VX := by rw [← hW3]; simp })
  have WV := Base.hide H3.out.wV
  clear d2 g1 g2 g3 D0 D1 G0 R0 Z0
  rw [hW3]
  obtain ⟨V, hV⟩ : ∃ V, w2.heap.size = V := ⟨_, rfl⟩
  rw [hV] at H3 WV ⊢
  clear hW3 hV
  refine (Base.l1Below B p a len cap (x + 1) _ H3.out.cur (by omega) (by omega)).mono ?_; rintro e w4 ⟨z, z0, z1, rfl, d4, g4⟩
  have H4 := Base.hide (H3.out.draw g4 d4)
  clear d4 g4 H3
  obtain ⟨X4, hX4⟩ : ∃ X4, w4.setCell ⟨V, 1, none⟩ (.int .i64 z) = X4 := ⟨_, rfl⟩
  have H5 := Base.hide (hX4 ▸ H4.out.set hB 1 z (by omega) : SDr w X4 B p a len cap V _)
  have c1 : w4.cell? ⟨V, 1, none⟩ = some (.int .i64 0) := H4.out.c 1 (by omega)
  have f1 := H4.out.fz
  have c2 : X4.cell? ⟨V, 2, none⟩ = some (.int .i64 y) := H5.out.c 2 (by omega)
  have c3 : X4.cell? ⟨V, 3, none⟩ = some (.int .i64 0) := H5.out.c 3 (by omega)
  have FX := Base.hide (fun (W : World) (g : X4.grownBy W (some p)) => show W.cell? ⟨V, 2, none⟩ = some (.int .i64 y) ∧ W.cell? ⟨V, 3, none⟩ = some (.int .i64 0) ∧ (∀ i, W.frozen? ⟨V, i, none⟩ = false) from by
    have := H5.out.pw; have := H5.out.wV
    exact ⟨(grown_keep g H5.out.VX (by omega)).1.trans (H5.out.c 2 (by omega)), (grown_keep g H5.out.VX (by omega)).1.trans (H5.out.c 3 (by omega)), fun i => (grown_keep g H5.out.VX (by omega)).2.trans (H5.out.fz i)⟩)
  have DR := Base.hide (show Base.Cur B X4.drew p a len cap ∧ X4.grownBy X4.drew (some p) from ⟨⟨H5.out.cur.hp, H5.out.cur.code.below (Below.refl _ _).drew, H5.out.cur.c0, H5.out.cur.st, H5.out.cur.f1, H5.out.cur.f2⟩, Base.grown_drew X4 1 p⟩)
  have SE := Base.hide (show ∀ (W : World) (u : Value), (W.setCell ⟨V, 3, none⟩ u).cell? ⟨V, 2, none⟩ = W.cell? ⟨V, 2, none⟩ from fun W u => World.cell?_setCell_other _ _ _ _ (by intro e; cases e))
  go_wp2_with fail
  clear c1 f1 hX4
  go_region_held3 (fun w' => w'.cell? ⟨V, 2, none⟩ = some (.int .i64 y))
    ((try dsimp only) <;> (first | with_reducible assumption | assumption | (rw [SE.out]; assumption)))
    (first
    | (go_at_call 20
       refine (Base.l1Below B p a len cap 12 _ DR.out.1 (by decide) (by decide)).mono ?_
       rintro e w6 ⟨t, t0, t1, rfl, d6, g6⟩
       obtain ⟨k2, k3, kf⟩ := FX.out w6 (DR.out.2.trans g6)))
  rw [show IntKind.i64.wrap (y + t) = y + t from wid (by omega)]
  obtain ⟨X6, hX6⟩ : ∃ X6, w6.setCell ⟨V, 3, none⟩ (.int .i64 (y + t)) = X6 := ⟨_, rfl⟩
  rw [hX6]
  have H7 := Base.hide (hX6 ▸ (H5.out.draw (DR.out.2.trans g6) d6).set hB 3 (y + t) (by omega) : SDr w X6 B p a len cap V _)
  clear d6 g6 k2 k3 kf FX DR SE c2 c3 H4 H5 hX6
  go_wp2_with fail
  refine (Nef.l1Once B p a len cap 30 _ H7.out.cur (by decide) (by decide)).mono ?_; rintro e w7 ⟨b, rfl, d7, g7⟩
  have H8 := Base.hide (H7.out.draw g7 d7)
  clear d7 g7 H7
  cases b
  · go_wp2_with fail
    refine (Nef.l1Once B p a len cap 30 _ H8.out.cur (by decide) (by decide)).mono ?_; rintro e v1 ⟨bb, rfl, dv, gv⟩
    have HA := Base.hide (H8.out.draw gv dv)
    clear dv gv
    cases bb
    · have RX := Base.hide (show RDr w v1 B p a len cap (fun _ => 0) from ⟨HA.out.cur, HA.out.gr, HA.out.r, HA.out.rf, HA.out.pw⟩)
      have o0 : v1.cell? ⟨V, 0, none⟩ = some (.int .i64 (x)) := HA.out.c 0 (by omega)
      have o1 : v1.cell? ⟨V, 1, none⟩ = some (.int .i64 (z)) := HA.out.c 1 (by omega)
      have o2 : v1.cell? ⟨V, 2, none⟩ = some (.int .i64 (y)) := HA.out.c 2 (by omega)
      have o3 : v1.cell? ⟨V, 3, none⟩ = some (.int .i64 (y + t)) := HA.out.c 3 (by omega)
      obtain ⟨Y0, hY0⟩ : ∃ Y0, v1.setCell ⟨w.heap.size, 0, none⟩ (.int .i64 (x)) = Y0 := ⟨_, rfl⟩
      have RY0 := Base.hide (show RDr w Y0 B p a len cap _ from hY0 ▸ RX.out.set hB 0 (x) (by omega))
      obtain ⟨uY0, eY0⟩ : ∃ u, v1.cell? ⟨w.heap.size, 0, none⟩ = some u := ⟨_, RX.out.c 0 (by omega)⟩
      have gY0 : v1.frozen? ⟨w.heap.size, 0, none⟩ = false := RX.out.fz 0
      obtain ⟨Y1, hY1⟩ : ∃ Y1, Y0.setCell ⟨w.heap.size, 1, none⟩ (.int .i64 (z)) = Y1 := ⟨_, rfl⟩
      have RY1 := Base.hide (show RDr w Y1 B p a len cap _ from hY1 ▸ RY0.out.set hB 1 (z) (by omega))
      obtain ⟨uY1, eY1⟩ : ∃ u, Y0.cell? ⟨w.heap.size, 1, none⟩ = some u := ⟨_, RY0.out.c 1 (by omega)⟩
      have gY1 : Y0.frozen? ⟨w.heap.size, 1, none⟩ = false := RY0.out.fz 1
      obtain ⟨Y2, hY2⟩ : ∃ Y2, Y1.setCell ⟨w.heap.size, 2, none⟩ (.int .i64 (y)) = Y2 := ⟨_, rfl⟩
      have RY2 := Base.hide (show RDr w Y2 B p a len cap _ from hY2 ▸ RY1.out.set hB 2 (y) (by omega))
      obtain ⟨uY2, eY2⟩ : ∃ u, Y1.cell? ⟨w.heap.size, 2, none⟩ = some u := ⟨_, RY1.out.c 2 (by omega)⟩
      have gY2 : Y1.frozen? ⟨w.heap.size, 2, none⟩ = false := RY1.out.fz 2
      obtain ⟨Y3, hY3⟩ : ∃ Y3, Y2.setCell ⟨w.heap.size, 3, none⟩ (.int .i64 (y + t)) = Y3 := ⟨_, rfl⟩
      have RY3 := Base.hide (show RDr w Y3 B p a len cap _ from hY3 ▸ RY2.out.set hB 3 (y + t) (by omega))
      obtain ⟨uY3, eY3⟩ : ∃ u, Y2.cell? ⟨w.heap.size, 3, none⟩ = some u := ⟨_, RY2.out.c 3 (by omega)⟩
      have gY3 : Y2.frozen? ⟨w.heap.size, 3, none⟩ = false := RY2.out.fz 3
      have r0 : Y3.cell? ⟨w.heap.size, 0, none⟩ = some (.int .i64 (x)) := RY3.out.c 0 (by omega)
      have r1 : Y3.cell? ⟨w.heap.size, 1, none⟩ = some (.int .i64 (z)) := RY3.out.c 1 (by omega)
      have r2 : Y3.cell? ⟨w.heap.size, 2, none⟩ = some (.int .i64 (y)) := RY3.out.c 2 (by omega)
      have r3 : Y3.cell? ⟨w.heap.size, 3, none⟩ = some (.int .i64 (y + t)) := RY3.out.c 3 (by omega)
      go_wp2_with fail
      exact bodyPost_ret (v := .agg #[.int .i64 (x), .int .i64 (z), .int .i64 (y), .int .i64 (y + t)]) (by simp [results, Try.results39, go_sem, r0, r1, r2, r3]) rfl ⟨_, _, _, _, rfl, ⟨by omega, by omega⟩, ⟨by omega, by omega⟩, ⟨by omega, by omega⟩, ⟨by omega, by omega⟩, RY3.out.cur, RY3.out.gr⟩
    · have c2 : v1.cell? ⟨V, 2, none⟩ = some (.int .i64 y) := HA.out.c 2 (by omega)
      have hl := Base.laid_ints v1 [1000000, 1000001, y - 1] 3 (-9223372036854775808) 9223372036854775807 (by intro q hq; simp at hq; omega)
      have HB2 := Base.hide (HA.out.alloc (.cells (([1000000, 1000001, y - 1] : List Int).map (Value.int .i64)).toArray 3))
      have vp := HA.out.cur.lt
      go_wp2_with fail
      refine (Base.l1PickInt B p a len cap v1.heap.size 3 (-9223372036854775808) 9223372036854775807 _ HB2.out.cur (by omega) (by omega) (by omega) hl).mono ?_; rintro e v2 ⟨k, k0, k1, rfl, dk, gk⟩
      have HC := Base.hide (HB2.out.draw gk dk)
      clear dk gk hl c2 vp
      obtain ⟨v3, hv3⟩ : ∃ v3, v2.setCell ⟨V, 3, none⟩ (.int .i64 k) = v3 := ⟨_, rfl⟩
      have HD := Base.hide (hv3 ▸ HC.out.set hB 3 k (by omega) : SDr w v3 B p a len cap V _)
      obtain ⟨uv, ev⟩ : ∃ u, v2.cell? ⟨V, 3, none⟩ = some u := ⟨_, HC.out.c 3 (by omega)⟩
      have gv3 : v2.frozen? ⟨V, 3, none⟩ = false := HC.out.fz 3
      have RX := Base.hide (show RDr w v3 B p a len cap (fun _ => 0) from ⟨HD.out.cur, HD.out.gr, HD.out.r, HD.out.rf, HD.out.pw⟩)
      have o0 : v3.cell? ⟨V, 0, none⟩ = some (.int .i64 (x)) := HD.out.c 0 (by omega)
      have o1 : v3.cell? ⟨V, 1, none⟩ = some (.int .i64 (z)) := HD.out.c 1 (by omega)
      have o2 : v3.cell? ⟨V, 2, none⟩ = some (.int .i64 (y)) := HD.out.c 2 (by omega)
      have o3 : v3.cell? ⟨V, 3, none⟩ = some (.int .i64 (k)) := HD.out.c 3 (by omega)
      obtain ⟨Y0, hY0⟩ : ∃ Y0, v3.setCell ⟨w.heap.size, 0, none⟩ (.int .i64 (x)) = Y0 := ⟨_, rfl⟩
      have RY0 := Base.hide (show RDr w Y0 B p a len cap _ from hY0 ▸ RX.out.set hB 0 (x) (by omega))
      obtain ⟨uY0, eY0⟩ : ∃ u, v3.cell? ⟨w.heap.size, 0, none⟩ = some u := ⟨_, RX.out.c 0 (by omega)⟩
      have gY0 : v3.frozen? ⟨w.heap.size, 0, none⟩ = false := RX.out.fz 0
      obtain ⟨Y1, hY1⟩ : ∃ Y1, Y0.setCell ⟨w.heap.size, 1, none⟩ (.int .i64 (z)) = Y1 := ⟨_, rfl⟩
      have RY1 := Base.hide (show RDr w Y1 B p a len cap _ from hY1 ▸ RY0.out.set hB 1 (z) (by omega))
      obtain ⟨uY1, eY1⟩ : ∃ u, Y0.cell? ⟨w.heap.size, 1, none⟩ = some u := ⟨_, RY0.out.c 1 (by omega)⟩
      have gY1 : Y0.frozen? ⟨w.heap.size, 1, none⟩ = false := RY0.out.fz 1
      obtain ⟨Y2, hY2⟩ : ∃ Y2, Y1.setCell ⟨w.heap.size, 2, none⟩ (.int .i64 (y)) = Y2 := ⟨_, rfl⟩
      have RY2 := Base.hide (show RDr w Y2 B p a len cap _ from hY2 ▸ RY1.out.set hB 2 (y) (by omega))
      obtain ⟨uY2, eY2⟩ : ∃ u, Y1.cell? ⟨w.heap.size, 2, none⟩ = some u := ⟨_, RY1.out.c 2 (by omega)⟩
      have gY2 : Y1.frozen? ⟨w.heap.size, 2, none⟩ = false := RY1.out.fz 2
      obtain ⟨Y3, hY3⟩ : ∃ Y3, Y2.setCell ⟨w.heap.size, 3, none⟩ (.int .i64 (k)) = Y3 := ⟨_, rfl⟩
      have RY3 := Base.hide (show RDr w Y3 B p a len cap _ from hY3 ▸ RY2.out.set hB 3 (k) (by omega))
      obtain ⟨uY3, eY3⟩ : ∃ u, Y2.cell? ⟨w.heap.size, 3, none⟩ = some u := ⟨_, RY2.out.c 3 (by omega)⟩
      have gY3 : Y2.frozen? ⟨w.heap.size, 3, none⟩ = false := RY2.out.fz 3
      have r0 : Y3.cell? ⟨w.heap.size, 0, none⟩ = some (.int .i64 (x)) := RY3.out.c 0 (by omega)
      have r1 : Y3.cell? ⟨w.heap.size, 1, none⟩ = some (.int .i64 (z)) := RY3.out.c 1 (by omega)
      have r2 : Y3.cell? ⟨w.heap.size, 2, none⟩ = some (.int .i64 (y)) := RY3.out.c 2 (by omega)
      have r3 : Y3.cell? ⟨w.heap.size, 3, none⟩ = some (.int .i64 (k)) := RY3.out.c 3 (by omega)
      go_wp2_with fail
      exact bodyPost_ret (v := .agg #[.int .i64 (x), .int .i64 (z), .int .i64 (y), .int .i64 (k)]) (by simp [results, Try.results39, go_sem, r0, r1, r2, r3]) rfl ⟨_, _, _, _, rfl, ⟨by omega, by omega⟩, ⟨by omega, by omega⟩, ⟨by omega, by omega⟩, ⟨k0, k1⟩, RY3.out.cur, RY3.out.gr⟩
  · have hl := Base.laid_ints w7 [16777216, 16777217, -1] 3 (-9223372036854775808) 9223372036854775807 (by intro q hq; simp at hq; omega)
    have H9 := Base.hide (H8.out.alloc (.cells (([16777216, 16777217, -1] : List Int).map (Value.int .i64)).toArray 3))
    have vp := H8.out.cur.lt
    go_wp2_with fail
    refine (Base.l1PickInt B p a len cap w7.heap.size 3 (-9223372036854775808) 9223372036854775807 _ H9.out.cur (by omega) (by omega) (by omega) hl).mono ?_; rintro e w8 ⟨j, j0, j1, rfl, d8, g8⟩
    have HE := Base.hide (H9.out.draw g8 d8)
    clear d8 g8 hl vp
    obtain ⟨X9, hX9⟩ : ∃ X9, w8.setCell ⟨V, 0, none⟩ (.int .i64 j) = X9 := ⟨_, rfl⟩
    have HF := Base.hide (hX9 ▸ HE.out.set hB 0 j (by omega) : SDr w X9 B p a len cap V _)
    obtain ⟨uw, ew⟩ : ∃ u, w8.cell? ⟨V, 0, none⟩ = some u := ⟨_, HE.out.c 0 (by omega)⟩
    have gw : w8.frozen? ⟨V, 0, none⟩ = false := HE.out.fz 0
    go_wp2_with fail
    refine (Nef.l1Once B p a len cap 30 _ HF.out.cur (by decide) (by decide)).mono ?_; rintro e v1 ⟨bb, rfl, dv, gv⟩
    have HA := Base.hide (HF.out.draw gv dv)
    clear dv gv
    cases bb
    · have RX := Base.hide (show RDr w v1 B p a len cap (fun _ => 0) from ⟨HA.out.cur, HA.out.gr, HA.out.r, HA.out.rf, HA.out.pw⟩)
      have o0 : v1.cell? ⟨V, 0, none⟩ = some (.int .i64 (j)) := HA.out.c 0 (by omega)
      have o1 : v1.cell? ⟨V, 1, none⟩ = some (.int .i64 (z)) := HA.out.c 1 (by omega)
      have o2 : v1.cell? ⟨V, 2, none⟩ = some (.int .i64 (y)) := HA.out.c 2 (by omega)
      have o3 : v1.cell? ⟨V, 3, none⟩ = some (.int .i64 (y + t)) := HA.out.c 3 (by omega)
      obtain ⟨Y0, hY0⟩ : ∃ Y0, v1.setCell ⟨w.heap.size, 0, none⟩ (.int .i64 (j)) = Y0 := ⟨_, rfl⟩
      have RY0 := Base.hide (show RDr w Y0 B p a len cap _ from hY0 ▸ RX.out.set hB 0 (j) (by omega))
      obtain ⟨uY0, eY0⟩ : ∃ u, v1.cell? ⟨w.heap.size, 0, none⟩ = some u := ⟨_, RX.out.c 0 (by omega)⟩
      have gY0 : v1.frozen? ⟨w.heap.size, 0, none⟩ = false := RX.out.fz 0
      obtain ⟨Y1, hY1⟩ : ∃ Y1, Y0.setCell ⟨w.heap.size, 1, none⟩ (.int .i64 (z)) = Y1 := ⟨_, rfl⟩
      have RY1 := Base.hide (show RDr w Y1 B p a len cap _ from hY1 ▸ RY0.out.set hB 1 (z) (by omega))
      obtain ⟨uY1, eY1⟩ : ∃ u, Y0.cell? ⟨w.heap.size, 1, none⟩ = some u := ⟨_, RY0.out.c 1 (by omega)⟩
      have gY1 : Y0.frozen? ⟨w.heap.size, 1, none⟩ = false := RY0.out.fz 1
      obtain ⟨Y2, hY2⟩ : ∃ Y2, Y1.setCell ⟨w.heap.size, 2, none⟩ (.int .i64 (y)) = Y2 := ⟨_, rfl⟩
      have RY2 := Base.hide (show RDr w Y2 B p a len cap _ from hY2 ▸ RY1.out.set hB 2 (y) (by omega))
      obtain ⟨uY2, eY2⟩ : ∃ u, Y1.cell? ⟨w.heap.size, 2, none⟩ = some u := ⟨_, RY1.out.c 2 (by omega)⟩
      have gY2 : Y1.frozen? ⟨w.heap.size, 2, none⟩ = false := RY1.out.fz 2
      obtain ⟨Y3, hY3⟩ : ∃ Y3, Y2.setCell ⟨w.heap.size, 3, none⟩ (.int .i64 (y + t)) = Y3 := ⟨_, rfl⟩
      have RY3 := Base.hide (show RDr w Y3 B p a len cap _ from hY3 ▸ RY2.out.set hB 3 (y + t) (by omega))
      obtain ⟨uY3, eY3⟩ : ∃ u, Y2.cell? ⟨w.heap.size, 3, none⟩ = some u := ⟨_, RY2.out.c 3 (by omega)⟩
      have gY3 : Y2.frozen? ⟨w.heap.size, 3, none⟩ = false := RY2.out.fz 3
      have r0 : Y3.cell? ⟨w.heap.size, 0, none⟩ = some (.int .i64 (j)) := RY3.out.c 0 (by omega)
      have r1 : Y3.cell? ⟨w.heap.size, 1, none⟩ = some (.int .i64 (z)) := RY3.out.c 1 (by omega)
      have r2 : Y3.cell? ⟨w.heap.size, 2, none⟩ = some (.int .i64 (y)) := RY3.out.c 2 (by omega)
      have r3 : Y3.cell? ⟨w.heap.size, 3, none⟩ = some (.int .i64 (y + t)) := RY3.out.c 3 (by omega)
      go_wp2_with fail
      exact bodyPost_ret (v := .agg #[.int .i64 (j), .int .i64 (z), .int .i64 (y), .int .i64 (y + t)]) (by simp [results, Try.results39, go_sem, r0, r1, r2, r3]) rfl ⟨_, _, _, _, rfl, ⟨j0, j1⟩, ⟨by omega, by omega⟩, ⟨by omega, by omega⟩, ⟨by omega, by omega⟩, RY3.out.cur, RY3.out.gr⟩
    · have c2 : v1.cell? ⟨V, 2, none⟩ = some (.int .i64 y) := HA.out.c 2 (by omega)
      have hl := Base.laid_ints v1 [1000000, 1000001, y - 1] 3 (-9223372036854775808) 9223372036854775807 (by intro q hq; simp at hq; omega)
      have HB2 := Base.hide (HA.out.alloc (.cells (([1000000, 1000001, y - 1] : List Int).map (Value.int .i64)).toArray 3))
      have vp := HA.out.cur.lt
      go_wp2_with fail
      refine (Base.l1PickInt B p a len cap v1.heap.size 3 (-9223372036854775808) 9223372036854775807 _ HB2.out.cur (by omega) (by omega) (by omega) hl).mono ?_; rintro e v2 ⟨k, k0, k1, rfl, dk, gk⟩
      have HC := Base.hide (HB2.out.draw gk dk)
      clear dk gk hl c2 vp
      obtain ⟨v3, hv3⟩ : ∃ v3, v2.setCell ⟨V, 3, none⟩ (.int .i64 k) = v3 := ⟨_, rfl⟩
      have HD := Base.hide (hv3 ▸ HC.out.set hB 3 k (by omega) : SDr w v3 B p a len cap V _)
      obtain ⟨uv, ev⟩ : ∃ u, v2.cell? ⟨V, 3, none⟩ = some u := ⟨_, HC.out.c 3 (by omega)⟩
      have gv3 : v2.frozen? ⟨V, 3, none⟩ = false := HC.out.fz 3
      have RX := Base.hide (show RDr w v3 B p a len cap (fun _ => 0) from ⟨HD.out.cur, HD.out.gr, HD.out.r, HD.out.rf, HD.out.pw⟩)
      have o0 : v3.cell? ⟨V, 0, none⟩ = some (.int .i64 (j)) := HD.out.c 0 (by omega)
      have o1 : v3.cell? ⟨V, 1, none⟩ = some (.int .i64 (z)) := HD.out.c 1 (by omega)
      have o2 : v3.cell? ⟨V, 2, none⟩ = some (.int .i64 (y)) := HD.out.c 2 (by omega)
      have o3 : v3.cell? ⟨V, 3, none⟩ = some (.int .i64 (k)) := HD.out.c 3 (by omega)
      obtain ⟨Y0, hY0⟩ : ∃ Y0, v3.setCell ⟨w.heap.size, 0, none⟩ (.int .i64 (j)) = Y0 := ⟨_, rfl⟩
      have RY0 := Base.hide (show RDr w Y0 B p a len cap _ from hY0 ▸ RX.out.set hB 0 (j) (by omega))
      obtain ⟨uY0, eY0⟩ : ∃ u, v3.cell? ⟨w.heap.size, 0, none⟩ = some u := ⟨_, RX.out.c 0 (by omega)⟩
      have gY0 : v3.frozen? ⟨w.heap.size, 0, none⟩ = false := RX.out.fz 0
      obtain ⟨Y1, hY1⟩ : ∃ Y1, Y0.setCell ⟨w.heap.size, 1, none⟩ (.int .i64 (z)) = Y1 := ⟨_, rfl⟩
      have RY1 := Base.hide (show RDr w Y1 B p a len cap _ from hY1 ▸ RY0.out.set hB 1 (z) (by omega))
      obtain ⟨uY1, eY1⟩ : ∃ u, Y0.cell? ⟨w.heap.size, 1, none⟩ = some u := ⟨_, RY0.out.c 1 (by omega)⟩
      have gY1 : Y0.frozen? ⟨w.heap.size, 1, none⟩ = false := RY0.out.fz 1
      obtain ⟨Y2, hY2⟩ : ∃ Y2, Y1.setCell ⟨w.heap.size, 2, none⟩ (.int .i64 (y)) = Y2 := ⟨_, rfl⟩
      have RY2 := Base.hide (show RDr w Y2 B p a len cap _ from hY2 ▸ RY1.out.set hB 2 (y) (by omega))
      obtain ⟨uY2, eY2⟩ : ∃ u, Y1.cell? ⟨w.heap.size, 2, none⟩ = some u := ⟨_, RY1.out.c 2 (by omega)⟩
      have gY2 : Y1.frozen? ⟨w.heap.size, 2, none⟩ = false := RY1.out.fz 2
      obtain ⟨Y3, hY3⟩ : ∃ Y3, Y2.setCell ⟨w.heap.size, 3, none⟩ (.int .i64 (k)) = Y3 := ⟨_, rfl⟩
      have RY3 := Base.hide (show RDr w Y3 B p a len cap _ from hY3 ▸ RY2.out.set hB 3 (k) (by omega))
      obtain ⟨uY3, eY3⟩ : ∃ u, Y2.cell? ⟨w.heap.size, 3, none⟩ = some u := ⟨_, RY2.out.c 3 (by omega)⟩
      have gY3 : Y2.frozen? ⟨w.heap.size, 3, none⟩ = false := RY2.out.fz 3
      have r0 : Y3.cell? ⟨w.heap.size, 0, none⟩ = some (.int .i64 (j)) := RY3.out.c 0 (by omega)
      have r1 : Y3.cell? ⟨w.heap.size, 1, none⟩ = some (.int .i64 (z)) := RY3.out.c 1 (by omega)
      have r2 : Y3.cell? ⟨w.heap.size, 2, none⟩ = some (.int .i64 (y)) := RY3.out.c 2 (by omega)
      have r3 : Y3.cell? ⟨w.heap.size, 3, none⟩ = some (.int .i64 (k)) := RY3.out.c 3 (by omega)
      go_wp2_with fail
      exact bodyPost_ret (v := .agg #[.int .i64 (j), .int .i64 (z), .int .i64 (y), .int .i64 (k)]) (by simp [results, Try.results39, go_sem, r0, r1, r2, r3]) rfl ⟨_, _, _, _, rfl, ⟨j0, j1⟩, ⟨by omega, by omega⟩, ⟨by omega, by omega⟩, ⟨k0, k1⟩, RY3.out.cur, RY3.out.gr⟩
end Vo
end Go.Proofs.Ytflbhlepmjiejaa
