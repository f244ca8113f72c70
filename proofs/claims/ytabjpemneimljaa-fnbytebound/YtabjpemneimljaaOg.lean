/- Scales and reals that a law draws (written by tools/genog.py). -/
import Derived.Test.YtabjpemneimljaaOf
import Derived.Test.YtabjpemneimljaaNef
import Derived.Test.YtabjpemneimljaaVc
import Derived.Deep.RegionHeld3
namespace Go.Proofs.Ytabjpemneimljaa
namespace Vo
open Go.ChangeShapes Go.WideShapes Go.ChangeAt Go.RowKit Go.Joins Go.Sort
open Vl
set_option linter.unusedVariables false
set_option linter.unusedSimpArgs false
theorem wid' {x : Int} (h : -9223372036854775808 ≤ x ∧ x ≤ 9223372036854775807) : IntKind.i64.wrap x = x := by rw [IntKind.wrap_i64]; omega
def upJ (f : Nat → Int) (k : Nat) (x : Int) (i : Nat) : Int := if i = k then x else f i
/-- a schedule that is being drawn: its variable V, the answer's variable, the cursor p -/
structure SDn (n : Nat) (w X : World) (B p : Nat) (a : Option Addr) (len cap V : Nat) (f : Nat → Int) : Prop where
  cur : Base.Cur B X p a len cap
  gr : w.grownBy X (some p)
  c : ∀ i, i < n → X.cell? ⟨V, i, none⟩ = some (.int .i64 (f i))
  fz : ∀ i, X.frozen? ⟨V, i, none⟩ = false
  r : ∀ i, i < n → X.cell? ⟨w.heap.size, i, none⟩ = some (.int .i64 0)
  rf : ∀ i, X.frozen? ⟨w.heap.size, i, none⟩ = false
  pw : p < w.heap.size
  wV : w.heap.size < V
  VX : V < X.heap.size
theorem cur_far {B p : Nat} {a : Option Addr} {len cap : Nat} {w : World} (h : Base.Cur B w p a len cap) (q i : Nat) (v : Value) (hq : ¬ p = q) (hB : B ≤ q) : Base.Cur B (w.setCell ⟨q, i, none⟩ v) p a len cap := by
  obtain ⟨hp, hcode, c0, ⟨k, g, c1, c2, z⟩, f1, f2⟩ := h
  have o : ∀ j, (w.setCell ⟨q, i, none⟩ v).cell? ⟨p, j, none⟩ = w.cell? ⟨p, j, none⟩ := fun j => World.cell?_setCell_other _ _ _ _ (by intro e; cases e; exact hq rfl)
  exact ⟨hp, hcode.below ((Below.refl _ _).setCell hB _), (o 0).trans c0, ⟨k, g, (o 1).trans c1, (o 2).trans c2, z⟩, by rw [World.frozen?_setCell]; exact f1, by rw [World.frozen?_setCell]; exact f2⟩
theorem grown_put {w X : World} {p q i : Nat} {v : Value} (h : w.grownBy X (some p)) (hq : w.heap.size ≤ q) : w.grownBy (X.setCell ⟨q, i, none⟩ v) (some p) := by
  have k : Kept (· = q) X (X.setCell ⟨q, i, none⟩ v) := Kept.setCell X ⟨q, i, none⟩ v
  exact ⟨k.os.trans h.os, k.tape.trans h.tape, k.output.trans h.output, Nat.le_trans h.size k.size, fun j hj hn => (k.block j (Nat.lt_of_lt_of_le hj h.size) (by omega)).trans (h.block j hj hn)⟩
section
variable {n : Nat} {w X X' : World} {B p : Nat} {a : Option Addr} {len cap V : Nat} {f : Nat → Int}
theorem grown_still {q i : Nat} (g : X.grownBy X' (some p)) (hq : q < X.heap.size) (hn : ¬ q = p) : X'.cell? ⟨q, i, none⟩ = X.cell? ⟨q, i, none⟩ ∧ X'.frozen? ⟨q, i, none⟩ = X.frozen? ⟨q, i, none⟩ :=
  ⟨World.cell?_of_block (w := X) (a := ⟨q, i, none⟩) (g.block q hq (by intro e; injection e with e; exact hn e)), World.frozen?_of_block (w := X) (a := ⟨q, i, none⟩) (g.block q hq (by intro e; injection e with e; exact hn e))⟩
theorem SDn.draw (h : SDn n w X B p a len cap V f) (g : X.grownBy X' (some p)) (d : Base.Cur B X' p a len cap) : SDn n w X' B p a len cap V f where
  cur := d
  gr := h.gr.trans g
  c i hi := by have := h.pw; have := h.wV; rw [(grown_still g h.VX (by omega)).1]; exact h.c i hi
  fz i := by have := h.pw; have := h.wV; rw [(grown_still g h.VX (by omega)).2]; exact h.fz i
  r i hi := by have := h.pw; have := h.wV; have := h.VX; rw [(grown_still g (by omega) (by omega)).1]; exact h.r i hi
  rf i := by have := h.pw; have := h.wV; have := h.VX; rw [(grown_still g (by omega) (by omega)).2]; exact h.rf i
  pw := h.pw
  wV := h.wV
  VX := Nat.lt_of_lt_of_le h.VX g.size
theorem SDn.set (h : SDn n w X B p a len cap V f) (hB : B ≤ w.heap.size) (k : Nat) (x : Int) (hk : k < n) : SDn n w (X.setCell ⟨V, k, none⟩ (.int .i64 x)) B p a len cap V (upJ f k x) where
  cur := cur_far h.cur V k _ (by have := h.pw; have := h.wV; omega) (by have := h.wV; omega)
  gr := grown_put h.gr (Nat.le_of_lt h.wV)
  c i hi := by
    unfold upJ
    by_cases c : i = k
    · subst c; rw [if_pos rfl]; exact World.cell?_setCell_same _ _ _ (h.c i hi)
    · rw [if_neg c, World.cell?_setCell_other _ _ _ _ (by intro e; injection e with _ e; exact c e.symm)]; exact h.c i hi
  fz i := by rw [World.frozen?_setCell]; exact h.fz i
  r i hi := by rw [World.cell?_setCell_other _ _ _ _ (by intro e; injection e with e; have := h.wV; omega)]; exact h.r i hi
  rf i := by rw [World.frozen?_setCell]; exact h.rf i
  pw := h.pw
  wV := h.wV
  VX := by simpa [World.setCell] using h.VX
theorem SDn.alloc (h : SDn n w X B p a len cap V f) (o : Obj) : SDn n w (X.alloc o) B p a len cap V f :=
  h.draw (Lib.grownBy_allocR (Base.grown_refl X p) o) (h.cur.alloc o)
end
/-- the answer's variable under way -/
structure RDn (n : Nat) (w X : World) (B p : Nat) (a : Option Addr) (len cap : Nat) (f : Nat → Int) : Prop where
  cur : Base.Cur B X p a len cap
  gr : w.grownBy X (some p)
  c : ∀ i, i < n → X.cell? ⟨w.heap.size, i, none⟩ = some (.int .i64 (f i))
  fz : ∀ i, X.frozen? ⟨w.heap.size, i, none⟩ = false
  pw : p < w.heap.size
theorem RDn.set {n : Nat} {w X : World} {B p : Nat} {a : Option Addr} {len cap : Nat} {f : Nat → Int} (h : RDn n w X B p a len cap f) (hB : B ≤ w.heap.size) (k : Nat) (x : Int) (hk : k < n) : RDn n w (X.setCell ⟨w.heap.size, k, none⟩ (.int .i64 x)) B p a len cap (upJ f k x) where
  cur := cur_far h.cur _ k _ (by have := h.pw; omega) hB
  gr := grown_put h.gr (Nat.le_refl _)
  c i hi := by
    unfold upJ
    by_cases c : i = k
    · subst c; rw [if_pos rfl]; exact World.cell?_setCell_same _ _ _ (h.c i hi)
    · rw [if_neg c, World.cell?_setCell_other _ _ _ _ (by intro e; injection e with _ e; exact c e.symm)]; exact h.c i hi
  fz i := by rw [World.frozen?_setCell]; exact h.fz i
  pw := h.pw
theorem cur_kept2 {B p : Nat} {a : Option Addr} {len cap : Nat} {X Y : World} {T : Nat → Prop} (h : Base.Cur B X p a len cap) (k : Kept T X Y) (hp : ¬ T p) (hT : ∀ i, T i → B ≤ i) : Base.Cur B Y p a len cap := by
  have hl := h.lt
  obtain ⟨hB, hcode, c0, ⟨i, g, c1, c2, z⟩, f1, f2⟩ := h
  have o : ∀ j, Y.cell? ⟨p, j, none⟩ = X.cell? ⟨p, j, none⟩ := fun j => World.cell?_of_block (w := X) (a := ⟨p, j, none⟩) (k.block p hl hp)
  have q : ∀ j, Y.frozen? ⟨p, j, none⟩ = X.frozen? ⟨p, j, none⟩ := fun j => World.frozen?_of_block (w := X) (a := ⟨p, j, none⟩) (k.block p hl hp)
  exact ⟨hB, hcode.below (k.below (by omega) hT), (o 0).trans c0, ⟨i, g, (o 1).trans c1, (o 2).trans c2, z⟩, (q 1).trans f1, (q 2).trans f2⟩
theorem grown_kept2 {w X Y : World} {p : Nat} {T : Nat → Prop} (h : w.grownBy X (some p)) (k : Kept T X Y) (hT : ∀ i, T i → w.heap.size ≤ i) : w.grownBy Y (some p) :=
  ⟨k.os.trans h.os, k.tape.trans h.tape, k.output.trans h.output, Nat.le_trans h.size k.size, fun j hj hn => (k.block j (Nat.lt_of_lt_of_le hj h.size) (fun e => by have := hT j e; omega)).trans (h.block j hj hn)⟩
theorem keptP2 {w w' : World} {p : Nat} (h : w.grownBy w' (some p)) : Kept (· = p) w w' := ⟨h.os, h.tape, h.output, h.size, fun k hk hn => h.block k hk (fun e => hn (Option.some.inj e))⟩
theorem keptO2 {w w' : World} {o : Option Nat} (h : w.grownBy w' o) : Kept (fun k => o = some k) w w' := ⟨h.os, h.tape, h.output, h.size, fun k hk hn => h.block k hk (fun e => hn e.symm)⟩
theorem row_kept2 {T : Nat → Prop} {B : Nat} {w w' : World} {v : Value} {r : Nat} {D : Nat → Int} (h : RowV B w v r D) (hk : Kept T w w') (hn : ∀ k, v.ownBlock = some k → ¬ T k) : RowV B w' v r D := by
  obtain ⟨⟨h1, h2⟩, hb⟩ := h
  refine ⟨⟨h1, ?_⟩, hb⟩
  rcases h2 with h2 | ⟨g, cap, cur, e, hg, hh, rest⟩
  · exact .inl h2
  · refine .inr ⟨g, cap, cur, e, hg, ?_, rest⟩
    rw [hk.block g (Array.getElem?_eq_some_iff.1 hh).1 (hn g (by rw [e]; rfl))]; exact hh
theorem ints_upJ (k : Nat) (D : Nat → Int) (x : Int) : ints k D ++ [.int .i64 x] = ints (k + 1) (upJ D k x) := by
  rw [← ints_succ]
  have e : ints k D = ints k (upJ D k x) := by
    unfold ints
    refine List.map_congr_left fun t ht => ?_
    rw [List.mem_range] at ht
    unfold upJ; rw [if_neg (by omega)]
  rw [e]
  unfold upJ
  rw [if_pos rfl]
theorem bd_upJ {k : Nat} {D : Nat → Int} {x : Int} (h : ∀ j, j < k → bd (D j)) (hx : bd x) : ∀ j, j < k + 1 → bd (upJ D k x j) := fun j hj => by
  unfold upJ
  split
  · exact hx
  · exact h j (by omega)
/-- a list that is being drawn -/
structure RLr (w X : World) (B p : Nat) (a : Option Addr) (len cap : Nat) (o : Value) (k : Nat) (D : Nat → Int) : Prop where
  cur : Base.Cur B X p a len cap
  gr : w.grownBy X (some p)
  row : RowV w.heap.size X o k D
section
variable {w X X' : World} {B p : Nat} {a : Option Addr} {len cap k : Nat} {o : Value} {D : Nat → Int}
theorem RLr.draw (h : RLr w X B p a len cap o k D) (pw : p < w.heap.size) (g : X.grownBy X' (some p)) (d : Base.Cur B X' p a len cap) : RLr w X' B p a len cap o k D :=
  ⟨d, h.gr.trans g, row_kept2 h.row (keptP2 g) (fun i hi e => by have := (h.row.1.lt i hi).1; have e : i = p := e; omega)⟩
theorem RLr.alloc (h : RLr w X B p a len cap o k D) (pw : p < w.heap.size) (q : Obj) : RLr w (X.alloc q) B p a len cap o k D :=
  h.draw pw (Lib.grownBy_allocR (Base.grown_refl X p) q) (h.cur.alloc q)
theorem RLr.push {o' : Value} {x : Int} {q : Obj} (h : RLr w X B p a len cap o k D) (pw : p < w.heap.size) (hB : B ≤ w.heap.size) (hx : bd x) (hown : X'.ownsRow w.heap.size 3 1 o' (k + 1) (ints k D ++ [.int .i64 x])) (hg : (X.alloc q).grownBy X' o.ownBlock) : RLr w X' B p a len cap o' (k + 1) (upJ D k x) := by
  have h1 := h.alloc pw q
  have kk := keptO2 hg
  have lo : ∀ i, o.ownBlock = some i → w.heap.size ≤ i := fun i hi => (h.row.1.lt i hi).1
  exact ⟨cur_kept2 h1.cur kk (fun e => by have := lo p e; omega) (fun i e => Nat.le_trans hB (lo i e)), grown_kept2 h1.gr kk lo, ⟨by rw [← ints_upJ]; exact hown, bd_upJ h.row.2 hx⟩⟩
end
set_option maxHeartbeats 2000000 in
theorem drawReal (B p : Nat) (a : Option Addr) (len cap : Nat) (w : World) (hc : Base.Cur B w p a len cap) (hB : B ≤ w.heap.size) :
    Calls Try.prog 28 #[.pointer (some ⟨p, 0, none⟩)] w fun e w' => Base.Drawn B p a len cap (-1099511627777) 1099511627777 w e w' := by
  have D0 := Base.hide hc
  clear hc
  go_enter Try.func28, Try.ntmps28
  go_wp2_with fail
  refine (Base.l1Below B p a len cap 6 _ D0.out (by decide) (by decide)).mono ?_; rintro e w1 ⟨k, k0, k1, rfl, d1, g1⟩
  have D1 := Base.hide d1
  have G1 := Base.hide g1
  clear d1 g1 D0
  by_cases c0 : k = 0
  · subst c0
    have hl := Base.laid_ints w1 [0, 1099511627776, -1099511627776, 1099511627777, 65536, -65536, 1, -1] 3 (-1099511627777) 1099511627777 (by intro q hq; simp at hq; omega)
    have vp := D1.out.lt
    have DC := Base.hide (D1.out.alloc (.cells (([0, 1099511627776, -1099511627776, 1099511627777, 65536, -65536, 1, -1] : List Int).map (Value.int .i64)).toArray 3))
    replace G1 := Base.hide (Lib.grownBy_allocR G1.out (.cells (([0, 1099511627776, -1099511627776, 1099511627777, 65536, -65536, 1, -1] : List Int).map (Value.int .i64)).toArray 3))
    clear D1
    go_wp2_with fail
    refine (Base.l1PickInt B p a len cap w1.heap.size 8 (-1099511627777) 1099511627777 _ DC.out (by omega) (by omega) (by omega) hl).mono ?_; rintro e w2 ⟨y, y0, y1, rfl, d2, g2⟩
    go_wp2_with fail
    go_ret
    exact ⟨y, y0, y1, rfl, d2, G1.out.trans g2⟩
  have c0' : (k == 0) = false := by simp [c0]
  by_cases c1 : k = 1
  · subst c1
    go_wp2_with fail
    refine (Base.l1Below B p a len cap 1073741824 _ D1.out (by decide) (by decide)).mono ?_; rintro e w2 ⟨y, y0, y1, rfl, d2, g2⟩
    have wy : IntKind.i64.wrap (y - 536870912) = y - 536870912 := wid' (by omega)
    go_wp2_with fail
    go_ret
    exact ⟨y - 536870912, by omega, by omega, by first | rfl | exact Nea.ret_int wy, d2, G1.out.trans g2⟩
  have c1' : (k == 1) = false := by simp [c1]
  go_wp2_with fail
  refine (Base.l1Below B p a len cap 200000 _ D1.out (by decide) (by decide)).mono ?_; rintro e w2 ⟨y, y0, y1, rfl, d2, g2⟩
  have wy : IntKind.i64.wrap (y - 100000) = y - 100000 := wid' (by omega)
  go_wp2_with fail
  go_ret
  exact ⟨y - 100000, by omega, by omega, by first | rfl | exact Nea.ret_int wy, d2, G1.out.trans g2⟩
/-- a scale was drawn -/
def SCE (w : World) (B p : Nat) (a : Option Addr) (len cap : Nat) (e : Ending) (w' : World) : Prop :=
  ∃ x0 x1 : Int, e = .returned (.agg #[.int .i64 x0, .int .i64 x1]) ∧ bd x0 ∧ bd x1 ∧ Base.Cur B w' p a len cap ∧ w.grownBy w' (some p)
set_option maxHeartbeats 2000000 in
theorem drawScale (B p : Nat) (a : Option Addr) (len cap : Nat) (w : World) (hc : Base.Cur B w p a len cap) (hB : B ≤ w.heap.size) :
    Calls Try.prog 27 #[.pointer (some ⟨p, 0, none⟩)] w (SCE w B p a len cap) := by
  obtain ⟨W0, hW0⟩ : ∃ W0, w.alloc (.cells #[.int .i64 0, .int .i64 0] 25) = W0 := ⟨_, rfl⟩
  have pw := hc.lt
  have D0 := Base.hide (hW0 ▸ hc.alloc _ : Base.Cur B W0 p a len cap)
  have G0 := Base.hide (hW0 ▸ Lib.grownBy_allocR (Base.grown_refl w p) _ : w.grownBy W0 (some p))
  have R0 := Base.hide (show (∀ i, i < 2 → W0.cell? ⟨w.heap.size, i, none⟩ = some (.int .i64 0)) ∧ (∀ i, W0.frozen? ⟨w.heap.size, i, none⟩ = false) from hW0 ▸ ⟨fun i hi => by rcases (by omega : i = 0 ∨ i = 1) with rfl | rfl <;> simp [go_sem], fun i => by simp [go_sem]⟩)
  have z0 : W0.heap.size = w.heap.size + 1 := by rw [← hW0]; simp
  have Z0 := Base.hide z0
  have PW := Base.hide pw
  clear hc z0 pw
  go_enter Try.func27, Try.ntmps27
  go_wp2_with fail
  refine (Base.l1Below B p a len cap 3000 _ D0.out (by decide) (by decide)).mono ?_; rintro e w1 ⟨x, x0, x1, rfl, d1, g1⟩
  have D1 := Base.hide d1
  clear d1 hW0
  obtain ⟨X, hX⟩ : ∃ X, 1 + x = X := ⟨_, rfl⟩
  have wx : IntKind.i64.wrap (1 + x) = X := by rw [wid' (by omega)]; exact hX
  go_wp2_with fail
  refine (Base.l1Below B p a len cap 256 _ D1.out (by decide) (by decide)).mono ?_; rintro e w2 ⟨y, y0, y1, rfl, d2, g2⟩
  have bX := Base.hide (show bd X ∧ bd y from ⟨⟨by omega, by omega⟩, by omega, by omega⟩)
  clear hX wx
  obtain ⟨W3, hW3⟩ : ∃ W3, w2.alloc (.cells #[.int .i64 X, .int .i64 y] 25) = W3 := ⟨_, rfl⟩
  have g3 : W0.grownBy W3 (some p) := hW3 ▸ Lib.grownBy_allocR (g1.trans g2) _
  have H3 := Base.hide (show SDn 2 w W3 B p a len cap w2.heap.size (fun i => if i = 0 then X else y) from
    { cur := hW3 ▸ d2.alloc _
      gr := G0.out.trans g3
      c := fun i hi => by rcases (by omega : i = 0 ∨ i = 1) with rfl | rfl <;> (rw [← hW3]; simp [go_sem])
      fz := fun i => by rw [← hW3]; simp [go_sem]
      r := fun i hi => by have := Z0.out; have := PW.out; rw [(grown_still g3 (by omega) (by omega)).1]; exact R0.out.1 i hi
      rf := fun i => by have := Z0.out; have := PW.out; rw [(grown_still g3 (by omega) (by omega)).2]; exact R0.out.2 i
      pw := PW.out
      wV := by have := Z0.out; have := g1.size; have := g2.size; omega
      VX := by rw [← hW3]; simp })
  clear d2 g1 g2 g3 D0 D1 G0 R0 Z0 x0 x1 y0 y1
  go_wp2_with fail
  obtain ⟨V, hV⟩ : ∃ V, w2.heap.size = V := ⟨_, rfl⟩
  rw [hV] at H3 ⊢
  clear hV hW3
  refine (Nef.l1Once B p a len cap 6 _ H3.out.cur (by decide) (by decide)).mono ?_; rintro e w4 ⟨b, rfl, d4, g4⟩
  have H4 := Base.hide (H3.out.draw g4 d4)
  clear d4 g4 H3
  cases b
  · go_wp2_with fail
    refine (Nef.l1Once B p a len cap 30 _ H4.out.cur (by decide) (by decide)).mono ?_; rintro e v1 ⟨bb, rfl, dv, gv⟩
    have HA := Base.hide (H4.out.draw gv dv)
    clear dv gv
    cases bb
    · have RX := Base.hide (show RDn 2 w v1 B p a len cap (fun _ => 0) from ⟨HA.out.cur, HA.out.gr, HA.out.r, HA.out.rf, HA.out.pw⟩)
      have o0 : v1.cell? ⟨V, 0, none⟩ = some (.int .i64 X) := HA.out.c 0 (by omega)
      have o1 : v1.cell? ⟨V, 1, none⟩ = some (.int .i64 y) := HA.out.c 1 (by omega)
      obtain ⟨Y0, hY0⟩ : ∃ Y0, v1.setCell ⟨w.heap.size, 0, none⟩ (.int .i64 X) = Y0 := ⟨_, rfl⟩
      have RY0 := Base.hide (show RDn 2 w Y0 B p a len cap _ from hY0 ▸ RX.out.set hB 0 X (by omega))
      obtain ⟨uY0, eY0⟩ : ∃ u, v1.cell? ⟨w.heap.size, 0, none⟩ = some u := ⟨_, RX.out.c 0 (by omega)⟩
      have gY0 : v1.frozen? ⟨w.heap.size, 0, none⟩ = false := RX.out.fz 0
      obtain ⟨Y1, hY1⟩ : ∃ Y1, Y0.setCell ⟨w.heap.size, 1, none⟩ (.int .i64 y) = Y1 := ⟨_, rfl⟩
      have RY1 := Base.hide (show RDn 2 w Y1 B p a len cap _ from hY1 ▸ RY0.out.set hB 1 y (by omega))
      obtain ⟨uY1, eY1⟩ : ∃ u, Y0.cell? ⟨w.heap.size, 1, none⟩ = some u := ⟨_, RY0.out.c 1 (by omega)⟩
      have gY1 : Y0.frozen? ⟨w.heap.size, 1, none⟩ = false := RY0.out.fz 1
      have r0 : Y1.cell? ⟨w.heap.size, 0, none⟩ = some (.int .i64 X) := RY1.out.c 0 (by omega)
      have r1 : Y1.cell? ⟨w.heap.size, 1, none⟩ = some (.int .i64 y) := RY1.out.c 1 (by omega)
      go_wp2_with fail
      exact bodyPost_ret (v := .agg #[.int .i64 X, .int .i64 y]) (by simp [results, Try.results27, go_sem, r0, r1]) rfl ⟨_, _, rfl, bX.out.1, bX.out.2, RY1.out.cur, RY1.out.gr⟩
    · have hl := Base.laid_ints v1 [-1, 256] 3 (-9223372036854775808) 9223372036854775807 (by intro q hq; simp at hq; omega)
      have HB2 := Base.hide (HA.out.alloc (.cells (([-1, 256] : List Int).map (Value.int .i64)).toArray 3))
      have vp := HA.out.cur.lt
      go_wp2_with fail
      refine (Base.l1PickInt B p a len cap v1.heap.size 2 (-9223372036854775808) 9223372036854775807 _ HB2.out.cur (by omega) (by omega) (by omega) hl).mono ?_; rintro e v2 ⟨k, k0, k1, rfl, dk, gk⟩
      have HC := Base.hide (HB2.out.draw gk dk)
      clear dk gk hl vp
      replace bX := Base.hide (show bd X ∧ bd k from ⟨bX.out.1, k0, k1⟩)
      obtain ⟨v3, hv3⟩ : ∃ v3, v2.setCell ⟨V, 1, none⟩ (.int .i64 k) = v3 := ⟨_, rfl⟩
      have HD := Base.hide (hv3 ▸ HC.out.set hB 1 k (by omega) : SDn 2 w v3 B p a len cap V _)
      obtain ⟨uv, ev⟩ : ∃ u, v2.cell? ⟨V, 1, none⟩ = some u := ⟨_, HC.out.c 1 (by omega)⟩
      have gv3 : v2.frozen? ⟨V, 1, none⟩ = false := HC.out.fz 1
      have RX := Base.hide (show RDn 2 w v3 B p a len cap (fun _ => 0) from ⟨HD.out.cur, HD.out.gr, HD.out.r, HD.out.rf, HD.out.pw⟩)
      have o0 : v3.cell? ⟨V, 0, none⟩ = some (.int .i64 X) := HD.out.c 0 (by omega)
      have o1 : v3.cell? ⟨V, 1, none⟩ = some (.int .i64 k) := HD.out.c 1 (by omega)
      obtain ⟨Y0, hY0⟩ : ∃ Y0, v3.setCell ⟨w.heap.size, 0, none⟩ (.int .i64 X) = Y0 := ⟨_, rfl⟩
      have RY0 := Base.hide (show RDn 2 w Y0 B p a len cap _ from hY0 ▸ RX.out.set hB 0 X (by omega))
      obtain ⟨uY0, eY0⟩ : ∃ u, v3.cell? ⟨w.heap.size, 0, none⟩ = some u := ⟨_, RX.out.c 0 (by omega)⟩
      have gY0 : v3.frozen? ⟨w.heap.size, 0, none⟩ = false := RX.out.fz 0
      obtain ⟨Y1, hY1⟩ : ∃ Y1, Y0.setCell ⟨w.heap.size, 1, none⟩ (.int .i64 k) = Y1 := ⟨_, rfl⟩
      have RY1 := Base.hide (show RDn 2 w Y1 B p a len cap _ from hY1 ▸ RY0.out.set hB 1 k (by omega))
      obtain ⟨uY1, eY1⟩ : ∃ u, Y0.cell? ⟨w.heap.size, 1, none⟩ = some u := ⟨_, RY0.out.c 1 (by omega)⟩
      have gY1 : Y0.frozen? ⟨w.heap.size, 1, none⟩ = false := RY0.out.fz 1
      have r0 : Y1.cell? ⟨w.heap.size, 0, none⟩ = some (.int .i64 X) := RY1.out.c 0 (by omega)
      have r1 : Y1.cell? ⟨w.heap.size, 1, none⟩ = some (.int .i64 k) := RY1.out.c 1 (by omega)
      go_wp2_with fail
      exact bodyPost_ret (v := .agg #[.int .i64 X, .int .i64 k]) (by simp [results, Try.results27, go_sem, r0, r1]) rfl ⟨_, _, rfl, bX.out.1, bX.out.2, RY1.out.cur, RY1.out.gr⟩
  · have hl := Base.laid_ints w4 [1, 2, 16777216, 16777217, 1099511627776, 1099511627777, 0] 3 (-9223372036854775808) 9223372036854775807 (by intro q hq; simp at hq; omega)
    have HB1 := Base.hide (H4.out.alloc (.cells (([1, 2, 16777216, 16777217, 1099511627776, 1099511627777, 0] : List Int).map (Value.int .i64)).toArray 3))
    have vp := H4.out.cur.lt
    go_wp2_with fail
    refine (Base.l1PickInt B p a len cap w4.heap.size 7 (-9223372036854775808) 9223372036854775807 _ HB1.out.cur (by omega) (by omega) (by omega) hl).mono ?_; rintro e w5 ⟨j, j0, j1, rfl, dj, gj⟩
    have HE := Base.hide (HB1.out.draw gj dj)
    clear dj gj hl vp HB1 H4
    replace bX := Base.hide (show bd j ∧ bd y from ⟨⟨j0, j1⟩, bX.out.2⟩)
    obtain ⟨w6, hw6⟩ : ∃ w6, w5.setCell ⟨V, 0, none⟩ (.int .i64 j) = w6 := ⟨_, rfl⟩
    have H6 := Base.hide (hw6 ▸ HE.out.set hB 0 j (by omega) : SDn 2 w w6 B p a len cap V _)
    obtain ⟨uw, ew⟩ : ∃ u, w5.cell? ⟨V, 0, none⟩ = some u := ⟨_, HE.out.c 0 (by omega)⟩
    have gw6 : w5.frozen? ⟨V, 0, none⟩ = false := HE.out.fz 0
    go_wp2_with fail
    refine (Nef.l1Once B p a len cap 30 _ H6.out.cur (by decide) (by decide)).mono ?_; rintro e v1 ⟨bb, rfl, dv, gv⟩
    have HA := Base.hide (H6.out.draw gv dv)
    clear dv gv
    cases bb
    · have RX := Base.hide (show RDn 2 w v1 B p a len cap (fun _ => 0) from ⟨HA.out.cur, HA.out.gr, HA.out.r, HA.out.rf, HA.out.pw⟩)
      have o0 : v1.cell? ⟨V, 0, none⟩ = some (.int .i64 j) := HA.out.c 0 (by omega)
      have o1 : v1.cell? ⟨V, 1, none⟩ = some (.int .i64 y) := HA.out.c 1 (by omega)
      obtain ⟨Y0, hY0⟩ : ∃ Y0, v1.setCell ⟨w.heap.size, 0, none⟩ (.int .i64 j) = Y0 := ⟨_, rfl⟩
      have RY0 := Base.hide (show RDn 2 w Y0 B p a len cap _ from hY0 ▸ RX.out.set hB 0 j (by omega))
      obtain ⟨uY0, eY0⟩ : ∃ u, v1.cell? ⟨w.heap.size, 0, none⟩ = some u := ⟨_, RX.out.c 0 (by omega)⟩
      have gY0 : v1.frozen? ⟨w.heap.size, 0, none⟩ = false := RX.out.fz 0
      obtain ⟨Y1, hY1⟩ : ∃ Y1, Y0.setCell ⟨w.heap.size, 1, none⟩ (.int .i64 y) = Y1 := ⟨_, rfl⟩
      have RY1 := Base.hide (show RDn 2 w Y1 B p a len cap _ from hY1 ▸ RY0.out.set hB 1 y (by omega))
      obtain ⟨uY1, eY1⟩ : ∃ u, Y0.cell? ⟨w.heap.size, 1, none⟩ = some u := ⟨_, RY0.out.c 1 (by omega)⟩
      have gY1 : Y0.frozen? ⟨w.heap.size, 1, none⟩ = false := RY0.out.fz 1
      have r0 : Y1.cell? ⟨w.heap.size, 0, none⟩ = some (.int .i64 j) := RY1.out.c 0 (by omega)
      have r1 : Y1.cell? ⟨w.heap.size, 1, none⟩ = some (.int .i64 y) := RY1.out.c 1 (by omega)
      go_wp2_with fail
      exact bodyPost_ret (v := .agg #[.int .i64 j, .int .i64 y]) (by simp [results, Try.results27, go_sem, r0, r1]) rfl ⟨_, _, rfl, bX.out.1, bX.out.2, RY1.out.cur, RY1.out.gr⟩
    · have hl := Base.laid_ints v1 [-1, 256] 3 (-9223372036854775808) 9223372036854775807 (by intro q hq; simp at hq; omega)
      have HB2 := Base.hide (HA.out.alloc (.cells (([-1, 256] : List Int).map (Value.int .i64)).toArray 3))
      have vp := HA.out.cur.lt
      go_wp2_with fail
      refine (Base.l1PickInt B p a len cap v1.heap.size 2 (-9223372036854775808) 9223372036854775807 _ HB2.out.cur (by omega) (by omega) (by omega) hl).mono ?_; rintro e v2 ⟨k, k0, k1, rfl, dk, gk⟩
      have HC := Base.hide (HB2.out.draw gk dk)
      clear dk gk hl vp
      replace bX := Base.hide (show bd j ∧ bd k from ⟨bX.out.1, k0, k1⟩)
      obtain ⟨v3, hv3⟩ : ∃ v3, v2.setCell ⟨V, 1, none⟩ (.int .i64 k) = v3 := ⟨_, rfl⟩
      have HD := Base.hide (hv3 ▸ HC.out.set hB 1 k (by omega) : SDn 2 w v3 B p a len cap V _)
      obtain ⟨uv, ev⟩ : ∃ u, v2.cell? ⟨V, 1, none⟩ = some u := ⟨_, HC.out.c 1 (by omega)⟩
      have gv3 : v2.frozen? ⟨V, 1, none⟩ = false := HC.out.fz 1
      have RX := Base.hide (show RDn 2 w v3 B p a len cap (fun _ => 0) from ⟨HD.out.cur, HD.out.gr, HD.out.r, HD.out.rf, HD.out.pw⟩)
      have o0 : v3.cell? ⟨V, 0, none⟩ = some (.int .i64 j) := HD.out.c 0 (by omega)
      have o1 : v3.cell? ⟨V, 1, none⟩ = some (.int .i64 k) := HD.out.c 1 (by omega)
      obtain ⟨Y0, hY0⟩ : ∃ Y0, v3.setCell ⟨w.heap.size, 0, none⟩ (.int .i64 j) = Y0 := ⟨_, rfl⟩
      have RY0 := Base.hide (show RDn 2 w Y0 B p a len cap _ from hY0 ▸ RX.out.set hB 0 j (by omega))
      obtain ⟨uY0, eY0⟩ : ∃ u, v3.cell? ⟨w.heap.size, 0, none⟩ = some u := ⟨_, RX.out.c 0 (by omega)⟩
      have gY0 : v3.frozen? ⟨w.heap.size, 0, none⟩ = false := RX.out.fz 0
      obtain ⟨Y1, hY1⟩ : ∃ Y1, Y0.setCell ⟨w.heap.size, 1, none⟩ (.int .i64 k) = Y1 := ⟨_, rfl⟩
      have RY1 := Base.hide (show RDn 2 w Y1 B p a len cap _ from hY1 ▸ RY0.out.set hB 1 k (by omega))
      obtain ⟨uY1, eY1⟩ : ∃ u, Y0.cell? ⟨w.heap.size, 1, none⟩ = some u := ⟨_, RY0.out.c 1 (by omega)⟩
      have gY1 : Y0.frozen? ⟨w.heap.size, 1, none⟩ = false := RY0.out.fz 1
      have r0 : Y1.cell? ⟨w.heap.size, 0, none⟩ = some (.int .i64 j) := RY1.out.c 0 (by omega)
      have r1 : Y1.cell? ⟨w.heap.size, 1, none⟩ = some (.int .i64 k) := RY1.out.c 1 (by omega)
      go_wp2_with fail
      exact bodyPost_ret (v := .agg #[.int .i64 j, .int .i64 k]) (by simp [results, Try.results27, go_sem, r0, r1]) rfl ⟨_, _, rfl, bX.out.1, bX.out.2, RY1.out.cur, RY1.out.gr⟩
/-- a list of reals was drawn -/
def RLE (w : World) (B p : Nat) (a : Option Addr) (len cap N : Nat) (e : Ending) (w' : World) : Prop :=
  ∃ (b : Option Addr) (k c : Nat) (D : Nat → Int), e = .returned (.slice b k c) ∧ k ≤ N ∧ OwnL w.heap.size w' b k D ∧ Base.Cur B w' p a len cap ∧ w.grownBy w' (some p)
theorem grown_of_below {X Y : World} (b : Below X.heap.size X Y) (o : Option Nat) : X.grownBy Y o := ⟨b.os, b.tape, b.output, b.size, fun j hj _ => b.block j hj⟩
theorem cur_below {B p : Nat} {a : Option Addr} {len cap : Nat} {X Y : World} (h : Base.Cur B X p a len cap) (b : Below X.heap.size X Y) : Base.Cur B Y p a len cap :=
  cur_kept2 (T := fun _ => False) h ⟨b.os, b.tape, b.output, b.size, fun j hj _ => b.block j hj⟩ id (fun _ q => q.elim)
set_option maxHeartbeats 2000000 in
theorem drawReals (B p : Nat) (a : Option Addr) (len cap N : Nat) (w : World) (hc : Base.Cur B w p a len cap) (hB : B ≤ w.heap.size) (hN : (N : Int) ≤ 4096) :
    Calls Try.prog 34 #[.pointer (some ⟨p, 0, none⟩), .int .i64 (N : Int)] w (RLE w B p a len cap N) := by
  obtain ⟨i0, hi0, hz0, hz1, hz2⟩ := info_parts infoInt
  have PW := Base.hide hc.lt
  have H0 := Base.hide (show RLr w (w.alloc (.cells #[] 3)) B p a len cap (.slice (some ⟨w.heap.size, 0, none⟩) 0 0) 0 (fun _ => 0) from
    ⟨hc.alloc _, Lib.grownBy_allocR (Base.grown_refl w p) _, ⟨⟨rfl, .inr ⟨w.heap.size, 0, #[], rfl, Nat.le_refl _, heap_alloc_new w _, Nat.le_refl _, by simp [maxLen], rfl, rfl⟩⟩, fun j hj => by omega⟩⟩)
  clear hc
  go_enter Try.func34, Try.ntmps34
  go_wp2_with fail
  go_loopw [1, 5] (fun n o wx => ∃ (m k : Nat) (D : Nat → Int), k + m = N ∧ n = .int .i64 (m : Int) ∧ RLr w wx B p a len cap o k D) (fun n _ _ => (intOf n).toNat)
  case atStart => exact ⟨N, 0, _, by omega, rfl, H0.out⟩
  case round =>
    obtain ⟨m, k, D, hmk, rfl, hG⟩ := hrel
    have HG := Base.hide hG
    clear hG H0
    by_cases hm : 0 < (m : Int)
    · have kI : (k : Int) ≤ 4096 := by omega
      have mN : 0 < m := by omega
      have PUSH : ∀ (Y : World) (x : Int), bd x → RLr w Y B p a len cap u5 k D → ∀ v' Y', Y'.ownsRow w.heap.size 3 1 v' (k + 1) (ints k D ++ [.int .i64 x]) → (Y.alloc (.cells #[.int .i64 x] 3)).grownBy Y' u5.ownBlock → RLr w Y' B p a len cap v' (k + 1) (upJ D k x) := fun Y x hx h v' Y' h1 h2 => h.push PW.out hB hx h1 h2
      have PU := Base.hide PUSH
      clear PUSH
      go_wp2_with fail
      refine (drawReal B p a len cap _ HG.out.cur (Nat.le_trans hB HG.out.gr.size)).mono ?_; rintro e w1 ⟨x, x0, x1, rfl, d1, g1⟩
      have H1 := Base.hide (HG.out.draw PW.out g1 d1)
      clear d1 g1 HG
      have END : Hid (∀ (Y : World) (x : Int), bd x → True) := Base.hide (fun _ _ _ => trivial)
      have CR := Base.hide (fun b (hb : decide (-1099511627776 ≤ x ∧ x ≤ 1099511627776) = b) w => gRealS x b hb w)
      cases gx : decide (-1099511627776 ≤ x ∧ x ≤ 1099511627776)
      · go_wp2_with fail
        refine (CR.out _ gx _).mono ?_; rintro e w2 ⟨rfl, b2⟩
        have H2 := Base.hide (show RLr w w2 B p a len cap u5 k D from H1.out.draw PW.out (grown_of_below b2 _) (cur_below H1.out.cur b2))
        clear b2 gx CR H1
        go_wp2_with fail
        refine (Nef.l1Once B p a len cap 8 _ H2.out.cur (by decide) (by decide)).mono ?_; rintro e w3 ⟨b, rfl, d3, g3⟩
        have H3 := Base.hide (H2.out.draw PW.out g3 d3)
        have sz := H3.out.gr.size
        clear d3 g3 H2
        cases b
        · go_wp2_with (at_builtin; refine wpList_append_own _ rfl _ _ 31 rfl w.heap.size 3 i0 (.int .i64 0) 1 8 Try.underlying31 hi0 hz0 hz1 hz2 rfl (by decide) _ _ _ rfl (H3.out.row.1.alloc _) ⟨w3.heap.size, 0, none⟩ 1 1 [.int .i64 5] rfl rfl (World.news_of_block (cs := #[.int .i64 5]) (t := 3) (fr := (0, 0)) (heap_alloc_new w3 _)) (by simp [Value.oneCell']) (by unfold maxLen; omega) (by omega) (by simp; omega) ?_; intro v' w5 hown1 hgrow1 _)
          go_roundw
          case rel => exact ⟨m - 1, k + 1, _, by omega, by go_num, PU.out w3 5 ⟨by omega, by omega⟩ H3.out v' w5 hown1 hgrow1⟩
          case measure => simp [intOf]; omega
        · go_wp2_with (at_builtin; refine wpList_append_own _ rfl _ _ 31 rfl w.heap.size 3 i0 (.int .i64 0) 1 8 Try.underlying31 hi0 hz0 hz1 hz2 rfl (by decide) _ _ _ rfl (H3.out.row.1.alloc _) ⟨w3.heap.size, 0, none⟩ 1 1 [.int .i64 x] rfl rfl (World.news_of_block (cs := #[.int .i64 x]) (t := 3) (fr := (0, 0)) (heap_alloc_new w3 _)) (by simp [Value.oneCell']) (by unfold maxLen; omega) (by omega) (by simp; omega) ?_; intro v' w5 hown1 hgrow1 _)
          go_roundw
          case rel => exact ⟨m - 1, k + 1, _, by omega, by go_num, PU.out w3 x ⟨by omega, by omega⟩ H3.out v' w5 hown1 hgrow1⟩
          case measure => simp [intOf]; omega
      · go_wp2_with fail
        refine (CR.out _ gx _).mono ?_; rintro e w3 ⟨rfl, b2⟩
        have H3 := Base.hide (show RLr w w3 B p a len cap u5 k D from H1.out.draw PW.out (grown_of_below b2 _) (cur_below H1.out.cur b2))
        have sz := H3.out.gr.size
        clear b2 gx CR H1
        go_wp2_with (at_builtin; refine wpList_append_own _ rfl _ _ 31 rfl w.heap.size 3 i0 (.int .i64 0) 1 8 Try.underlying31 hi0 hz0 hz1 hz2 rfl (by decide) _ _ _ rfl (H3.out.row.1.alloc _) ⟨w3.heap.size, 0, none⟩ 1 1 [.int .i64 x] rfl rfl (World.news_of_block (cs := #[.int .i64 x]) (t := 3) (fr := (0, 0)) (heap_alloc_new w3 _)) (by simp [Value.oneCell']) (by unfold maxLen; omega) (by omega) (by simp; omega) ?_; intro v' w5 hown1 hgrow1 _)
        go_roundw
        case rel => exact ⟨m - 1, k + 1, _, by omega, by go_num, PU.out w3 x ⟨by omega, by omega⟩ H3.out v' w5 hown1 hgrow1⟩
        case measure => simp [intOf]; omega
    · have hm' : decide (0 < (m : Int)) = false := decide_eq_false hm
      have hm'' : decide (0 < m) = false := decide_eq_false (by omega)
      have kN : k ≤ N := by omega
      clear hm
      obtain ⟨b', c', ev, hO⟩ := HG.out.row.own
      have HO := Base.hide hO
      subst ev
      clear hO
      go_wp2_with fail
      go_ret
      exact ⟨b', k, c', D, rfl, kN, HO.out, HG.out.cur, HG.out.gr⟩
end Vo
end Go.Proofs.Ytabjpemneimljaa
