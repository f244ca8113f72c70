/- Decks: an array of 4096 ints handed on whole; shuffles of the program. -/
import Derived.Test.YtcnopdonnjemmabWg
import Derived.Deep.MidRow
import Derived.Deep.WholeRow
import Derived.Laws.ResultCell
import Derived.BigRegion
import Derived.Deep.Cut
import Derived.RegionTactic
import Derived.ChangeAlike
namespace Go.Proofs.Ytcnopdonnjemmab
namespace Wj
open Go.ChangeShapes Go.WideShapes Go.ChangeAt Go.RowKit Go.Joins
open Vl Vo
set_option linter.unusedVariables false
set_option linter.unusedSimpArgs false
/-- a deck's cells -/
def dkl (D : Nat → Int) : List Value := (List.range 4096).map fun i => .int .i64 (D i)
def dka (D : Nat → Int) : Array Value := (dkl D).toArray
theorem dkl_len (D : Nat → Int) : (dkl D).length = 4096 := by unfold dkl; rw [List.length_map, List.length_range]
theorem dka_size (D : Nat → Int) : (dka D).size = 4096 := by unfold dka; rw [List.size_toArray]; exact dkl_len D
theorem dkl_at (D : Nat → Int) {i : Nat} (h : i < 4096) : (dkl D)[i]? = some (.int .i64 (D i)) := by
  unfold dkl; rw [List.getElem?_map, List.getElem?_range h]; rfl
theorem dka_at (D : Nat → Int) {i : Nat} (h : i < 4096) : (dka D)[i]? = some (.int .i64 (D i)) := by
  unfold dka; rw [List.getElem?_toArray]; exact dkl_at D h
theorem dkl_one (D : Nat → Int) : ∀ v ∈ dkl D, v.oneCell' = true := by
  intro v hv
  unfold dkl at hv
  obtain ⟨i, _, rfl⟩ := List.mem_map.1 hv
  rfl
theorem dka_one (D : Nat → Int) : (dka D).all (·.oneCell') = true := all_oneCell_toArray (dkl_one D)
theorem dkl_same {D E : Nat → Int} (h : ∀ i, i < 4096 → D i = E i) : dkl D = dkl E := by
  unfold dkl
  exact List.map_congr_left fun i hi => by rw [h i (List.mem_range.1 hi)]
theorem dka_same {D E : Nat → Int} (h : ∀ i, i < 4096 → D i = E i) : dka D = dka E := by unfold dka; rw [dkl_same h]
theorem rw_deck (w : World) (D : Nat → Int) (ty : TypeId) (hb : ∀ i, i < 4096 → bd (D i)) : Rw (w.alloc (.cells (dka D) ty)) w.heap.size 4096 D := fun t ht => by
  refine ⟨?_, by simp [go_sem], hb t ht⟩
  rw [cell_of_row _ _ t (dka D) ty (0, 0) (heap_alloc_new w _)]
  exact dka_at D ht
theorem range_of {w : World} {g : Nat} {D : Nat → Int} (h : Rw w g 4096 D) : w.rangeAt g 0 (dkl D) := fun j v hv => by
  have hj : j < 4096 := by have := (List.getElem?_eq_some_iff.1 hv).1; rwa [dkl_len] at this
  rw [dkl_at D hj] at hv
  cases hv
  rw [Nat.zero_add]
  exact (h j hj).1
theorem there_of {w : World} {g : Nat} {D : Nat → Int} (h : Rw w g 4096 D) (n : Nat) (hn : n = 4096) : w.there g 0 n := fun j hj => by
  subst hn
  rw [Nat.zero_add]
  exact ⟨by rw [(h j hj).1]; rfl, (h j hj).2.1⟩
theorem rw_store {w : World} {g : Nat} {E : Nat → Int} (h : Rw w g 4096 E) (D : Nat → Int) (hb : ∀ i, i < 4096 → bd (D i)) : Rw (w.setCells g 0 (dkl D)) g 4096 D := fun t ht => by
  refine ⟨?_, by rw [World.frozen?_setCells]; exact (h t ht).2.1, hb t ht⟩
  have := World.rangeAt_setCells_same w g 0 (dkl D) (there_of h _ (dkl_len D)) t _ (dkl_at D ht)
  rwa [Nat.zero_add] at this
theorem kept_setCells (w : World) (g : Nat) : ∀ (vs : List Value) (o : Nat), Kept (· = g) w (w.setCells g o vs) := by
  intro vs
  induction vs generalizing w with
  | nil => intro o; exact Kept.refl _ _
  | cons v vs ih => intro o; exact (Kept.setCell w ⟨g, o, none⟩ v).trans (ih _ (o + 1))
theorem under : Try.prog.underlying 59 = some (.array 4096 3) := by kernel_rfl
theorem sized : (Try.prog.info? 59).map (·.size) = some 4096 := by kernel_rfl
theorem zero4096 : (dka fun _ => 0) = Array.replicate 4096 (.int .i64 0) := by
  apply Array.ext_getElem?
  intro i
  by_cases h : i < 4096
  · rw [dka_at _ h, Array.getElem?_replicate, if_pos h]
  · rw [Array.getElem?_eq_none (by rw [dka_size]; omega), Array.getElem?_eq_none (by rw [Array.size_replicate]; omega)]
theorem zeroed (w : World) : (zeroValue 59).run Try.prog w = .ok (.agg (dka fun _ => 0)) w := by
  rw [zero4096]
  exact (zero_of_info (n := 4096) (by kernel_rfl)).1 w
theorem loads {w : World} {g : Nat} {D : Nat → Int} (h : Rw w g 4096 D) : (Instr.loadAt 59 (.pointer (some ⟨g, 0, none⟩))).run Try.prog w = .ok (.agg (dka D)) w :=
  run_loadAt_mid w g 0 59 (dkl D) _ (range_of h) under rfl (by rw [dkl_len]; exact sized)
theorem loadv {w : World} {g : Nat} {D : Nat → Int} (h : Rw w g 4096 D) : (loadVar 59 ⟨g, 0, none⟩).run Try.prog w = .ok (.agg (dka D)) w :=
  run_loadVar_mid w g 0 59 (dkl D) _ (range_of h) under rfl (by rw [dkl_len]; exact sized)
theorem stores {w : World} {g : Nat} {E : Nat → Int} (h : Rw w g 4096 E) (D : Nat → Int) : (Instr.storeAt 59 (.pointer (some ⟨g, 0, none⟩)) (.agg (dka D))).run Try.prog w = .ok () (w.setCells g 0 (dkl D)) := by
  have := run_storeAt_mid (P := Try.prog) w g 0 59 (dka D) (there_of h _ (dka_size D)) (by rw [dka_size]; exact sized) (dka_one D)
  simpa [dka] using this
set_option maxRecDepth 100000 in
/-- a deck is loaded, then stored elsewhere -/
theorem wp_hand {id : Nat} {o1 o2 : Oper} {a : Act} {w : World} {Q : Exit → Act → World → Prop} {g g' s d x : Nat} {D E : Nat → Int} (q1 : o1.guard = none) (q2 : o2.guard = none) (e1 : o1.op = .load 59 (.tmp s)) (d1 : o1.dst = some x) (d2 : o2.dst = none)
    (e2 : o2.op = .store 59 (.tmp d) (.tmp x)) (h1 : a.eval (.tmp s) = .pointer (some ⟨g, 0, none⟩)) (h2 : ∀ v, (a.put (some x) v).eval (.tmp d) = .pointer (some ⟨g', 0, none⟩)) (h3 : ∀ v, (a.put (some x) v).eval (.tmp x) = v)
    (hD : Rw w g 4096 D) (hE : Rw w g' 4096 E) (h : Q .normal ((a.put (some x) (.agg (dka D))).put none undef) (w.setCells g' 0 (dkl D))) : (Code.region id #[o1, o2] false).wp Try.prog Q a w := by
  refine wp_region_lit (l := [o1, o2]) ?_
  refine wpList_load_mid q1 59 (.tmp s) e1 g 0 h1 (dkl D) _ (range_of hD) under rfl (by rw [dkl_len]; exact sized) ?_
  rw [d1, show (dkl D).toArray = dka D from rfl]
  have := wpList_store_mid (P := Try.prog) (ops := #[o1, o2]) (rest := []) (op := o2) (a := a.put (some x) (.agg (dka D))) (w := w) (Q := Q) q2 59 (.tmp d) (.tmp x) e2 g' 0 (dka D) (h2 _) (h3 _) (there_of hE _ (dka_size D)) (by rw [dka_size]; exact sized) (dka_one D) (wpList_nil (by rw [d2, show (dka D).toList = dkl D from rfl]; exact h))
  exact this
theorem asc_next (k t : Nat) : (if t = k then (k : Int) else if t < k then (t : Int) else 0) = if t < k + 1 then (t : Int) else 0 := by
  by_cases c : t = k
  · rw [if_pos c, if_pos (by omega)]; omega
  · rw [if_neg c]
    by_cases d : t < k
    · rw [if_pos d, if_pos (by omega)]
    · rw [if_neg d, if_neg (by omega)]
set_option maxRecDepth 100000 in
set_option maxHeartbeats 1000000 in
theorem ascendF (w : World) :
    Calls Try.prog 36 #[] w fun e w' => e = .returned (.agg (dka fun i => i)) ∧ Below w.heap.size w w' := by
  have hz := zeroed
  obtain ⟨W1, hW1⟩ : ∃ W1, w.alloc (.cells (dka fun _ => 0) 59) = W1 := ⟨_, rfl⟩
  have b1 := hide (show Below w.heap.size w W1 from hW1 ▸ (Below.refl _ _).alloc (Nat.le_refl _) _)
  have k1 := hide (show Rw W1 w.heap.size 4096 (fun _ => 0) from hW1 ▸ rw_deck w _ _ (fun _ _ => by unfold bd; omega))
  have z1 : W1.heap.size = w.heap.size + 1 := by rw [← hW1]; simp
  obtain ⟨W2, hW2⟩ : ∃ W2, W1.alloc (.cells (dka fun _ => 0) 59) = W2 := ⟨_, rfl⟩
  have b2' : Below W1.heap.size W1 W2 := hW2 ▸ (Below.refl _ _).alloc (Nat.le_refl _) _
  have b2 := hide (b1.out.trans (b2'.mono b1.out.size))
  have k2 := hide (show Rw W2 W1.heap.size 4096 (fun _ => 0) from hW2 ▸ rw_deck W1 _ _ (fun _ _ => by unfold bd; omega))
  have k0 := hide (k1.out.below b2' (by omega))
  have lt := hide (show w.heap.size < W1.heap.size by omega)
  clear b2' b1 k1 z1
  go_enter Try.func36, Try.ntmps36
  go_wp2_with fail
  clear hz hW1 hW2
  go_loopw [3] (fun i wx => ∃ k : Nat, k ≤ 4096 ∧ i = .int .i64 k ∧ Rw wx W1.heap.size 4096 (fun t => if t < k then (t : Int) else 0) ∧ Rw wx w.heap.size 4096 (fun _ => 0) ∧ Below w.heap.size w wx) (fun i _ => 4096 - (intOf i).toNat)
  case atStart => exact ⟨0, Nat.zero_le _, rfl, k2.out.same (fun t ht => by rw [if_neg (by omega)]), k0.out, b2.out⟩
  case round =>
    obtain ⟨k, hk, rfl, hw, hr, hb⟩ := hrel
    have HW := hide hw
    have HR := hide hr
    have HB := hide hb
    clear hw hr hb
    by_cases hlt : k < 4096
    · have hkI : (k : Int) < 4096 := by omega
      obtain ⟨ca, fa, -⟩ := HW.out k hlt
      have N := hide (HW.out.set k (k : Int) (by unfold bd; omega))
      have M := hide (HR.out.kept (Kept.setCell wr ⟨W1.heap.size, k, none⟩ (.int .i64 (k : Int))) (fun (q : w.heap.size = W1.heap.size) => by have := lt.out; omega))
      have B' := hide (HB.out.setCell (p := ⟨W1.heap.size, k, none⟩) (Nat.le_of_lt lt.out) (.int .i64 (k : Int)))
      go_wp2_with fail
      go_roundw
      case rel => exact ⟨k + 1, by omega, by go_num, N.out.same (fun t ht => (asc_next k t).symm), M.out, B'.out⟩
      case measure => simp [intOf]; omega
    · have e : k = 4096 := by omega
      subst e
      have hkI : decide (((4096 : Nat) : Int) < 4096) = false := by decide
      have HF := hide (HW.out.same (E := fun t => (t : Int)) (fun t ht => by rw [if_pos ht]))
      obtain ⟨X, hX⟩ : ∃ X, wr.setCells w.heap.size 0 (dkl fun t => (t : Int)) = X := ⟨_, rfl⟩
      have HX := hide (show Rw X w.heap.size 4096 _ from hX ▸ rw_store HR.out _ (fun t ht => by unfold bd; omega))
      have BX := hide (show Below w.heap.size w X from hX ▸ HB.out.trans ((kept_setCells wr w.heap.size _ 0).below HB.out.size (fun q e => by omega)))
      have hlv := loadv HX.out
      go_upto_region 7 with fail
      refine wp_hand rfl rfl rfl rfl rfl rfl rfl (fun _ => rfl) (fun _ => rfl) HF.out HR.out ?_
      rw [hX]
      clear hX
      simp only [Act.put, List.setIfInBounds_toArray, List.set_cons_succ, List.set_cons_zero]
      go_wp2_with fail
      refine bodyPost_ret (v := .agg (dka fun i => i)) ?_ rfl ⟨rfl, BX.out⟩
      simp [results, Try.results36, asAddr, Result.andThen, hlv]
/-- places i and j change what they have -/
def swp (D : Nat → Int) (i j : Nat) : Nat → Int := fun t => if t = j then D i else if t = i then D j else D t
/-- a shuffle from place i down, with the state s -/
def shf : Nat → Int → (Nat → Int) → (Nat → Int)
  | 0, _, D => D
  | i + 1, s, D => shf i (stn s) (swp D (i + 1) (blw s ((i + 1 : Nat) + 1)).toNat)
theorem shf_step {q : Nat} (h : 1 ≤ q) (s : Int) (D : Nat → Int) {j : Nat} (hj : blw s ((q : Int) + 1) = (j : Int)) : shf q s D = shf (q - 1) (stn s) (swp D q j) := by
  obtain ⟨i, rfl⟩ : ∃ i, q = i + 1 := ⟨q - 1, by omega⟩
  show shf i (stn s) (swp D (i + 1) (blw s ((i + 1 : Nat) + 1)).toNat) = _
  rw [hj]
  rfl
theorem swp_bd {D : Nat → Int} {i j : Nat} (h : ∀ t, t < 4096 → bd (D t)) (hi : i < 4096) (hj : j < 4096) : ∀ t, t < 4096 → bd (swp D i j t) := by
  intro t ht; unfold swp; split
  · exact h _ hi
  · split
    · exact h _ hj
    · exact h _ ht
theorem shf_bd : ∀ (i : Nat) (s : Int) (D : Nat → Int), i < 4096 → (∀ t, t < 4096 → bd (D t)) → ∀ t, t < 4096 → bd (shf i s D t) := by
  intro i
  induction i with
  | zero => intro s D _ h; exact h
  | succ i ih =>
    intro s D hi h
    have := blw_rng (s := s) (n := ((i + 1 : Nat) : Int) + 1) (by omega) (by omega)
    exact ih _ _ (by omega) (swp_bd h hi (by omega))
theorem rw_cast {w w' : World} {g r : Nat} {D : Nat → Int} (h : Rw w g r D) (e : w = w') : Rw w' g r D := e ▸ h
theorem rw_swap {w : World} {g r p q : Nat} {D : Nat → Int} (h : Rw w g r D) (hp : p < r) (hq : q < r) : Rw ((w.setCell ⟨g, p, none⟩ (.int .i64 (D q))).setCell ⟨g, q, none⟩ (.int .i64 (D p))).drew g r (swp D p q) :=
  (((h.set p (D q) (h q hq).2.2).set q (D p) (h p hp).2.2).below (B := g + 1) ((Below.refl _ _).drew) (by omega)).same fun t ht => rfl
theorem kept_swap (w : World) (g p q : Nat) (x y : Value) : Kept (· = g) w ((w.setCell ⟨g, p, none⟩ x).setCell ⟨g, q, none⟩ y).drew :=
  ((Kept.setCell w ⟨g, p, none⟩ x).trans (Kept.setCell _ ⟨g, q, none⟩ y)).trans (Kept.of_below ((Below.refl _ _).drew))
theorem kept_cell {S : Nat → Prop} {w w' : World} (h : Kept S w w') {b : Nat} {v : Value} (c : w.cell? ⟨b, 0, none⟩ = some v) (n : ¬ S b) : w'.cell? ⟨b, 0, none⟩ = some v := by
  have lt := World.block_lt_of_cell? _ _ c
  rw [← c]; unfold World.cell?; rw [h.block b lt n]
theorem kept_frozen {S : Nat → Prop} {w w' : World} (h : Kept S w w') {b : Nat} (lt : b < w.heap.size) (n : ¬ S b) : w'.frozen? ⟨b, 0, none⟩ = w.frozen? ⟨b, 0, none⟩ := by
  unfold World.frozen?; rw [h.block b lt n]
set_option maxRecDepth 100000 in
set_option maxHeartbeats 1000000 in
theorem shuffledF (D : Nat → Int) (s0 n : Int) (w : World) (hb : ∀ t, t < 4096 → bd (D t)) (n0 : 0 ≤ n) (n1 : n ≤ 4096) :
    Calls Try.prog 37 #[.agg (dka D), .int .u32 s0, .int .i64 n] w fun e w' => e = .returned (.agg (dka (shf (n - 1).toNat s0 D))) ∧ Below w.heap.size w w' := by
  have hz := zeroed
  obtain ⟨W1, hW1⟩ : ∃ W1, w.alloc (.cells (dka D) 59) = W1 := ⟨_, rfl⟩
  have b1 := hide (show Below w.heap.size w W1 from hW1 ▸ (Below.refl _ _).alloc (Nat.le_refl _) _)
  have k1 := hide (show Rw W1 w.heap.size 4096 D from hW1 ▸ rw_deck w _ _ hb)
  have z1 := hide (show W1.heap.size = w.heap.size + 1 by rw [← hW1]; simp)
  obtain ⟨W2, hW2⟩ : ∃ W2, W1.alloc (.cells #[.int .u32 s0] 63) = W2 := ⟨_, rfl⟩
  have b2 := hide (show Below W1.heap.size W1 W2 from hW2 ▸ (Below.refl _ _).alloc (Nat.le_refl _) _)
  have g2 := hide (show W2.cell? ⟨W1.heap.size, 0, none⟩ = some (.int .u32 s0) ∧ W2.frozen? ⟨W1.heap.size, 0, none⟩ = false from hW2 ▸ ⟨by simp [go_sem], by simp [go_sem]⟩)
  have z2 := hide (show W2.heap.size = W1.heap.size + 1 by rw [← hW2]; simp)
  obtain ⟨W3, hW3⟩ : ∃ W3, W2.alloc (.cells (dka fun _ => 0) 59) = W3 := ⟨_, rfl⟩
  have b3 := hide (show Below W2.heap.size W2 W3 from hW3 ▸ (Below.refl _ _).alloc (Nat.le_refl _) _)
  have k3 := hide (show Rw W3 W2.heap.size 4096 (fun _ => 0) from hW3 ▸ rw_deck W2 _ _ (fun _ _ => by unfold bd; omega))
  have B3 := hide (((b1.out.trans (b2.out.mono b1.out.size))).trans (b3.out.mono (Nat.le_trans b1.out.size b2.out.size)))
  have K3 := hide ((k1.out.below b2.out (by have := z1.out; omega)).below b3.out (by have := z1.out; have := z2.out; omega))
  have G3 := hide (show W3.cell? ⟨W1.heap.size, 0, none⟩ = some (.int .u32 s0) ∧ W3.frozen? ⟨W1.heap.size, 0, none⟩ = false from ⟨by rw [b3.out.cell (p := ⟨W1.heap.size, 0, none⟩) (by show W1.heap.size < _; have := z2.out; omega)]; exact g2.out.1, by rw [b3.out.frozen (p := ⟨W1.heap.size, 0, none⟩) (by show W1.heap.size < _; have := z2.out; omega)]; exact g2.out.2⟩)
  have L1 := hide (show w.heap.size < W1.heap.size by have := z1.out; omega)
  have L2 := hide (show W1.heap.size < W2.heap.size by have := z2.out; omega)
  clear b1 b2 b3 k1 g2 z1 z2
  obtain ⟨R, hR⟩ : ∃ R, shf (n - 1).toNat s0 D = R := ⟨_, rfl⟩
  have HR := hide hR
  rw [hR]
  have HB := hide (shf_bd (n - 1).toNat s0 D (by omega) hb)
  rw [hR] at HB
  clear hR hb
  go_enter Try.func37, Try.ntmps37
  go_wp2_with fail
  clear hz hW1 hW2 hW3
  go_loopw [7] (fun at' wx => ∃ (z s : Int) (E : Nat → Int), at' = .int .i64 z ∧ -1 ≤ z ∧ z ≤ 4095 ∧ shf z.toNat s E = R ∧ Rw wx w.heap.size 4096 E ∧ (wx.cell? ⟨W1.heap.size, 0, none⟩ = some (.int .u32 s) ∧ wx.frozen? ⟨W1.heap.size, 0, none⟩ = false ∧ W1.heap.size < wx.heap.size) ∧ Rw wx W2.heap.size 4096 (fun _ => 0) ∧ Below w.heap.size w wx) (fun at' _ => (intOf at').toNat)
  case atStart => exact ⟨n - 1, s0, D, rfl, by omega, by omega, HR.out, K3.out, ⟨G3.out.1, G3.out.2, World.block_lt_of_cell? _ _ G3.out.1⟩, k3.out, B3.out⟩
  case round =>
    obtain ⟨z, s, E, rfl, z0, z1, hE, hw, ⟨c0, f0, l0⟩, hr, hbl⟩ := hrel
    have HE := hide hE
    have HW := hide hw
    have HZ := hide hr
    have BL := hide hbl
    have C0 := hide c0
    have F0 := hide f0
    clear hE hw hr hbl c0 f0
    by_cases hlt : 0 < z
    · obtain ⟨q, rfl⟩ : ∃ q : Nat, z = q := ⟨z.toNat, by omega⟩
      have q1 : 1 ≤ q := by omega
      have q2 : q < 4096 := by omega
      have hj0 := blw_rng (s := s) (n := (q : Int) + 1) (by omega) (by omega)
      obtain ⟨j, hj⟩ : ∃ j : Nat, blw s ((q : Int) + 1) = (j : Int) := ⟨(blw s ((q : Int) + 1)).toNat, by omega⟩
      have jq : j < 4096 := by omega
      have HJ := hide hj
      have C := hide (belowG s ((q : Int) + 1) W1.heap.size wr (by omega) (by omega) C0.out F0.out)
      rw [hj] at C
      obtain ⟨X, hX⟩ : ∃ X, wr.setCell ⟨W1.heap.size, 0, none⟩ (.int .u32 (stn s)) = X := ⟨_, rfl⟩
      have KX := hide (show Kept (· = W1.heap.size) wr X from hX ▸ Kept.setCell wr ⟨W1.heap.size, 0, none⟩ _)
      have CX := hide (show X.cell? ⟨W1.heap.size, 0, none⟩ = some (.int .u32 (stn s)) from hX ▸ World.cell?_setCell_same _ _ _ C0.out)
      have FX := hide (show X.frozen? ⟨W1.heap.size, 0, none⟩ = false by rw [← hX, World.frozen?_setCell]; exact F0.out)
      have WX := hide (HW.out.kept KX.out (fun (e : w.heap.size = W1.heap.size) => by have := L1.out; omega))
      have ZX := hide (HZ.out.kept KX.out (fun (e : W2.heap.size = W1.heap.size) => by have := L2.out; omega))
      have BX := hide (BL.out.trans (KX.out.below BL.out.size (fun k (e : k = W1.heap.size) => by have := L1.out; omega)))
      have LX := hide (show W1.heap.size < X.heap.size from Nat.lt_of_lt_of_le l0 KX.out.size)
      rw [hX] at C
      clear hX l0 hj hj0
      obtain ⟨cq, fq, -⟩ := WX.out q q2
      obtain ⟨cj, fj, -⟩ := WX.out j jq
      have N := hide (rw_swap WX.out q2 jq)
      have KN := hide (kept_swap X w.heap.size q j (.int .i64 (E j)) (.int .i64 (E q)))
      have c5 : (X.setCell ⟨w.heap.size, q, none⟩ (.int .i64 (E j))).cell? ⟨w.heap.size, j, none⟩ = some (.int .i64 (E j)) := by
        have := (WX.out.set q (E j) (WX.out j jq).2.2) j jq
        rw [this.1]
        show some (Value.int .i64 (if j = q then E j else E j)) = _
        rw [ite_self]
      have qI : (q : Int) < 4096 := by omega
      have jI : (j : Int) < 4096 := by omega
      have eM := hide (show ((q : Int) - 1).toNat = q - 1 by omega)
      go_wp2_with fail
      refine C.out.mono ?_
      rintro e1 w4 ⟨rfl, rfl⟩
      go_wp2_with fail
      go_region
      go_wp2_with fail
      go_roundw
      case rel =>
        have SD := shf_step q1 s E HJ.out
        exact ⟨(q : Int) - 1, stn s, swp E q j, rfl, by omega, by omega, by rw [eM.out, ← SD]; exact HE.out, N.out,
          ⟨kept_cell KN.out CX.out (fun (e : W1.heap.size = w.heap.size) => by have := L1.out; omega), (kept_frozen KN.out LX.out (fun (e : W1.heap.size = w.heap.size) => by have := L1.out; omega)).trans FX.out, Nat.lt_of_lt_of_le LX.out KN.out.size⟩,
          ZX.out.kept KN.out (fun (e : W2.heap.size = w.heap.size) => by have := L1.out; have := L2.out; omega), BX.out.trans (KN.out.below BX.out.size (fun k (e : k = w.heap.size) => by omega))⟩
      case measure => simp [intOf]; omega
    · have hE := HE.out
      rw [show z.toNat = 0 by omega] at hE
      have hER : E = R := hE
      subst hER
      have hkI : decide (0 < z) = false := decide_eq_false hlt
      clear hlt hE
      obtain ⟨X, hX⟩ : ∃ X, wr.setCells W2.heap.size 0 (dkl E) = X := ⟨_, rfl⟩
      have HX := hide (show Rw X W2.heap.size 4096 _ from hX ▸ rw_store HZ.out _ (fun t ht => (HW.out t ht).2.2))
      have BX := hide (show Below w.heap.size w X from hX ▸ BL.out.trans ((kept_setCells wr W2.heap.size _ 0).below BL.out.size (fun q (e : q = W2.heap.size) => by have := L1.out; have := L2.out; omega)))
      have hlv := loadv HX.out
      go_upto_region 6 with fail
      refine wp_hand rfl rfl rfl rfl rfl rfl rfl (fun _ => rfl) (fun _ => rfl) HW.out HZ.out ?_
      rw [hX]
      clear hX
      simp only [Act.put, List.setIfInBounds_toArray, List.set_cons_succ, List.set_cons_zero]
      go_wp2_with fail
      refine bodyPost_ret (v := .agg (dka E)) ?_ rfl ⟨rfl, BX.out⟩
      simp [results, Try.results37, asAddr, Result.andThen, hlv]
end Wj
end Go.Proofs.Ytcnopdonnjemmab
