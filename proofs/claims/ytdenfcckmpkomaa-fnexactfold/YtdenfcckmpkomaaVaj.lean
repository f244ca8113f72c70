/- Whole of the program. -/
import Derived.Test.YtdenfcckmpkomaaVai
import Derived.Test.YtdenfcckmpkomaaVaf
namespace Go.Proofs.Ytdenfcckmpkomaa
namespace Vo
open Go.ChangeShapes Go.WideShapes Go.ChangeAt Go.RowKit Go.Joins
open Vl Vp Vr
set_option linter.unusedVariables false
set_option linter.unusedSimpArgs false
attribute [local go_sem] Oper.semAt_some

theorem drew_size (w : World) : w.drew.heap.size = w.heap.size := rfl
/-- a region that ends as it should -/
def regPost (R : Act → World → Prop) : Exit → Act → World → Prop
  | .normal, a, w => R a w
  | _, _, _ => False
theorem Kept.refl (S : Nat → Prop) (w : World) : Kept S w w := Kept.of_below (Below.refl w.heap.size w)
/-- a view as it stands once it is laid: its lengths filled, its strides not yet -/
def WAt (r : Nat) (D : Nat → Int) (w wx : World) (P g : Nat) (aa : Option Addr) (ac : Nat) : Prop :=
  Box wx P (.slice aa r ac) (.slice (some ⟨g, 0, none⟩) r r) (.int .i64 0) (.int .i64 (szR D r)) ∧ RowV (w.heap.size + 1) wx (.slice aa r ac) r D ∧ Rw wx g r (fun _ => 0) ∧ w.heap.size + 1 ≤ g ∧ w.heap.size + 1 ≤ P ∧ g ≠ P ∧ (∀ j, (Value.slice aa r ac).ownBlock = some j → j ≠ g ∧ j ≠ P) ∧ g < wx.heap.size ∧ P < wx.heap.size ∧ Box wx w.heap.size (.slice none 0 0) (.slice none 0 0) (.int .i64 0) (.int .i64 0) ∧ Free wx w.heap.size ∧ Below w.heap.size w wx
theorem wat {r : Nat} {D : Nat → Int} {w W0 Y wx : World} {P g : Nat} {aa : Option Addr} {ac : Nat} (hW : Below w.heap.size w W0) (hM : Box W0 w.heap.size (.slice none 0 0) (.slice none 0 0) (.int .i64 0) (.int .i64 0)) (hG : Free W0 w.heap.size)
    (h0 : Below (w.heap.size + 1) W0 Y) (hk : Kept (· = P) Y wx) (hva : RowV (w.heap.size + 1) Y (.slice aa r ac) r D) (hg : Rw Y g r (fun _ => 0)) (hbox : Box wx P (.slice aa r ac) (.slice (some ⟨g, 0, none⟩) r r) (.int .i64 0) (.int .i64 (szR D r)))
    (g1 : w.heap.size + 1 ≤ g) (p1 : w.heap.size + 1 ≤ P) (hgp : g ≠ P) (gY : g < Y.heap.size) (pY : P < Y.heap.size) (hne : ∀ j, (Value.slice aa r ac).ownBlock = some j → j ≠ g ∧ j ≠ P) : WAt r D w wx P g aa ac :=
  ⟨hbox, hva.kept hk (fun j hj e => (hne j hj).2 e), hg.kept hk hgp, g1, p1, hgp, hne, Nat.lt_of_lt_of_le gY hk.size, Nat.lt_of_lt_of_le pY hk.size, (hM.below h0 (by omega)).kept hk (by omega) (by omega), (hG.below h0 (by omega)).kept hk (by omega) (by omega), (hW.trans (h0.mono (by omega))).trans (hk.below (Nat.le_of_lt (Nat.lt_of_le_of_lt (Nat.le_of_succ_le p1) pY)) (fun j e => by have e : j = P := e; omega))⟩
theorem WAt.below {r : Nat} {D : Nat → Int} {w wx wy : World} {P g : Nat} {aa : Option Addr} {ac : Nat} (h : WAt r D w wx P g aa ac) (hb : Below wx.heap.size wx wy) : WAt r D w wy P g aa ac := by
  obtain ⟨q1, q2, q3, q4, q5, q6, q7, q8, q9, q10, q11, q12⟩ := h
  have := q12.size
  exact ⟨q1.below hb q9, q2.below hb, q3.below hb q8, q4, q5, q6, q7, Nat.lt_of_lt_of_le q8 hb.size, Nat.lt_of_lt_of_le q9 hb.size, q10.below hb (by omega), q11.below hb (by omega), q12.trans (hb.mono (by omega))⟩
theorem kept_ge {B : Nat} {w wx : World} (hb : Below B w wx) : Kept (fun j => B ≤ j) w wx := ⟨hb.os, hb.tape, hb.output, hb.size, fun j hj hn => hb.block j (by omega)⟩
/-- the strides from behind, k of them laid -/
def WhI (r : Nat) (D : Nat → Int) (w wx : World) (P g q : Nat) (aa : Option Addr) (ac k : Nat) : Prop :=
  Box wx P (.slice aa r ac) (.slice (some ⟨g, 0, none⟩) r r) (.int .i64 0) (.int .i64 (szR D r)) ∧ RowV (w.heap.size + 1) wx (.slice aa r ac) r D ∧ Rw wx g r (fun t => if r - k ≤ t then stW D r t else 0) ∧ wx.cell? ⟨q, 0, none⟩ = some (.int .i64 (bh D r k)) ∧ wx.frozen? ⟨q, 0, none⟩ = false ∧ Box wx w.heap.size (.slice none 0 0) (.slice none 0 0) (.int .i64 0) (.int .i64 0) ∧ Free wx w.heap.size ∧ Below w.heap.size w wx ∧ q + 2 ≤ wx.heap.size
theorem WhI.below {r : Nat} {D : Nat → Int} {w wx wy : World} {P g q : Nat} {aa : Option Addr} {ac k : Nat} (h : WhI r D w wx P g q aa ac k) (hb : Below (q + 2) wx wy) (hg : g < q) (hP : P < q) (ha : ∀ j, (Value.slice aa r ac).ownBlock = some j → j < q) (hw : w.heap.size < q) : WhI r D w wy P g q aa ac k := by
  obtain ⟨q1, q2, q3, q4, q5, q6, q7, q8, q9⟩ := h
  exact ⟨q1.below hb (by omega), q2.kept (kept_ge hb) (fun j hj e => by have := ha j hj; have e : q + 2 ≤ j := e; omega), q3.below hb (by omega), below_cell hb (by show q < q + 2; omega) q4, below_mark hb (by show q < q + 2; omega) q5, q6.below hb (by omega), q7.below hb (by omega), q8.trans (hb.mono (by omega)), Nat.le_trans q9 hb.size⟩
theorem WhI.next {r : Nat} {D : Nat → Int} {w wx : World} {P g q : Nat} {aa : Option Addr} {ac k m : Nat} (h : WhI r D w wx P g q aa ac k) (hm : m + k + 1 = r) (hd : dok r D = true) (hg : g < q) (hP : P < q) (hgp : g ≠ P) (g1 : w.heap.size + 1 ≤ g) (ha : ∀ j, (Value.slice aa r ac).ownBlock = some j → j < q ∧ j ≠ g) :
    WhI r D w ((wx.drew.setCell ⟨g, m, none⟩ (.int .i64 (stW D r m))).setCell ⟨q, 0, none⟩ (.int .i64 (bh D r k * D m))) P g q aa ac (k + 1) := by
  obtain ⟨q1, q2, q3, q4, q5, q6, q7, q8, q9⟩ := h
  have bd1 := (below_drewN (Below.refl wx.heap.size wx) 1)
  have kd : Kept (fun j => j = g ∨ j = q) wx ((wx.drew.setCell ⟨g, m, none⟩ (.int .i64 (stW D r m))).setCell ⟨q, 0, none⟩ (.int .i64 (bh D r k * D m))) :=
    ((Kept.of_below (show Below wx.heap.size wx wx.drew from (Below.refl _ _).drew)).trans ((Kept.setCell wx.drew ⟨g, m, none⟩ _).mono (fun _ _ e => .inl e))).trans ((Kept.setCell _ ⟨q, 0, none⟩ _).mono (fun _ _ e => .inr e))
  have hb : ∀ j, j ≤ r → 1 ≤ bh D r j ∧ bh D r j ≤ 4096 := fun j hj => by
    have h1 := bh_le (fun i hi => (dok_len hd hi).1) j hj
    have h2 := (dok_iff.1 hd).2
    rcases szR_cases D r with e | ⟨_, e, _, e4⟩ <;> omega
  have hs : bd (stW D r m) := by
    have := hb (r - 1 - m) (by omega)
    unfold stW bd; split <;> omega
  refine ⟨q1.kept kd (World.block_lt_of_cell? _ _ q1.1) (by omega), q2.kept kd (fun j hj e => by have := ha j hj; omega), ?_, ?_, ?_, q6.kept kd (by omega) (by omega), q7.kept kd (by omega) (by omega), q8.trans (kd.below q8.size (fun j e => by omega)), by have := kd.size; omega⟩
  · refine Rw.same (Rw.other (Rw.set (q3.below (B := wx.heap.size) ((Below.refl _ _).drew) (by omega)) m (stW D r m) hs) (by show g ≠ q; omega)) (fun t ht => ?_)
    by_cases c : t = m
    · subst c; simp; omega
    · by_cases l : r - k ≤ t
      · rw [if_pos (by omega), if_neg c, if_pos l]
      · rw [if_neg (by omega), if_neg c, if_neg l]
  · rw [show bh D r (k + 1) = bh D r k * D m by simp only [bh]; rw [show r - 1 - k = m by omega]]
    exact World.cell?_setCell_same _ _ _ (set_other (by show q ≠ g; omega) q4)
  · rw [World.frozen?_setCell, World.frozen?_setCell]; exact q5
theorem wholeV_le (r : Nat) (D : Nat → Int) : (wholeV r D).r ≤ r ∧ (wholeV r D).s ≤ r := by
  unfold wholeV
  split
  · exact ⟨Nat.le_refl _, Nat.le_refl _⟩
  · exact ⟨Nat.zero_le _, Nat.zero_le _⟩
set_option maxRecDepth 100000 in
set_option maxHeartbeats 2000000 in
theorem wholeC (B : Nat) (ad : Addr) (r cap : Nat) (D : Nat → Int) (w : World) (h : Ints B w (some ad) r D) (hB : B ≤ w.heap.size) (hr : (r : Int) ≤ 1048576) :
    Calls Try.prog 78 #[.slice (some ad) r cap] w fun e w' => ViewR w.heap.size (wholeV r D) w e w' := by
  have BL := hide (show Below w.heap.size w (w.alloc (.cells #[.slice none 0 0, .slice none 0 0, .int .i64 0, .int .i64 0] 66)) from (Below.refl _ _).alloc (Nat.le_refl _) _)
  have M0 := hide (box_new w (.slice none 0 0) (.slice none 0 0) (.int .i64 0) (.int .i64 0) 66)
  have G0 := hide (free_new w #[.slice none 0 0, .slice none 0 0, .int .i64 0, .int .i64 0] 66)
  have H := hide h
  clear h
  refine calls_marks Try.func78 rfl ?_
  simp only [Try.ntmps78, List.size_toArray, List.length_cons, List.length_nil, Nat.reduceAdd, Nat.reduceSub, Array.replicate_succ, Array.replicate_zero, List.push_toArray, List.append_toArray, List.nil_append, List.cons_append]
  by_cases hd0 : dok r D = false
  · have e := hide (wholeV_no hd0)
    have hs : sz r D = 0 := by
      unfold dok at hd0
      have := of_decide_eq_false hd0
      have : 0 ≤ sz r D := by unfold sz; split; omega; exact (szR_rng D r).1
      omega
    clear hd0
    go_wp2_with fail
    refine (Vs.sizeOf B (some ad) r cap D _ (H.out.below (BL.out.mono hB)) hr).mono ?_; rintro e1 w1 ⟨rfl, rfl⟩
    rw [hs]
    clear hs
    go_wp2_with fail
    refine end0 (v := .agg #[.slice none 0 0, .slice none 0 0, .int .i64 0, .int .i64 0]) rfl (by simp [results, Try.results78, go_sem]) (by
      rw [e.out]; refine viewR_zero ?_
      repeat (refine Below.setCell ?_ (by simp) _)
      exact BL.out)
  have hd : dok r D = true := by simpa using hd0
  clear hd0
  have e := hide (wholeV_yes hd)
  have HD := hide hd
  have r6 : (r : Int) ≤ 6 := by have := (dok_iff.1 hd).1; omega
  have es : sz r D = szR D r := by unfold sz; rw [if_neg (by omega)]
  have s0 : 0 < szR D r := (dok_iff.1 hd).2
  have s1 : (szR D r == 0) = false := beq_eq_false_iff_ne.2 (by omega)
  have hmk := make_int r (by omega)
  have CA := hide (fun (W : World) (hW : Below w.heap.size w W) => clone B (some ad) r cap D W (H.out.below (hW.mono hB)) (Nat.le_trans hB hW.size) hr (fun h => by cases h))
  clear hd
  go_wp2_with fail
  refine (Vs.sizeOf B (some ad) r cap D _ (H.out.below (BL.out.mono hB)) hr).mono ?_; rintro e1 w1 ⟨rfl, rfl⟩
  rw [es]
  clear es
  go_wp2_with fail
  refine wp_mono (Q := regPost fun a' wx => ∃ (P g : Nat) (aa : Option Addr) (ac : Nat) (u13 u14 u15 u16 u17 u18 u19 : Value), a' = { tmps := #[.slice (some ad) r cap, undef, .pointer (some ⟨w.heap.size, 0, none⟩), .int .i64 (szR D r), .pointer (some ⟨P, 0, none⟩), undef, undef, undef, .slice (some ad) r cap, .int .i64 (szR D r), .int .i64 (szR D r), .bool false, undef, u13, u14, u15, u16, u17, u18, u19, undef, undef, undef, undef, undef, undef, undef, undef, undef, undef, undef, undef, undef, undef, undef], defers := [] } ∧ WAt r D w wx P g aa ac) ?first ?rest
  case first =>
    go_region_with (
      (go_at_call_of 96 (Value.slice (some ad) r cap)
       refine (CA.out _ (by first | exact BL.out.drew | exact BL.out.drew.alloc (by simp) _ | exact (BL.out.drew.alloc (by simp) _).alloc (by simp; omega) _)).mono ?_
       rintro e wA ⟨va, rfl, hva, bA⟩
       obtain ⟨aa, ac, rfl, _⟩ := RowV.own hva
       have cA := old_cells bA
       have mA := old_marks bA
       first
         | (have n2 : ¬ (w.heap.size + 1 + 1 = wA.heap.size) := by (have q := bA.size; simp only [World.size_alloc, drew_size] at q; omega)
            have n1 : ¬ (w.heap.size + 1 = wA.heap.size) := by (have q := bA.size; simp only [World.size_alloc, drew_size] at q; omega)
            have c1 := fun i => cA (w.heap.size + 1) i (by simp only [World.size_alloc, drew_size]; omega)
            have c2 := fun i => cA (w.heap.size + 1 + 1) i (by simp only [World.size_alloc, drew_size]; omega)
            have d1 := fun i => mA (w.heap.size + 1) i (by simp only [World.size_alloc, drew_size]; omega)
            have d2 := fun i => mA (w.heap.size + 1 + 1) i (by simp only [World.size_alloc, drew_size]; omega))
         | (have n1 : ¬ (w.heap.size + 1 = wA.heap.size) := by (have q := bA.size; simp only [World.size_alloc, drew_size] at q; omega)
            have c1 := fun i => cA (w.heap.size + 1) i (by simp only [World.size_alloc, drew_size]; omega)
            have d1 := fun i => mA (w.heap.size + 1) i (by simp only [World.size_alloc, drew_size]; omega)
            have c3 : ∀ (x : Obj) i, (wA.alloc x).cell? ⟨w.heap.size + 1, i, none⟩ = wA.cell? ⟨w.heap.size + 1, i, none⟩ := fun x i => World.cell?_alloc_old wA x ⟨w.heap.size + 1, i, none⟩ n1
            have d3 : ∀ (x : Obj) i, (wA.alloc x).frozen? ⟨w.heap.size + 1, i, none⟩ = wA.frozen? ⟨w.heap.size + 1, i, none⟩ := fun x i => World.frozen?_alloc_old wA x ⟨w.heap.size + 1, i, none⟩ n1)
         | skip
       clear cA mA))
    · have sA := bA.size
      simp only [World.size_alloc, drew_size] at sA
      have b0 := (Below.refl (w.heap.size + 1) (w.alloc (.cells #[.slice none 0 0, .slice none 0 0, .int .i64 0, .int .i64 0] 66))).drew.trans (bA.mono (by simp only [World.size_alloc, drew_size]; omega))
      have b0 := b0.alloc (by (try simp only [World.size_alloc]); omega) (.cells (madeCells #[.int .i64 0] r) 3)
      have b0 := b0.alloc (by (try simp only [World.size_alloc]); omega) (.cells #[.slice aa r ac, .slice (some ⟨wA.heap.size, 0, none⟩) r r, .int .i64 0, .int .i64 (szR D r)] 66)
      have hy := (((Below.refl wA.heap.size wA).alloc (by (try simp only [World.size_alloc]); omega) (.cells (madeCells #[.int .i64 0] r) 3)).alloc (by (try simp only [World.size_alloc]); omega) (.cells #[.slice aa r ac, .slice (some ⟨wA.heap.size, 0, none⟩) r r, .int .i64 0, .int .i64 (szR D r)] 66))
      have hg := (rw_new wA r 3).below (B := wA.heap.size + 1) ((Below.refl _ _).alloc (by simp only [World.size_alloc]; omega) (.cells #[.slice aa r ac, .slice (some ⟨wA.heap.size, 0, none⟩) r r, .int .i64 0, .int .i64 (szR D r)] 66)) (by omega)
      have hb := box_new (wA.alloc (.cells (madeCells #[.int .i64 0] r) 3)) (.slice aa r ac) (.slice (some ⟨wA.heap.size, 0, none⟩) r r) (.int .i64 0) (.int .i64 (szR D r)) 66
      rw [World.size_alloc] at hb
      exact ⟨wA.heap.size + 1, wA.heap.size, aa, ac, _, _, _, _, _, _, _, rfl, wat BL.out M0.out G0.out b0 (Kept.refl _ _) ((hva.below hy).mono (by simp only [World.size_alloc, drew_size]; omega)) hg hb (by omega) (by omega) (by omega) (by (try simp only [World.size_alloc]); omega) (by (try simp only [World.size_alloc]); omega) (fun j hj => by have q := hva.lt hj; simp only [World.size_alloc, drew_size] at q; omega)⟩
    · have sA := bA.size
      simp only [World.size_alloc, drew_size] at sA
      have b0 := (Below.refl (w.heap.size + 1) (w.alloc (.cells #[.slice none 0 0, .slice none 0 0, .int .i64 0, .int .i64 0] 66))).drew.trans (bA.mono (by simp only [World.size_alloc, drew_size]; omega))
      have b0 := b0.alloc (by (try simp only [World.size_alloc]); omega) (.cells #[.slice aa r ac, .slice (some ⟨wA.heap.size + 1, 0, none⟩) r r, .int .i64 0, .int .i64 (szR D r)] 66)
      have b0 := b0.alloc (by (try simp only [World.size_alloc]); omega) (.cells (madeCells #[.int .i64 0] r) 3)
      have hy := (((Below.refl wA.heap.size wA).alloc (by (try simp only [World.size_alloc]); omega) (.cells #[.slice aa r ac, .slice (some ⟨wA.heap.size + 1, 0, none⟩) r r, .int .i64 0, .int .i64 (szR D r)] 66)).alloc (by (try simp only [World.size_alloc]); omega) (.cells (madeCells #[.int .i64 0] r) 3))
      have hg := rw_new (wA.alloc (.cells #[.slice aa r ac, .slice (some ⟨wA.heap.size + 1, 0, none⟩) r r, .int .i64 0, .int .i64 (szR D r)] 66)) r 3
      rw [World.size_alloc] at hg
      have hb := (box_new wA (.slice aa r ac) (.slice (some ⟨wA.heap.size + 1, 0, none⟩) r r) (.int .i64 0) (.int .i64 (szR D r)) 66).below (B := wA.heap.size + 1) ((Below.refl _ _).alloc (by simp only [World.size_alloc]; omega) (.cells (madeCells #[.int .i64 0] r) 3)) (by omega)
      exact ⟨wA.heap.size, wA.heap.size + 1, aa, ac, _, _, _, _, _, _, _, rfl, wat BL.out M0.out G0.out b0 (Kept.refl _ _) ((hva.below hy).mono (by simp only [World.size_alloc, drew_size]; omega)) hg hb (by omega) (by omega) (by omega) (by (try simp only [World.size_alloc]); omega) (by (try simp only [World.size_alloc]); omega) (fun j hj => by have q := hva.lt hj; simp only [World.size_alloc, drew_size] at q; omega)⟩
    · have sA := bA.size
      simp only [World.size_alloc, drew_size] at sA
      have b0 := ((Below.refl (w.heap.size + 1) (w.alloc (.cells #[.slice none 0 0, .slice none 0 0, .int .i64 0, .int .i64 0] 66))).drew.alloc (by simp only [World.size_alloc, drew_size]; omega) (.cells (madeCells #[.int .i64 0] r) 3)).trans (bA.mono (by simp only [World.size_alloc, drew_size]; omega))
      have b0 := b0.alloc (by (try simp only [World.size_alloc]); omega) (.cells #[.slice aa r ac, .slice (some ⟨w.heap.size + 1, 0, none⟩) r r, .int .i64 0, .int .i64 (szR D r)] 66)
      have hy := ((Below.refl wA.heap.size wA).alloc (by (try simp only [World.size_alloc]); omega) (.cells #[.slice aa r ac, .slice (some ⟨w.heap.size + 1, 0, none⟩) r r, .int .i64 0, .int .i64 (szR D r)] 66))
      have hg := rw_new ((w.alloc (.cells #[.slice none 0 0, .slice none 0 0, .int .i64 0, .int .i64 0] 66)).drew) r 3
      rw [drew_size, World.size_alloc] at hg
      have hg := (hg.below bA (by simp only [World.size_alloc, drew_size]; omega)).below hy (by omega)
      have hb := box_new wA (.slice aa r ac) (.slice (some ⟨w.heap.size + 1, 0, none⟩) r r) (.int .i64 0) (.int .i64 (szR D r)) 66
      exact ⟨wA.heap.size, w.heap.size + 1, aa, ac, _, _, _, _, _, _, _, rfl, wat BL.out M0.out G0.out b0 (Kept.refl _ _) ((hva.below hy).mono (by simp only [World.size_alloc, drew_size]; omega)) hg hb (by omega) (by omega) (by omega) (by (try simp only [World.size_alloc]); omega) (by (try simp only [World.size_alloc]); omega) (fun j hj => by have q := hva.lt hj; simp only [World.size_alloc, drew_size] at q; omega)⟩
    · have sA := bA.size
      simp only [World.size_alloc, drew_size] at sA
      have b0 := (((Below.refl (w.heap.size + 1) (w.alloc (.cells #[.slice none 0 0, .slice none 0 0, .int .i64 0, .int .i64 0] 66))).drew.alloc (by simp only [World.size_alloc, drew_size]; omega) (.cells (madeCells #[.int .i64 0] r) 3)).alloc (by simp only [World.size_alloc, drew_size]; omega) (.cells #[.slice none 0 0, .slice none 0 0, .int .i64 0, .int .i64 0] 66)).trans (bA.mono (by simp only [World.size_alloc, drew_size]; omega))
      have hy := (Below.refl wA.heap.size wA)
      have hg := rw_new ((w.alloc (.cells #[.slice none 0 0, .slice none 0 0, .int .i64 0, .int .i64 0] 66)).drew) r 3
      rw [drew_size, World.size_alloc] at hg
      have hg := (hg.below (B := w.heap.size + 1 + 1) ((Below.refl _ _).alloc (by simp only [World.size_alloc, drew_size]; omega) (.cells #[.slice none 0 0, .slice none 0 0, .int .i64 0, .int .i64 0] 66)) (by omega)).below bA (by simp only [World.size_alloc, drew_size]; omega)
      have hb := box_new (((w.alloc (.cells #[.slice none 0 0, .slice none 0 0, .int .i64 0, .int .i64 0] 66)).drew).alloc (.cells (madeCells #[.int .i64 0] r) 3)) (.slice none 0 0) (.slice none 0 0) (.int .i64 0) (.int .i64 0) 66
      rw [World.size_alloc, drew_size, World.size_alloc] at hb
      have hb := box_sets4 (hb.below bA (by simp only [World.size_alloc, drew_size]; omega)) (.slice aa r ac) (.slice (some ⟨w.heap.size + 1, 0, none⟩) r r) (.int .i64 0) (.int .i64 (szR D r))
      exact ⟨w.heap.size + 1 + 1, w.heap.size + 1, aa, ac, _, _, _, _, _, _, _, rfl, wat BL.out M0.out G0.out b0 (kept_sets4 (wA) (w.heap.size + 1 + 1) (.slice aa r ac) (.slice (some ⟨w.heap.size + 1, 0, none⟩) r r) (.int .i64 0) (.int .i64 (szR D r))) ((hva.below hy).mono (by simp only [World.size_alloc, drew_size]; omega)) hg hb (by omega) (by omega) (by omega) (by (try simp only [World.size_alloc]); omega) (by (try simp only [World.size_alloc]); omega) (fun j hj => by have q := hva.lt hj; simp only [World.size_alloc, drew_size] at q; omega)⟩
    · have sA := bA.size
      simp only [World.size_alloc, drew_size] at sA
      have b0 := ((Below.refl (w.heap.size + 1) (w.alloc (.cells #[.slice none 0 0, .slice none 0 0, .int .i64 0, .int .i64 0] 66))).drew.alloc (by simp only [World.size_alloc, drew_size]; omega) (.cells #[.slice none 0 0, .slice none 0 0, .int .i64 0, .int .i64 0] 66)).trans (bA.mono (by simp only [World.size_alloc, drew_size]; omega))
      have b0 := b0.alloc (by (try simp only [World.size_alloc]); omega) (.cells (madeCells #[.int .i64 0] r) 3)
      have hy := ((Below.refl wA.heap.size wA).alloc (by (try simp only [World.size_alloc]); omega) (.cells (madeCells #[.int .i64 0] r) 3))
      have hg := rw_new wA r 3
      have hb := box_new ((w.alloc (.cells #[.slice none 0 0, .slice none 0 0, .int .i64 0, .int .i64 0] 66)).drew) (.slice none 0 0) (.slice none 0 0) (.int .i64 0) (.int .i64 0) 66
      rw [drew_size, World.size_alloc] at hb
      have hb := box_sets4 ((hb.below bA (by simp only [World.size_alloc, drew_size]; omega)).below hy (by omega)) (.slice aa r ac) (.slice (some ⟨wA.heap.size, 0, none⟩) r r) (.int .i64 0) (.int .i64 (szR D r))
      exact ⟨w.heap.size + 1, wA.heap.size, aa, ac, _, _, _, _, _, _, _, rfl, wat BL.out M0.out G0.out b0 (kept_sets4 (wA.alloc (.cells (madeCells #[.int .i64 0] r) 3)) (w.heap.size + 1) (.slice aa r ac) (.slice (some ⟨wA.heap.size, 0, none⟩) r r) (.int .i64 0) (.int .i64 (szR D r))) ((hva.below hy).mono (by simp only [World.size_alloc, drew_size]; omega)) hg hb (by omega) (by omega) (by omega) (by (try simp only [World.size_alloc]); omega) (by (try simp only [World.size_alloc]); omega) (fun j hj => by have q := hva.lt hj; simp only [World.size_alloc, drew_size] at q; omega)⟩
    · have sA := bA.size
      simp only [World.size_alloc, drew_size] at sA
      have b0 := (((Below.refl (w.heap.size + 1) (w.alloc (.cells #[.slice none 0 0, .slice none 0 0, .int .i64 0, .int .i64 0] 66))).drew.alloc (by simp only [World.size_alloc, drew_size]; omega) (.cells #[.slice none 0 0, .slice none 0 0, .int .i64 0, .int .i64 0] 66)).alloc (by simp only [World.size_alloc, drew_size]; omega) (.cells (madeCells #[.int .i64 0] r) 3)).trans (bA.mono (by simp only [World.size_alloc, drew_size]; omega))
      have hy := (Below.refl wA.heap.size wA)
      have hg := rw_new (((w.alloc (.cells #[.slice none 0 0, .slice none 0 0, .int .i64 0, .int .i64 0] 66)).drew).alloc (.cells #[.slice none 0 0, .slice none 0 0, .int .i64 0, .int .i64 0] 66)) r 3
      rw [World.size_alloc, drew_size, World.size_alloc] at hg
      have hg := hg.below bA (by simp only [World.size_alloc, drew_size]; omega)
      have hb := box_new ((w.alloc (.cells #[.slice none 0 0, .slice none 0 0, .int .i64 0, .int .i64 0] 66)).drew) (.slice none 0 0) (.slice none 0 0) (.int .i64 0) (.int .i64 0) 66
      rw [drew_size, World.size_alloc] at hb
      have hb := box_sets4 ((hb.below (B := w.heap.size + 1 + 1) ((Below.refl _ _).alloc (by simp only [World.size_alloc, drew_size]; omega) (.cells (madeCells #[.int .i64 0] r) 3)) (by omega)).below bA (by simp only [World.size_alloc, drew_size]; omega)) (.slice aa r ac) (.slice (some ⟨w.heap.size + 1 + 1, 0, none⟩) r r) (.int .i64 0) (.int .i64 (szR D r))
      exact ⟨w.heap.size + 1, w.heap.size + 1 + 1, aa, ac, _, _, _, _, _, _, _, rfl, wat BL.out M0.out G0.out b0 (kept_sets4 (wA) (w.heap.size + 1) (.slice aa r ac) (.slice (some ⟨w.heap.size + 1 + 1, 0, none⟩) r r) (.int .i64 0) (.int .i64 (szR D r))) ((hva.below hy).mono (by simp only [World.size_alloc, drew_size]; omega)) hg hb (by omega) (by omega) (by omega) (by (try simp only [World.size_alloc]); omega) (by (try simp only [World.size_alloc]); omega) (fun j hj => by have q := hva.lt hj; simp only [World.size_alloc, drew_size] at q; omega)⟩
  case rest =>
    rintro ex a' W1 hp
    cases ex with
    | normal =>
      obtain ⟨P, g, aa, ac, u13, u14, u15, u16, u17, u18, u19, rfl, hw⟩ := hp
      have HW := hide hw
      clear hw
      go_wp2_with fail
      refine (backwardF _ _ _ _).mono ?_
      rintro e2 w2 ⟨rfl, rfl⟩
      go_wp2_with fail
      obtain ⟨q, hq⟩ : ∃ q, W1.heap.size = q := ⟨_, rfl⟩
      refine abs_wp (fun W => WAt r D w W P g aa ac ∧ W.cell? ⟨W1.heap.size, 0, none⟩ = some (.int .i64 1) ∧ W.frozen? ⟨W1.heap.size, 0, none⟩ = false ∧ W.cell? ⟨W1.heap.size + 1, 0, none⟩ = some (.slice (some ad) r cap) ∧ W.heap.size = W1.heap.size + 1 + 1) ⟨HW.out.below (((Below.refl _ _).alloc (Nat.le_refl _) _).alloc (by simp) _), by simp [go_sem], by simp [go_sem], by simp [go_sem], by simp⟩ ?_
      rintro W ⟨hw, hc1, hf1, hcs, hsz⟩
      have gq : g < W1.heap.size := HW.out.2.2.2.2.2.2.2.1
      have Pq : P < W1.heap.size := HW.out.2.2.2.2.2.2.2.2.1
      have aq : ∀ j, (Value.slice aa r ac).ownBlock = some j → j < W1.heap.size ∧ j ≠ g := fun j hj => ⟨(HW.out.2.1.lt hj).2, (HW.out.2.2.2.2.2.2.1 j hj).1⟩
      rw [hq] at hc1 hf1 hcs hsz gq Pq aq ⊢
      clear HW hq W1
      obtain ⟨v1, v2, v3, g1, p1, hgp, hne, v8, v9, v10, v11, v12⟩ := hw
      have wq : w.heap.size < q := by omega
      have AQ := hide aq
      have NE := hide hne
      have IT := hide (backward1 (q + 1) B (some ad) r cap D (fun j => j = g ∨ j = q) W hcs (by omega) (by omega) (fun j hj => by omega) (by omega) (H.out.below (v12.mono hB)) (fun j hj => by omega) hr)
      have W00 := hide (show WhI r D w W P g q aa ac 0 from ⟨v1, v2, v3.same (fun t ht => by rw [if_neg (by omega)]), hc1, hf1, v10, v11, v12, by omega⟩)
      have HSZ := hide hsz
      clear v1 v2 v3 v8 v9 v10 v11 v12 hc1 hf1 hcs aq hne hsz
      refine range_nat (gf := 124) (lb := #[.pointer (some ⟨q + 1, 0, none⟩)]) rfl (enters_of Try.func124 (by kernel_rfl) rfl)
        (fun k => #[.int .i64 ((r : Int) - 1 - k), .int .i64 (D (r - 1 - k))]) r (fun j => j = g ∨ j = q) (fun j hj => by have := HSZ.out; omega) (fun _ => rfl) IT.out
        (fun k A => WhI r D w A P g q aa ac k) (fun k A => False)
        (fun k A X h hb => h.below (by rw [HSZ.out] at hb; exact hb) gq Pq (fun j hj => (AQ.out j hj).1) wq) (fun k A X h hb => h) W00.out
        (fun k => { tmps := #[.slice (some ad) r cap, undef, .pointer (some ⟨w.heap.size, 0, none⟩), .int .i64 (szR D r), .pointer (some ⟨P, 0, none⟩), .pointer (some ⟨q, 0, none⟩), .int .i64 ((r : Int) - 1 - k), .int .i64 (D (r - 1 - k)), .slice (some ad) r cap, .int .i64 (szR D r), .int .i64 (szR D r), .bool false, undef, u13, u14, u15, u16, u17, u18, u19, .slice (some ad) r cap, .func (.func 124) #[] #[.pointer (some ⟨q + 1, 0, none⟩)], .int .i64 ((r : Int) - 1 - k), .int .i64 (D (r - 1 - k)), undef, undef, undef, undef, undef, undef, undef, undef, undef, undef, undef], defers := [] }) ?assign ?body ?done ?stop
      case assign =>
        intro l k A K hK
        gi_wp2
        exact hK
      case body =>
        rintro l k A hwi hkr hszA
        have WIK := hide hwi
        obtain ⟨m, hm⟩ : ∃ m, r - 1 - k = m := ⟨_, rfl⟩
        have e1 : ((r : Int) - 1 - k) = (m : Int) := by omega
        have hst : (if D m = 1 then 0 else bh D r k) = stW D r m := by unfold stW; rw [show r - 1 - m = k by omega]
        dsimp only
        rw [hm, e1]
        have hmr : m < r := by omega
        have hmI : (m : Int) < r := by omega
        obtain ⟨hbx, _, hrw, hc1, hf1, _⟩ := hwi
        obtain ⟨b0, b1, b2, b3⟩ := hbx
        have c1 := (hrw m hmr).1
        have f1 := (hrw m hmr).2.1
        clear hrw
        gi_wp2
        refine wpIn_mono (Q := regPost fun a' W' => a' = { tmps := #[.slice (some ad) r cap, undef, .pointer (some ⟨w.heap.size, 0, none⟩), .int .i64 (szR D r), .pointer (some ⟨P, 0, none⟩), .pointer (some ⟨q, 0, none⟩), .int .i64 m, .int .i64 (D m), .slice (some ad) r cap, .int .i64 (szR D r), .int .i64 (szR D r), .bool false, undef, u13, u14, u15, u16, u17, u18, u19, .slice (some ad) r cap, .func (.func 124) #[] #[.pointer (some ⟨q + 1, 0, none⟩)], .int .i64 m, .int .i64 (D m), .pointer (some ⟨P, 1, none⟩), .slice (some ⟨g, 0, none⟩) r r, .int .i64 m, .int .i64 (D m), .int .i64 (bh D r k), .int .i64 (stW D r m), .pointer (some ⟨g, m, none⟩), undef, undef, undef, undef], defers := [] } ∧ W' = A.drew.setCell ⟨g, m, none⟩ (.int .i64 (stW D r m))) ?first ?rest
        case first =>
          refine region_round (by kernel_rfl) rfl (by kernel_rfl) ?_
          refine wpAnyIn_take (i := 0) (v := .pointer (some ⟨P, 1, none⟩)) rfl rfl (by kernel_rfl) (by kernel_rfl) (by kernel_rfl) (fun _ _ _ h => h) ⟨Or.inl ⟨by rfl, by intro w; go_simp⟩, fun _ => rfl⟩ ?_
          refine wpAnyIn_take (i := 2) (v := .int .i64 m) rfl rfl (by kernel_rfl) (by kernel_rfl) (by kernel_rfl) (fun _ _ _ h => h) ⟨Or.inl ⟨by rfl, by intro w; go_simp⟩, fun _ => rfl⟩ ?_
          refine wpAnyIn_take (i := 3) (v := .int .i64 (D m)) rfl rfl (by kernel_rfl) (by kernel_rfl) (by kernel_rfl) (fun _ _ _ h => h) ⟨Or.inl ⟨by rfl, by intro w; go_simp⟩, fun _ => rfl⟩ ?_
          refine wpAnyIn_ready (rs := [1, 4]) (by kernel_rfl) (by simp) ?_
          refine AllReadyIn.cons rfl (fun K hK => ?_) (AllReadyIn.cons rfl (fun K hK => ?_) AllReadyIn.nil)
          · go_simp
            refine hK _ _ ?_
            clear hK K
            refine wpAnyIn_ready (rs := [4]) (by kernel_rfl) (by simp) ?_
            refine AllReadyIn.cons rfl (fun K hK => ?_) AllReadyIn.nil
            go_simp
            refine hK _ _ ?_
            clear hK K
            refine wpAnyIn_ready (rs := [5]) (by kernel_rfl) (by simp) ?_
            refine AllReadyIn.cons rfl (fun K hK => ?_) AllReadyIn.nil
            refine stepIn_call (by rfl) 110 _ _ (by rfl) (enters_of Try.func110 (by kernel_rfl) rfl) #[.int .i64 (D m), .int .i64 (bh D r k)] (by simp [Act.eval]) (fun u w' => u = .int .i64 (stW D r m) ∧ w' = A.drew) ((strideOf _ _ _).mono (by rintro e1 w4 ⟨rfl, rfl⟩; exact ⟨_, rfl, by rw [hst], rfl⟩)) ?_
            rintro u w4 ⟨rfl, rfl⟩
            refine hK _ _ ?_
            clear hK K
            refine wpAnyIn_ready (rs := [6]) (by kernel_rfl) (by simp) ?_
            refine AllReadyIn.cons rfl (fun K hK => ?_) AllReadyIn.nil
            go_simp
            refine hK _ _ ?_
            clear hK K
            refine wpAnyIn_ready (rs := [7]) (by kernel_rfl) (by simp) ?_
            refine AllReadyIn.cons rfl (fun K hK => ?_) AllReadyIn.nil
            go_simp
            refine hK _ _ ?_
            clear hK K
            refine wpAnyIn_done (by kernel_rfl) ?_ _
            exact ⟨rfl, rfl⟩
          · go_simp
            refine hK _ _ ?_
            clear hK K
            refine wpAnyIn_ready (rs := [1, 5]) (by kernel_rfl) (by simp) ?_
            refine AllReadyIn.cons rfl (fun K hK => ?_) (AllReadyIn.cons rfl (fun K hK => ?_) AllReadyIn.nil)
            · go_simp
              refine hK _ _ ?_
              clear hK K
              refine wpAnyIn_ready (rs := [5]) (by kernel_rfl) (by simp) ?_
              refine AllReadyIn.cons rfl (fun K hK => ?_) AllReadyIn.nil
              refine stepIn_call (by rfl) 110 _ _ (by rfl) (enters_of Try.func110 (by kernel_rfl) rfl) #[.int .i64 (D m), .int .i64 (bh D r k)] (by simp [Act.eval]) (fun u w' => u = .int .i64 (stW D r m) ∧ w' = A.drew) ((strideOf _ _ _).mono (by rintro e1 w4 ⟨rfl, rfl⟩; exact ⟨_, rfl, by rw [hst], rfl⟩)) ?_
              rintro u w4 ⟨rfl, rfl⟩
              refine hK _ _ ?_
              clear hK K
              refine wpAnyIn_ready (rs := [6]) (by kernel_rfl) (by simp) ?_
              refine AllReadyIn.cons rfl (fun K hK => ?_) AllReadyIn.nil
              go_simp
              refine hK _ _ ?_
              clear hK K
              refine wpAnyIn_ready (rs := [7]) (by kernel_rfl) (by simp) ?_
              refine AllReadyIn.cons rfl (fun K hK => ?_) AllReadyIn.nil
              go_simp
              refine hK _ _ ?_
              clear hK K
              refine wpAnyIn_done (by kernel_rfl) ?_ _
              exact ⟨rfl, rfl⟩
            · refine stepIn_call (by rfl) 110 _ _ (by rfl) (enters_of Try.func110 (by kernel_rfl) rfl) #[.int .i64 (D m), .int .i64 (bh D r k)] (by simp [Act.eval]) (fun u w' => u = .int .i64 (stW D r m) ∧ w' = A.drew) ((strideOf _ _ _).mono (by rintro e1 w4 ⟨rfl, rfl⟩; exact ⟨_, rfl, by rw [hst], rfl⟩)) ?_
              rintro u w4 ⟨rfl, rfl⟩
              refine hK _ _ ?_
              clear hK K
              refine wpAnyIn_ready (rs := [1]) (by kernel_rfl) (by simp) ?_
              refine AllReadyIn.cons rfl (fun K hK => ?_) AllReadyIn.nil
              go_simp
              refine hK _ _ ?_
              clear hK K
              refine wpAnyIn_ready (rs := [6]) (by kernel_rfl) (by simp) ?_
              refine AllReadyIn.cons rfl (fun K hK => ?_) AllReadyIn.nil
              go_simp
              refine hK _ _ ?_
              clear hK K
              refine wpAnyIn_ready (rs := [7]) (by kernel_rfl) (by simp) ?_
              refine AllReadyIn.cons rfl (fun K hK => ?_) AllReadyIn.nil
              go_simp
              refine hK _ _ ?_
              clear hK K
              refine wpAnyIn_done (by kernel_rfl) ?_ _
              exact ⟨rfl, rfl⟩
        case rest =>
          rintro ex a' W' hp
          cases ex with
          | normal =>
            obtain ⟨rfl, rfl⟩ := hp
            have c2 : (A.drew.setCell ⟨g, m, none⟩ (.int .i64 (stW D r m))).cell? ⟨q, 0, none⟩ = some (.int .i64 (bh D r k)) := set_other (by show q ≠ g; omega) hc1
            have f2 : (A.drew.setCell ⟨g, m, none⟩ (.int .i64 (stW D r m))).frozen? ⟨q, 0, none⟩ = false := by rw [World.frozen?_setCell]; exact hf1
            have hwrap : IntKind.i64.wrap (bh D r k * D m) = bh D r k * D m := by
              have h1 := bh_le (fun i hi => (dok_len HD.out hi).1) (k + 1) (by omega)
              have h2 := (dok_iff.1 HD.out).2
              have e2 : bh D r (k + 1) = bh D r k * D m := by simp only [bh]; rw [hm]
              rw [e2] at h1
              rw [IntKind.wrap_i64]
              rcases szR_cases D r with e | ⟨_, e, _, e4⟩ <;> omega
            clear hst b0 b1 b2 b3 c1 f1 hc1 hf1
            generalize hW2 : A.drew.setCell ⟨g, m, none⟩ (.int .i64 (stW D r m)) = W2 at *
            have HW2 := hide hW2
            clear hW2
            gi_wp2
            rw [← HW2.out]
            exact ⟨((Kept.of_below (show Below A.heap.size A A.drew from (Below.refl _ _).drew)).trans ((Kept.setCell A.drew ⟨g, m, none⟩ _).mono (fun _ _ e => .inl e))).trans ((Kept.setCell _ ⟨q, 0, none⟩ _).mono (fun _ _ e => .inr e)), WIK.out.next (by omega) HD.out gq Pq hgp g1 AQ.out⟩
          | ret => exact hp.elim
          | exit id => exact hp.elim
          | goto t => exact hp.elim
          | panic ch => exact hp.elim
          | outgrown => exact hp.elim
      case done =>
        rintro A hwi hK
        have HK := hide hK
        have WIR := hide hwi
        obtain ⟨hbx, _, _, _, _, hbm, hgm, _, _⟩ := hwi
        have BM := hide hbm
        obtain ⟨b0, b1, b2, b3⟩ := hbx
        obtain ⟨y0, y1, y2, y3⟩ := hbm
        have gg := hgm
        unfold Free at gg
        clear hK hgm
        go_wp2_with fail
        have zz := HSZ.out
        have k4 := kept_sets4 A w.heap.size (.slice aa r ac) (.slice (some ⟨g, 0, none⟩) r r) (.int .i64 0) (.int .i64 (szR D r))
        have kp := kept_put ((((A.setCell ⟨w.heap.size, 0, none⟩ (.slice aa r ac)).setCell ⟨w.heap.size, 1, none⟩ (.slice (some ⟨g, 0, none⟩) r r)).setCell ⟨w.heap.size, 2, none⟩ (.int .i64 0)).setCell ⟨w.heap.size, 3, none⟩ (.int .i64 (szR D r))) W.heap.size (.deferred none)
        have ws : w.heap.size < A.heap.size := World.block_lt_of_cell? _ _ y0
        obtain ⟨z0, z1, z2, z3⟩ := (box_sets4 BM.out (.slice aa r ac) (.slice (some ⟨g, 0, none⟩) r r) (.int .i64 0) (.int .i64 (szR D r))).kept kp (Nat.lt_of_lt_of_le ws k4.size) (by omega)
        have kF : Kept (fun j => j = w.heap.size ∨ j = W.heap.size) A _ := (k4.mono (fun _ _ e => .inl e)).trans (kp.mono (fun _ _ e => .inr e))
        obtain ⟨_, r2, r3, _, _, _, _, r8, r9⟩ := WIR.out
        have r2' := r2.kept kF (fun j hj => by have := (AQ.out j hj).1; have := (r2.lt hj).1; omega)
        have r3' := (r3.kept kF (by omega)).same (E := stW D r) (fun t ht => by rw [if_pos (by omega)])
        obtain ⟨_, _, ea, ho⟩ := r2'.own
        injection ea with ea1 ea2 ea3
        subst ea1
        clear ea2 ea3
        refine end1 (v := .agg #[.slice aa r ac, .slice (some ⟨g, 0, none⟩) r r, .int .i64 0, .int .i64 (szR D r)]) rfl (set_obj (by show W.heap.size ≠ w.heap.size; omega) (set_obj (by show W.heap.size ≠ w.heap.size; omega) (set_obj (by show W.heap.size ≠ w.heap.size; omega) (set_obj (by show W.heap.size ≠ w.heap.size; omega) HK.out)))) (by simp [results, Try.results78, go_sem, z0, z1, z2, z3]) ?_
        rw [e.out]
        exact ⟨aa, some ⟨g, 0, none⟩, ac, r, rfl, ⟨ho.mono (by omega), .inr ⟨g, rfl, by omega, r3'⟩, fun j q1 q2 => by
          have q3 : (Value.slice aa r ac).ownBlock = some j := by obtain ⟨_, ad', e', e''⟩ := q1; rw [e']; exact congrArg some e''
          obtain ⟨_, ad', e', e''⟩ := q2
          injection e' with e'
          subst e'
          have := (NE.out j q3).1
          exact this e''.symm⟩, r8.trans (kF.below r8.size (fun j hj => by omega))⟩
      case stop =>
        rintro k A hkN hf hK
        exact hf.elim
    | ret => exact hp.elim
    | exit id => exact hp.elim
    | goto t => exact hp.elim
    | panic ch => exact hp.elim
    | outgrown => exact hp.elim
theorem whole (B : Nat) (ad : Addr) (r : Nat) (D : Nat → Int) (w : World) (h : Ints B w (some ad) r D) (hB : B ≤ w.heap.size) (hr : (r : Int) ≤ 1048576) :
    Calls Try.prog 78 #[.slice (some ad) r r] w fun e w' => ViewR w.heap.size (wholeV r D) w e w' := wholeC B ad r r D w h hB hr
end Vo
end Go.Proofs.Ytdenfcckmpkomaa
