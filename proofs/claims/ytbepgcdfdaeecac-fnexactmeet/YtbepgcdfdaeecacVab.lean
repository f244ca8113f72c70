/- Meet, the program's side. -/
import Derived.Test.YtbepgcdfdaeecacVaa
namespace Go.Proofs.Ytbepgcdfdaeecac
namespace Vo
open Go.ChangeShapes Go.WideShapes Go.ChangeAt Go.RowKit Go.Joins
open Vl Vp Vr
set_option linter.unusedVariables false
attribute [local go_sem] Oper.semAt_some

set_option maxRecDepth 100000 in
set_option maxHeartbeats 4000000 in
theorem meet (B : Nat) (a b a' b' : Option Addr) (r s r' s' cap dap cap' dap' : Nat) (D S D' S' : Nat → Int) (o n o' n' : Int) (w : World) (hB : B ≤ w.heap.size) (h : Ints B w a r D) (h' : Ints B w b s S) (k : Ints B w a' r' D') (k' : Ints B w b' s' S')
    (hr : (r : Int) ≤ 1048576) (hs : (s : Int) ≤ 1048576) (hr' : (r' : Int) ≤ 1048576) (hs' : (s' : Int) ≤ 1048576) :
    Calls Try.prog 18 #[.agg #[.slice a r cap, .slice b s dap, .int .i64 o, .int .i64 n], .agg #[.slice a' r' cap', .slice b' s' dap', .int .i64 o', .int .i64 n']] w fun e w' => e = .returned (.bool (mt r s D S o n r' s' D' S' o' n')) ∧ Below w.heap.size w w' := by
  have hmk : ∀ w : World, (Instr.makeSlice 37 (.int .i64 4096) (.int .i64 4096)).run Try.prog w = .ok (.slice (some ⟨w.heap.size, 0, none⟩) 4096 4096) (w.alloc (.cells (madeCells #[.bool false] 4096) 4)) := fun w => make_bool 4096 (by omega) w
  have H := hide h
  have H' := hide h'
  have K := hide k
  have K' := hide k'
  clear h h' k k'
  by_cases hn : n ≠ n'
  · have hn' : (n != n') = true := by rw [bne_iff_ne]; exact hn
    have e := hide (mt_base (r := r) (s := s) (D := D) (S := S) (o := o) (r' := r') (s' := s') (D' := D') (S' := S') (o' := o') hn)
    clear hn
    refine calls_marks Try.func18 rfl ?_
    simp only [Try.ntmps18, List.size_toArray, List.length_cons, List.length_nil, Nat.reduceAdd, Nat.reduceSub, Array.replicate_succ, Array.replicate_zero, List.push_toArray, List.append_toArray, List.nil_append, List.cons_append]
    go_wp2_with fail
    exact end0 (v := .bool false) rfl (by simp [results, Try.results18, go_sem]) ⟨ret_bool e.out.symm, (((Below.refl w.heap.size w).alloc (Nat.le_refl _) _).alloc (by simp) _).alloc (by simp; omega) _⟩
  obtain rfl : n = n' := by omega
  clear hn
  have MT := hide (show mt r s D S o n r' s' D' S' o' n = metB (plcN D S r o) (cnt r s D S o n) (plcN D' S' r' o') (cnt r' s' D' S' o' n) by unfold mt; rw [if_pos rfl]; rfl)
  refine calls_marks Try.func18 rfl ?_
  simp only [Try.ntmps18, List.size_toArray, List.length_cons, List.length_nil, Nat.reduceAdd, Nat.reduceSub, Array.replicate_succ, Array.replicate_zero, List.push_toArray, List.append_toArray, List.nil_append, List.cons_append]
  go_wp2_with fail
  refine (eachPlaceF _ _ _ _ _ _ rfl).mono ?_
  rintro e w1 ⟨rfl, rfl⟩
  go_wp2_with fail
  refine abs_wp (fun W => W.heap.size = w.heap.size + 6 ∧ Below w.heap.size w W ∧ Bw W (w.heap.size + 1 + 1 + 1) 4096 (fun _ => false) ∧ W.cell? ⟨w.heap.size + 1 + 1 + 1 + 1, 0, none⟩ = some (.slice (some ⟨w.heap.size + 1 + 1 + 1, 0, none⟩) 4096 4096) ∧ W.cell? ⟨w.heap.size + 1 + 1, 0, none⟩ = some (.bool false) ∧ W.frozen? ⟨w.heap.size + 1 + 1, 0, none⟩ = false ∧ Box W (w.heap.size + 1) (.slice a' r' cap') (.slice b' s' dap') (.int .i64 o') (.int .i64 n) ∧ Box W (w.heap.size + 1 + 1 + 1 + 1 + 1) (.slice a r cap) (.slice b s dap) (.int .i64 o) (.int .i64 n)) ⟨by simp, ?_, ?_, by simp [go_sem], by simp [go_sem], by simp [go_sem], ?_, ?_⟩ ?_
  · exact ((((((Below.refl w.heap.size w).alloc (Nat.le_refl _) _).alloc (by simp) _).alloc (by simp; omega) _).alloc (by simp; omega) _).alloc (by simp; omega) _).alloc (by simp; omega) _
  · have q := bw_new (((w.alloc (.cells #[.slice a r cap, .slice b s dap, .int .i64 o, .int .i64 n] 31)).alloc (.cells #[.slice a' r' cap', .slice b' s' dap', .int .i64 o', .int .i64 n] 31)).alloc (.cells #[.bool false] 4)) 4096 4
    rw [World.size_alloc, World.size_alloc, World.size_alloc] at q
    exact q.below (B := w.heap.size + 1 + 1 + 1 + 1) (((Below.refl _ _).alloc (by simp) _).alloc (by simp) _) (by omega)
  · have q := box_new (w.alloc (.cells #[.slice a r cap, .slice b s dap, .int .i64 o, .int .i64 n] 31)) (.slice a' r' cap') (.slice b' s' dap') (.int .i64 o') (.int .i64 n) 31
    rw [World.size_alloc] at q
    exact q.below (B := w.heap.size + 1 + 1) (((((Below.refl _ _).alloc (by simp) _).alloc (by simp) _).alloc (by simp) _).alloc (by simp) _) (by omega)
  · have q := box_new (((((w.alloc (.cells #[.slice a r cap, .slice b s dap, .int .i64 o, .int .i64 n] 31)).alloc (.cells #[.slice a' r' cap', .slice b' s' dap', .int .i64 o', .int .i64 n] 31)).alloc (.cells #[.bool false] 4)).alloc (.cells (madeCells #[.bool false] 4096) 4)).alloc (.cells #[.slice (some ⟨w.heap.size + 1 + 1 + 1, 0, none⟩) 4096 4096] 37)) (.slice a r cap) (.slice b s dap) (.int .i64 o) (.int .i64 n) 31
    rw [World.size_alloc, World.size_alloc, World.size_alloc, World.size_alloc, World.size_alloc] at q
    exact q
  rintro W ⟨hz, hb, hbw, hcs, hcr, hfr, hbx2, hbx⟩
  have hz1 := Nat.le_of_eq hz
  have hz2 := Nat.le_of_eq hz.symm
  clear hz
  have HB := hide hb
  have IT := hide (eachPlace1 (w.heap.size + 1 + 1 + 1 + 1 + 1) B a b r s cap dap D S o n (fun k => k = w.heap.size + 1 + 1 + 1) W hbx (by omega) (by omega) (fun k hk => by omega) (by omega) (H.out.below (hb.mono hB)) (H'.out.below (hb.mono hB)) (fun k hk => by omega) hr hs)
  clear hb hbx
  refine range_nat (gf := 31) (lb := #[.pointer (some ⟨w.heap.size + 1 + 1 + 1 + 1 + 1, 0, none⟩)]) rfl (enters_of Try.func31 (by kernel_rfl) rfl)
    (fun k => #[.int .i64 (o + rel D S r k)]) (cnt r s D S o n) (fun k => k = w.heap.size + 1 + 1 + 1) (fun k hk => by omega) (fun _ => rfl) IT.out
    (fun k A => Bw A (w.heap.size + 1 + 1 + 1) 4096 (fun t => memB (plcN D S r o) k t) ∧ A.cell? ⟨w.heap.size + 1 + 1 + 1 + 1, 0, none⟩ = some (.slice (some ⟨w.heap.size + 1 + 1 + 1, 0, none⟩) 4096 4096) ∧ A.cell? ⟨w.heap.size + 1 + 1, 0, none⟩ = some (.bool false) ∧ A.frozen? ⟨w.heap.size + 1 + 1, 0, none⟩ = false ∧ Box A (w.heap.size + 1) (.slice a' r' cap') (.slice b' s' dap') (.int .i64 o') (.int .i64 n) ∧ W.heap.size ≤ A.heap.size ∧ Below w.heap.size w A)
    (fun k A => False)
    (fun k A C q hb => ⟨q.1.below hb (by omega), below_cell hb (by show w.heap.size + 1 + 1 + 1 + 1 < _; omega) q.2.1, below_cell hb (by show w.heap.size + 1 + 1 < _; omega) q.2.2.1, below_mark hb (by show w.heap.size + 1 + 1 < _; omega) q.2.2.2.1, q.2.2.2.2.1.below hb (by omega), Nat.le_trans q.2.2.2.2.2.1 hb.size, q.2.2.2.2.2.2.trans (hb.mono (by omega))⟩)
    (fun k A C q hb => q)
    ⟨hbw.same (fun _ _ => rfl), hcs, hcr, hfr, hbx2, Nat.le_refl _, HB.out⟩
    (fun k => { tmps := #[.agg #[.slice a r cap, .slice b s dap, .int .i64 o, .int .i64 n], .agg #[.slice a' r' cap', .slice b' s' dap', .int .i64 o', .int .i64 n], .pointer (some ⟨w.heap.size, 0, none⟩), .pointer (some ⟨w.heap.size + 1, 0, none⟩), .pointer (some ⟨w.heap.size + 1 + 1, 0, none⟩), .pointer (some ⟨w.heap.size + 1 + 1 + 1 + 1, 0, none⟩), .int .i64 (o + rel D S r k), undef, .pointer (some ⟨w.heap.size, 3, none⟩), .int .i64 n, .pointer (some ⟨w.heap.size + 1, 3, none⟩), .int .i64 n, .bool false, .slice (some ⟨w.heap.size + 1 + 1 + 1, 0, none⟩) 4096 4096, .agg #[.slice a r cap, .slice b s dap, .int .i64 o, .int .i64 n], .func (.func 31) #[] #[.pointer (some ⟨w.heap.size + 1 + 1 + 1 + 1 + 1, 0, none⟩)], .int .i64 (o + rel D S r k), undef, undef, undef, undef, undef, undef, undef, undef, undef, undef], defers := [] }) ?assign ?body ?done ?stop
  case assign =>
    intro l k A K hK
    gi_wp2
    exact hK
  case body =>
    rintro l k A ⟨hbw, hcs, hcr, hfr, hbx, hsA, hb⟩ hkN hsz
    have V := hide (cnt_pos hkN)
    have pl := V.out.place k
    obtain ⟨j, hj⟩ := Int.eq_ofNat_of_zero_le pl.1
    have hjn : j < 4096 := by have := pl.2; have := V.out.2.2.2.1; omega
    have ej := hide (show plcN D S r o k = j from hj)
    have jI : (j : Int) < 4096 := by omega
    obtain ⟨c2, f2⟩ := hbw j hjn
    have HW := hide hbw
    have HB := hide hb
    have HX := hide hbx
    clear hbw hb pl hkN hbx
    rw [hj]
    clear hj
    gi_wp2
    exact ⟨(Kept.setCell A ⟨w.heap.size + 1 + 1 + 1, j, none⟩ _), (HW.out.set j).same (fun t _ => memB_step _ k j ej.out t), set_other (by show w.heap.size + 1 + 1 + 1 + 1 ≠ w.heap.size + 1 + 1 + 1; omega) hcs, set_other (by show w.heap.size + 1 + 1 ≠ w.heap.size + 1 + 1 + 1; omega) hcr, by rw [World.frozen?_setCell]; exact hfr, HX.out.kept (Kept.setCell A ⟨w.heap.size + 1 + 1 + 1, j, none⟩ (.bool true)) (by omega) (by show w.heap.size + 1 ≠ w.heap.size + 1 + 1 + 1; omega), by simpa [World.setCell] using hsA, HB.out.setCell (p := ⟨w.heap.size + 1 + 1 + 1, j, none⟩) (by show w.heap.size ≤ w.heap.size + 1 + 1 + 1; omega) _⟩
  case stop =>
    rintro k A hkN hf hK
    exact hf.elim
  case done =>
    rintro A ⟨hbw, hcs, hcr, hfr, hbx, hsA, hb⟩ hK
    have HW := hide hbw
    have HB := hide hb
    have HX := hide hbx
    have HK := hide hK
    have HC := hide hcs
    have HR := hide hcr
    have HF := hide hfr
    obtain ⟨y0, y1, y2, y3⟩ := hbx
    have zW : W.heap.size < A.heap.size := (Array.getElem?_eq_some_iff.1 hK).1
    clear hbw hb hK
    go_wp2_with fail
    refine (eachPlaceF _ _ _ _ _ _ rfl).mono ?_
    rintro e w1 ⟨rfl, rfl⟩
    clear y0 y1 y2 y3 hcs hcr hfr
    go_wp2_with fail
    have bA := hide (show Below A.heap.size A (A.alloc (.cells #[.slice a' r' cap', .slice b' s' dap', .int .i64 o', .int .i64 n] 31)) from (Below.refl _ _).alloc (Nat.le_refl _) _)
    refine abs_wp (fun X => X.heap.size = A.heap.size + 1 ∧ Below A.heap.size A X ∧ Box X A.heap.size (.slice a' r' cap') (.slice b' s' dap') (.int .i64 o') (.int .i64 n)) ⟨by simp, bA.out, box_new A _ _ _ _ _⟩ ?_
    rintro X ⟨hzX, hbX, hbx⟩
    have hzX1 := Nat.le_of_eq hzX
    have hzX2 := Nat.le_of_eq hzX.symm
    clear hzX
    have HBX := hide hbX
    have B2 := hide (HB.out.trans (hbX.mono (by omega)))
    have IT2 := hide (eachPlace1 A.heap.size B a' b' r' s' cap' dap' D' S' o' n (fun k => k = w.heap.size + 1 + 1) X hbx (by omega) (by omega) (fun k hk => by omega) (by omega) (K.out.below (B2.out.mono hB)) (K'.out.below (B2.out.mono hB)) (fun k hk => by omega) hr' hs')
    clear hbX hbx
    refine range_nat (gf := 31) (lb := #[.pointer (some ⟨A.heap.size, 0, none⟩)]) rfl (enters_of Try.func31 (by kernel_rfl) rfl)
      (fun k => #[.int .i64 (o' + rel D' S' r' k)]) (cnt r' s' D' S' o' n) (fun k => k = w.heap.size + 1 + 1) (fun k hk => by omega) (fun _ => rfl) IT2.out
      (fun k C => metB (plcN D S r o) (cnt r s D S o n) (plcN D' S' r' o') k = false ∧ Bw C (w.heap.size + 1 + 1 + 1) 4096 (fun t => memB (plcN D S r o) (cnt r s D S o n) t) ∧ C.cell? ⟨w.heap.size + 1 + 1 + 1 + 1, 0, none⟩ = some (.slice (some ⟨w.heap.size + 1 + 1 + 1, 0, none⟩) 4096 4096) ∧ C.cell? ⟨w.heap.size + 1 + 1, 0, none⟩ = some (.bool false) ∧ C.frozen? ⟨w.heap.size + 1 + 1, 0, none⟩ = false ∧ C.heap[W.heap.size]? = some (.deferred (some [])) ∧ Below w.heap.size w C)
      (fun k C => metB (plcN D S r o) (cnt r s D S o n) (plcN D' S' r' o') (k + 1) = true ∧ C.cell? ⟨w.heap.size + 1 + 1, 0, none⟩ = some (.bool true) ∧ C.heap[W.heap.size]? = some (.deferred (some [])) ∧ Below w.heap.size w C)
      (fun k C F q hb => ⟨q.1, q.2.1.below hb (by omega), below_cell hb (by show w.heap.size + 1 + 1 + 1 + 1 < _; omega) q.2.2.1, below_cell hb (by show w.heap.size + 1 + 1 < _; omega) q.2.2.2.1, below_mark hb (by show w.heap.size + 1 + 1 < _; omega) q.2.2.2.2.1, (hb.block _ (by omega)).trans q.2.2.2.2.2.1, q.2.2.2.2.2.2.trans (hb.mono (by omega))⟩)
      (fun k C F q hb => ⟨q.1, below_cell hb (by show w.heap.size + 1 + 1 < _; omega) q.2.1, (hb.block _ (by omega)).trans q.2.2.1, q.2.2.2.trans (hb.mono (by omega))⟩)
      ⟨rfl, HW.out.below HBX.out (by omega), below_cell HBX.out (by show w.heap.size + 1 + 1 + 1 + 1 < _; omega) HC.out, below_cell HBX.out (by show w.heap.size + 1 + 1 < _; omega) HR.out, below_mark HBX.out (by show w.heap.size + 1 + 1 < _; omega) HF.out, (HBX.out.block _ zW).trans HK.out, B2.out⟩
      (fun k => { tmps := #[.agg #[.slice a r cap, .slice b s dap, .int .i64 o, .int .i64 n], .agg #[.slice a' r' cap', .slice b' s' dap', .int .i64 o', .int .i64 n], .pointer (some ⟨w.heap.size, 0, none⟩), .pointer (some ⟨w.heap.size + 1, 0, none⟩), .pointer (some ⟨w.heap.size + 1 + 1, 0, none⟩), .pointer (some ⟨w.heap.size + 1 + 1 + 1 + 1, 0, none⟩), undef, .int .i64 (o' + rel D' S' r' k), .pointer (some ⟨w.heap.size, 3, none⟩), .int .i64 n, .pointer (some ⟨w.heap.size + 1, 3, none⟩), .int .i64 n, .bool false, .slice (some ⟨w.heap.size + 1 + 1 + 1, 0, none⟩) 4096 4096, .agg #[.slice a r cap, .slice b s dap, .int .i64 o, .int .i64 n], .func (.func 31) #[] #[.pointer (some ⟨w.heap.size + 1 + 1 + 1 + 1 + 1, 0, none⟩)], undef, undef, undef, undef, .agg #[.slice a' r' cap', .slice b' s' dap', .int .i64 o', .int .i64 n], .func (.func 31) #[] #[.pointer (some ⟨A.heap.size, 0, none⟩)], .int .i64 (o' + rel D' S' r' k), undef, undef, undef, undef], defers := [] }) ?assign ?body ?done ?stop
    case assign =>
      intro l k A K hK
      gi_wp2
      exact hK
    case body =>
      rintro l k C ⟨hd, hbw, hcs, hcr, hfr, hK, hb⟩ hkN hsz
      have V := hide (cnt_pos hkN)
      have pl := V.out.place k
      obtain ⟨j, hj⟩ := Int.eq_ofNat_of_zero_le pl.1
      have hjn : j < 4096 := by have := pl.2; have := V.out.2.2.2.1; omega
      have ej := hide (show plcN D' S' r' o' k = j from hj)
      have jI : (j : Int) < 4096 := by omega
      obtain ⟨c2, f2⟩ := hbw j hjn
      dsimp only at c2
      have DU := hide hd
      have HW := hide hbw
      have HB := hide hb
      have HKK := hide hK
      clear hd hbw hb pl hkN hK
      rw [hj]
      clear hj
      cases hm : memB (plcN D S r o) (cnt r s D S o n) j with
      | true =>
        rw [hm] at c2
        have e := hide (show metB (plcN D S r o) (cnt r s D S o n) (plcN D' S' r' o') (k + 1) = true by simp only [metB]; rw [ej.out, hm]; simp)
        clear hm
        gi_wp2
        exact ⟨(Kept.setCell C ⟨w.heap.size + 1 + 1, 0, none⟩ _), e.out, World.cell?_setCell_same _ _ _ hcr, set_obj (by show _ ≠ w.heap.size + 1 + 1; omega) HKK.out, HB.out.setCell (p := ⟨w.heap.size + 1 + 1, 0, none⟩) (by show w.heap.size ≤ w.heap.size + 1 + 1; omega) _⟩
      | false =>
        rw [hm] at c2
        have e := hide (show metB (plcN D S r o) (cnt r s D S o n) (plcN D' S' r' o') (k + 1) = false by simp only [metB]; rw [ej.out, hm, DU.out]; rfl)
        clear hm
        gi_wp2
        exact ⟨Kept.refl _ _, e.out, HW.out, hcs, hcr, hfr, HKK.out, HB.out⟩
    case done =>
      rintro C ⟨hd, hbw, hcs, hcr, hfr, hK, hb⟩ hK2
      have HD := hide (show mt r s D S o n r' s' D' S' o' n = false by rw [MT.out]; exact hd)
      have HB := hide hb
      have HKK := hide hK
      have HKK2 := hide hK2
      clear hd hb hbw hK hK2
      go_wp2_with fail
      have hc : (((C.setCell ⟨w.heap.size + 1 + 1, 0, none⟩ (.bool false)).putObj X.heap.size (.deferred none)).putObj W.heap.size (.deferred none)).cell? ⟨w.heap.size + 1 + 1, 0, none⟩ = some (.bool false) := put_cell (by show w.heap.size + 1 + 1 ≠ _; omega) (put_cell (by show w.heap.size + 1 + 1 ≠ _; omega) (World.cell?_setCell_same _ _ _ hcr))
      exact end2 (v := .bool false) rfl (set_obj (by show _ ≠ w.heap.size + 1 + 1; omega) HKK2.out) (set_obj (by show _ ≠ w.heap.size + 1 + 1; omega) HKK.out) (by omega) (by simp [results, Try.results18, go_sem, hc]) ⟨ret_bool HD.out.symm, ((HB.out.setCell (p := ⟨w.heap.size + 1 + 1, 0, none⟩) (by show w.heap.size ≤ w.heap.size + 1 + 1; omega) _).trans (below_put _ _ _ (by omega))).trans (below_put _ _ _ (by omega))⟩
    case stop =>
      rintro k C hkN ⟨hd, hcr, hK, hb⟩ hK2
      have HD := hide (show mt r s D S o n r' s' D' S' o' n = true by rw [MT.out]; exact metB_mono hd hkN)
      have HB := hide hb
      have HKK := hide hK
      have HKK2 := hide hK2
      clear hd hb hK hK2
      go_wp2_with fail
      have hc : ((C.putObj X.heap.size (.deferred none)).putObj W.heap.size (.deferred none)).cell? ⟨w.heap.size + 1 + 1, 0, none⟩ = some (.bool true) := put_cell (by show w.heap.size + 1 + 1 ≠ _; omega) (put_cell (by show w.heap.size + 1 + 1 ≠ _; omega) hcr)
      exact end2 (v := .bool true) rfl HKK2.out HKK.out (by omega) (by simp [results, Try.results18, go_sem, hc]) ⟨ret_bool HD.out.symm, (HB.out.trans (below_put _ _ _ (by omega))).trans (below_put _ _ _ (by omega))⟩
end Vo
end Go.Proofs.Ytbepgcdfdaeecac
