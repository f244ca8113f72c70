/- Twice and Meet, the program's side: ranges over the places. -/
import Derived.Test.YtbepgcdfdaeecacVx
import Derived.Test.YtbepgcdfdaeecacVy
import Derived.Shelf.Abstract
namespace Go.Proofs.Ytbepgcdfdaeecac
namespace Vo
open Go.ChangeShapes Go.WideShapes Go.ChangeAt Go.RowKit Go.Joins
open Vl Vp Vr
set_option linter.unusedVariables false
attribute [local go_sem] Oper.semAt_some

theorem cnt_pos {r s : Nat} {D S : Nat → Int} {o n : Int} {k : Nat} (h : k < cnt r s D S o n) : VOk r s D S o n := by
  unfold cnt at h
  by_cases c : vok r s D S o n = true
  · exact vok_iff.1 c
  · rw [if_neg c] at h; omega
/-- a world by what is known of it -/
theorem abs_wp {P : Program} {c : Code} {Q : Exit → Act → World → Prop} {a : Act} {w0 : World} (F : World → Prop) (h0 : F w0) (h : ∀ W, F W → c.wp P Q a W) : c.wp P Q a w0 := h w0 h0
theorem below_cell {B : Nat} {A W : World} {p : Addr} {v : Value} (hb : Below B A W) (hp : p.block < B) (h : A.cell? p = some v) : W.cell? p = some v := (hb.cell hp).trans h
theorem below_mark {B : Nat} {A W : World} {p : Addr} {v : Bool} (hb : Below B A W) (hp : p.block < B) (h : A.frozen? p = v) : W.frozen? p = v := (hb.frozen hp).trans h
theorem put_cell {W : World} {D : Nat} {o : Obj} {p : Addr} {v : Value} (h : p.block ≠ D) (hc : W.cell? p = some v) : (W.putObj D o).cell? p = some v := (World.cell?_of_block (w := W) (World.putObj_heap_other h)).trans hc
theorem set_obj {W : World} {p : Addr} {u : Value} {D : Nat} {o : Option Obj} (h : D ≠ p.block) (hD : W.heap[D]? = o) : (W.setCell p u).heap[D]? = o := (Below.heap_setCell W p u D h).trans hD
theorem set_other {W : World} {p q : Addr} {u v : Value} (h : q.block ≠ p.block) (hc : W.cell? q = some v) : (W.setCell p u).cell? q = some v := (World.cell?_of_block (w := W) (Below.heap_setCell W p u q.block h)).trans hc
theorem eachPlaceF (v : Value) (v0 v1 v2 v3 : Value) (w : World) (hv : v = .agg #[v0, v1, v2, v3]) :
    Calls Try.prog 26 #[v] w fun e w' => e = .returned (.func (.func 31) #[] #[.pointer (some ⟨w.heap.size, 0, none⟩)]) ∧ w' = w.alloc (.cells #[v0, v1, v2, v3] 31) := by
  subst hv
  go_enter Try.func26, Try.ntmps26
  go_wp2_with fail
  go_ret
  exact ⟨rfl, rfl⟩
set_option maxRecDepth 100000 in
set_option maxHeartbeats 4000000 in
theorem twice (B : Nat) (a b : Option Addr) (r s cap dap : Nat) (D S : Nat → Int) (o n : Int) (w : World) (hB : B ≤ w.heap.size) (h : Ints B w a r D) (h' : Ints B w b s S) (hr : (r : Int) ≤ 1048576) (hs : (s : Int) ≤ 1048576) :
    Calls Try.prog 15 #[.agg #[.slice a r cap, .slice b s dap, .int .i64 o, .int .i64 n]] w fun e w' => e = .returned (.bool (dupB (plcN D S r o) (cnt r s D S o n))) ∧ Below w.heap.size w w' := by
  have hmk : ∀ w : World, (Instr.makeSlice 37 (.int .i64 4096) (.int .i64 4096)).run Try.prog w = .ok (.slice (some ⟨w.heap.size, 0, none⟩) 4096 4096) (w.alloc (.cells (madeCells #[.bool false] 4096) 4)) := fun w => make_bool 4096 (by omega) w
  have H := hide h
  have H' := hide h'
  clear h h'
  refine calls_marks Try.func15 rfl ?_
  simp only [Try.ntmps15, List.size_toArray, List.length_cons, List.length_nil, Nat.reduceAdd, Nat.reduceSub, Array.replicate_succ, Array.replicate_zero, List.push_toArray, List.append_toArray, List.nil_append, List.cons_append]
  go_wp2_with fail
  refine (eachPlaceF _ _ _ _ _ _ rfl).mono ?_
  rintro e w1 ⟨rfl, rfl⟩
  go_wp2_with fail
  refine abs_wp (fun W => W.heap.size = w.heap.size + 5 ∧ Below w.heap.size w W ∧ Bw W (w.heap.size + 1 + 1) 4096 (fun _ => false) ∧ W.cell? ⟨w.heap.size + 1 + 1 + 1, 0, none⟩ = some (.slice (some ⟨w.heap.size + 1 + 1, 0, none⟩) 4096 4096) ∧ W.cell? ⟨w.heap.size + 1, 0, none⟩ = some (.bool false) ∧ W.frozen? ⟨w.heap.size + 1, 0, none⟩ = false ∧ Box W (w.heap.size + 1 + 1 + 1 + 1) (.slice a r cap) (.slice b s dap) (.int .i64 o) (.int .i64 n)) ⟨by simp, ?_, ?_, by simp [go_sem], by simp [go_sem], by simp [go_sem], ?_⟩ ?_
  · exact (((((Below.refl w.heap.size w).alloc (Nat.le_refl _) _).alloc (by simp) _).alloc (by simp; omega) _).alloc (by simp; omega) _).alloc (by simp; omega) _
  · have q := bw_new ((w.alloc (.cells #[.slice a r cap, .slice b s dap, .int .i64 o, .int .i64 n] 31)).alloc (.cells #[.bool false] 4)) 4096 4
    rw [World.size_alloc, World.size_alloc] at q
    exact q.below (B := w.heap.size + 1 + 1 + 1) (((Below.refl _ _).alloc (by simp) _).alloc (by simp) _) (by omega)
  · have q := box_new ((((w.alloc (.cells #[.slice a r cap, .slice b s dap, .int .i64 o, .int .i64 n] 31)).alloc (.cells #[.bool false] 4)).alloc (.cells (madeCells #[.bool false] 4096) 4)).alloc (.cells #[.slice (some ⟨w.heap.size + 1 + 1, 0, none⟩) 4096 4096] 37)) (.slice a r cap) (.slice b s dap) (.int .i64 o) (.int .i64 n) 31
    rw [World.size_alloc, World.size_alloc, World.size_alloc, World.size_alloc] at q
    exact q
  rintro W ⟨hz, hb, hbw, hcs, hcr, hfr, hbx⟩
  have HB := hide hb
  have IT := hide (eachPlace1 (w.heap.size + 1 + 1 + 1 + 1) B a b r s cap dap D S o n (fun k => k = w.heap.size + 1 ∨ k = w.heap.size + 1 + 1) W hbx (by omega) (by omega) (fun k hk => by omega) (by omega) (H.out.below (hb.mono hB)) (H'.out.below (hb.mono hB)) (fun k hk => by omega) hr hs)
  clear hb hbx
  refine range_nat (gf := 31) (lb := #[.pointer (some ⟨w.heap.size + 1 + 1 + 1 + 1, 0, none⟩)]) rfl (enters_of Try.func31 (by kernel_rfl) rfl)
    (fun k => #[.int .i64 (o + rel D S r k)]) (cnt r s D S o n) (fun k => k = w.heap.size + 1 ∨ k = w.heap.size + 1 + 1) (fun k hk => by omega) (fun _ => rfl) IT.out
    (fun k A => dupB (plcN D S r o) k = false ∧ Bw A (w.heap.size + 1 + 1) 4096 (fun t => memB (plcN D S r o) k t) ∧ A.cell? ⟨w.heap.size + 1 + 1 + 1, 0, none⟩ = some (.slice (some ⟨w.heap.size + 1 + 1, 0, none⟩) 4096 4096) ∧ A.cell? ⟨w.heap.size + 1, 0, none⟩ = some (.bool false) ∧ A.frozen? ⟨w.heap.size + 1, 0, none⟩ = false ∧ Below w.heap.size w A)
    (fun k A => dupB (plcN D S r o) (k + 1) = true ∧ A.cell? ⟨w.heap.size + 1, 0, none⟩ = some (.bool true) ∧ Below w.heap.size w A)
    (fun k A C q hb => ⟨q.1, q.2.1.below hb (by omega), below_cell hb (by show w.heap.size + 1 + 1 + 1 < _; omega) q.2.2.1, below_cell hb (by show w.heap.size + 1 < _; omega) q.2.2.2.1, below_mark hb (by show w.heap.size + 1 < _; omega) q.2.2.2.2.1, q.2.2.2.2.2.trans (hb.mono (by omega))⟩)
    (fun k A C q hb => ⟨q.1, below_cell hb (by show w.heap.size + 1 < _; omega) q.2.1, q.2.2.trans (hb.mono (by omega))⟩)
    ⟨rfl, hbw.same (fun _ _ => rfl), hcs, hcr, hfr, HB.out⟩
    (fun k => { tmps := #[.agg #[.slice a r cap, .slice b s dap, .int .i64 o, .int .i64 n], .pointer (some ⟨w.heap.size, 0, none⟩), .pointer (some ⟨w.heap.size + 1, 0, none⟩), .pointer (some ⟨w.heap.size + 1 + 1 + 1, 0, none⟩), .int .i64 (o + rel D S r k), .slice (some ⟨w.heap.size + 1 + 1, 0, none⟩) 4096 4096, .agg #[.slice a r cap, .slice b s dap, .int .i64 o, .int .i64 n], .func (.func 31) #[] #[.pointer (some ⟨w.heap.size + 1 + 1 + 1 + 1, 0, none⟩)], .int .i64 (o + rel D S r k), undef, undef, undef, undef, undef, undef, undef], defers := [] }) ?assign ?body ?done ?stop
  case assign =>
    intro l k A K hK
    gi_wp2
    exact hK
  case body =>
    rintro l k A ⟨hd, hbw, hcs, hcr, hfr, hb⟩ hkN hsz
    have V := hide (cnt_pos hkN)
    have pl := V.out.place k
    obtain ⟨j, hj⟩ := Int.eq_ofNat_of_zero_le pl.1
    have hjn : j < 4096 := by have := pl.2; have := V.out.2.2.2.1; omega
    have ej := hide (show plcN D S r o k = j from hj)
    have jI : (j : Int) < 4096 := by omega
    obtain ⟨c2, f2⟩ := hbw j hjn
    dsimp only at c2
    have DU := hide hd
    have HW := hide hbw
    have HB := hide hb
    have HK := hide hkN
    clear hd hbw hb pl hkN
    rw [hj]
    clear hj
    cases hm : memB (plcN D S r o) k j with
    | true =>
      rw [hm] at c2
      have e := hide (show dupB (plcN D S r o) (k + 1) = true by simp only [dupB]; rw [ej.out, hm]; simp)
      clear hm
      gi_wp2
      exact ⟨(Kept.setCell A ⟨w.heap.size + 1, 0, none⟩ _).mono (fun _ _ e => .inl e), e.out, World.cell?_setCell_same _ _ _ hcr, HB.out.setCell (p := ⟨w.heap.size + 1, 0, none⟩) (by show w.heap.size ≤ w.heap.size + 1; omega) _⟩
    | false =>
      rw [hm] at c2
      have e := hide (show dupB (plcN D S r o) (k + 1) = false by simp only [dupB]; rw [ej.out, hm, DU.out]; rfl)
      clear hm
      gi_wp2
      exact ⟨(Kept.setCell A ⟨w.heap.size + 1 + 1, j, none⟩ _).mono (fun _ _ e => .inr e), e.out, (HW.out.set j).same (fun t _ => memB_step _ k j ej.out t), set_other (by show w.heap.size + 1 + 1 + 1 ≠ w.heap.size + 1 + 1; omega) hcs, set_other (by show w.heap.size + 1 ≠ w.heap.size + 1 + 1; omega) hcr, by rw [World.frozen?_setCell]; exact hfr, HB.out.setCell (p := ⟨w.heap.size + 1 + 1, j, none⟩) (by show w.heap.size ≤ w.heap.size + 1 + 1; omega) _⟩
  case done =>
    rintro A ⟨hd, hbw, hcs, hcr, hfr, hb⟩ hK
    have HD := hide hd
    have HB := hide hb
    clear hd hb hbw
    go_wp2_with fail
    have hc : ((A.setCell ⟨w.heap.size + 1, 0, none⟩ (.bool false)).putObj W.heap.size (.deferred none)).cell? ⟨w.heap.size + 1, 0, none⟩ = some (.bool false) := put_cell (by show w.heap.size + 1 ≠ _; omega) (World.cell?_setCell_same _ _ _ hcr)
    refine end1 (v := .bool false) rfl (set_obj (by show _ ≠ w.heap.size + 1; omega) hK) (by simp [results, Try.results15, go_sem, hc]) ⟨ret_bool HD.out.symm, (HB.out.setCell (p := ⟨w.heap.size + 1, 0, none⟩) (by show w.heap.size ≤ w.heap.size + 1; omega) _).trans (below_put _ _ _ (by omega))⟩
  case stop =>
    rintro k A hkN ⟨hd, hcr, hb⟩ hK
    have HD := hide (dupB_mono hd hkN)
    have HB := hide hb
    clear hd hb
    go_wp2_with fail
    have hc : (A.putObj W.heap.size (.deferred none)).cell? ⟨w.heap.size + 1, 0, none⟩ = some (.bool true) := put_cell (by show w.heap.size + 1 ≠ _; omega) hcr
    exact end1 (v := .bool true) rfl hK (by simp [results, Try.results15, go_sem, hc]) ⟨ret_bool HD.out.symm, HB.out.trans (below_put _ _ _ (by omega))⟩
end Vo
end Go.Proofs.Ytbepgcdfdaeecac
