/- Lemmas for the proof of the law. -/
import Derived.Test.YtejfodkobfdelaaMgag
import Derived.Shelf.Abstract
import Derived.Test.YtejfodkobfdelaaMgae
/- Twice and Meet, the program's side: ranges over the places. -/
namespace Go.Proofs.Ytejfodkobfdelaa
namespace Vo
open Go.ChangeShapes Go.WideShapes Go.ChangeAt Go.RowKit Go.Joins
open Vl Vp Vr
set_option linter.unusedVariables false
attribute [local go_sem] Oper.semAt_some

theorem cnt_pos {r s : Nat} {D S : Nat → Int} {o n : Int} {k : Nat} (h : k < cnt r s D S o n) : VOk r s D S o n := by
  unfold cnt at h
  by_cases c : vok r s D S o n = true
  · exact vok_iff.1 c
  · rw [if_neg c] at h; omega
/-- a world by what is known of it -/
theorem abs_wp {P : Program} {c : Code} {Q : Exit → Act → World → Prop} {a : Act} {w0 : World} (F : World → Prop) (h0 : F w0) (h : ∀ W, F W → c.wp P Q a W) : c.wp P Q a w0 := h w0 h0
theorem below_cell {B : Nat} {A W : World} {p : Addr} {v : Value} (hb : Below B A W) (hp : p.block < B) (h : A.cell? p = some v) : W.cell? p = some v := (hb.cell hp).trans h
theorem below_mark {B : Nat} {A W : World} {p : Addr} {v : Bool} (hb : Below B A W) (hp : p.block < B) (h : A.frozen? p = v) : W.frozen? p = v := (hb.frozen hp).trans h
theorem put_cell {W : World} {D : Nat} {o : Obj} {p : Addr} {v : Value} (h : p.block ≠ D) (hc : W.cell? p = some v) : (W.putObj D o).cell? p = some v := (World.cell?_of_block (w := W) (World.putObj_heap_other h)).trans hc
theorem set_obj {W : World} {p : Addr} {u : Value} {D : Nat} {o : Option Obj} (h : D ≠ p.block) (hD : W.heap[D]? = o) : (W.setCell p u).heap[D]? = o := (Below.heap_setCell W p u D h).trans hD
theorem set_other {W : World} {p q : Addr} {u v : Value} (h : q.block ≠ p.block) (hc : W.cell? q = some v) : (W.setCell p u).cell? q = some v := (World.cell?_of_block (w := W) (Below.heap_setCell W p u q.block h)).trans hc
theorem eachPlaceF (v : Value) (v0 v1 v2 v3 : Value) (w : World) (hv : v = .agg #[v0, v1, v2, v3]) :
    Calls Try.prog 98 #[v] w fun e w' => e = .returned (.func (.func 102) #[] #[.pointer (some ⟨w.heap.size, 0, none⟩)]) ∧ w' = w.alloc (.cells #[v0, v1, v2, v3] 26) := by
  subst hv
  go_enter Try.func98, Try.ntmps98
  go_wp2_with fail
  go_ret
  exact ⟨rfl, rfl⟩
end Vo
end Go.Proofs.Ytejfodkobfdelaa

/- Places on both sides. -/
namespace Go.Proofs.Ytejfodkobfdelaa
namespace Vo
open Go.ChangeShapes Go.WideShapes Go.ChangeAt Go.RowKit Go.Joins
open Vl Vp Vr
set_option linter.unusedVariables false
attribute [local go_sem] Oper.semAt_some

/-- a list that is answered -/
def Lists (B : Nat) (r : Nat) (D : Nat → Int) (w : World) (e : Ending) (w' : World) : Prop := ∃ a c, e = .returned (.slice a r c) ∧ OwnL B w' a r D ∧ Below w.heap.size w w'
theorem lists_no {B r : Nat} {D : Nat → Int} {w w' : World} {a : Option Addr} {c : Nat} (h : r = 0) (hb : Below w.heap.size w w') : Lists B r D w (.returned (.slice a 0 c)) w' := by
  subst h; exact ⟨a, c, rfl, .inl rfl, hb⟩
theorem kept_grown {w w' : World} {g : Nat} (h : w.grownBy w' (some g)) : Kept (· = g) w w' := ⟨h.os, h.tape, h.output, h.size, fun k hk hn => h.block k hk (by intro e; injection e with e; exact hn e)⟩
theorem grown_set (w : World) (p : Addr) (u : Value) : w.grownBy (w.setCell p u) (some p.block) := ⟨rfl, rfl, rfl, by simp [World.setCell], fun k _ hn => Below.heap_setCell _ _ _ _ (by intro e; exact hn (by rw [e]))⟩
theorem plcN_bd {r s : Nat} {D S : Nat → Int} {o n : Int} (h : VOk r s D S o n) (k : Nat) : bd (plcN D S r o k) := by
  have := h.place k
  have := h.2.2.2.1
  unfold bd plcN; omega
theorem make_room (C : Nat) (hr : (C : Int) ≤ 4194304) (w : World) : (Instr.makeSlice 22 (.int .i64 0) (.int .i64 C)).run Try.prog w = .ok (.slice (some ⟨w.heap.size, 0, none⟩) 0 C) (w.alloc (.cells (madeCells #[.int .i64 0] C) 3)) := by
  obtain ⟨i, h1, hz, hs, hb⟩ := info_parts infoInt
  have := run_make (P := Try.prog) w 22 3 i (.int .i64 0) Try.underlying22 h1 hz .i64 .i64 0 C (by omega) (by omega) (by rw [hb]; omega) (by omega)
  rw [hs] at this
  simpa [Value.cells] using this
set_option maxRecDepth 100000 in
set_option maxHeartbeats 4000000 in
theorem places (B : Nat) (a b : Option Addr) (r s cap dap : Nat) (D S : Nat → Int) (o n : Int) (w : World) (hB : B ≤ w.heap.size) (h : Ints B w a r D) (h' : Ints B w b s S) (hr : (r : Int) ≤ 1048576) (hs : (s : Int) ≤ 1048576) :
    Calls Try.prog 86 #[.agg #[.slice a r cap, .slice b s dap, .int .i64 o, .int .i64 n]] w fun e w' => Lists w.heap.size (cnt r s D S o n) (plcN D S r o) w e w' := by
  obtain ⟨i0, hi0, hz0, hz1, hz2⟩ := info_parts infoInt
  obtain ⟨C, hC⟩ : ∃ C : Nat, sz r D = C := ⟨(sz r D).toNat, by have : 0 ≤ sz r D := (by unfold sz; split; omega; exact (szR_rng D r).1); omega⟩
  have c4 : (C : Int) ≤ 4096 := by rw [← hC]; unfold sz; split; omega; exact (szR_rng D r).2
  have hmk := make_room C (by omega)
  have NC := hide (show cnt r s D S o n ≤ C by
    unfold cnt
    split
    · next hv =>
      have hd := (vok_iff.1 hv).1
      have := (dok_iff.1 hd).1
      have e : sz r D = szR D r := by unfold sz; rw [if_neg (by omega)]
      omega
    · omega)
  have H := hide h
  have H' := hide h'
  have HC := hide hC
  clear h h' hC
  refine calls_marks Try.func86 rfl ?_
  simp only [Try.ntmps86, List.size_toArray, List.length_cons, List.length_nil, Nat.reduceAdd, Nat.reduceSub, Array.replicate_succ, Array.replicate_zero, List.push_toArray, List.append_toArray, List.nil_append, List.cons_append]
  go_wp2_with fail
  refine (Vs.sizeOf B a r cap D _ (H.out.below (((Below.refl w.heap.size w).alloc (Nat.le_refl _) _).mono hB)) hr).mono ?_
  rintro e w1 ⟨rfl, rfl⟩
  rw [HC.out]
  go_wp2_with fail
  refine (eachPlaceF _ _ _ _ _ _ rfl).mono ?_
  rintro e w1 ⟨rfl, rfl⟩
  go_wp2_with fail
  refine abs_wp (fun W => W.heap.size = w.heap.size + 4 ∧ Below w.heap.size w W ∧ W.ownsRow (w.heap.size + 1) 3 1 (.slice (some ⟨w.heap.size + 1, 0, none⟩) 0 C) 0 [] ∧ W.cell? ⟨w.heap.size + 1 + 1, 0, none⟩ = some (.slice (some ⟨w.heap.size + 1, 0, none⟩) 0 C) ∧ W.frozen? ⟨w.heap.size + 1 + 1, 0, none⟩ = false ∧ Box W (w.heap.size + 1 + 1 + 1) (.slice a r cap) (.slice b s dap) (.int .i64 o) (.int .i64 n)) ⟨by simp, ?_, ?_, by simp [go_sem], by simp [go_sem], ?_⟩ ?_
  · exact ((((Below.refl w.heap.size w).alloc (Nat.le_refl _) _).alloc (by simp) _).alloc (by simp; omega) _).alloc (by simp; omega) _
  · have q := World.ownsRow_made (base := w.heap.size + 1) (e := 3) (size := 1) (w.alloc (.cells #[.slice a r cap, .slice b s dap, .int .i64 o, .int .i64 n] 26)) (madeCells #[.int .i64 0] C) C (by simp) (by unfold maxLen; omega) (by rw [size_madeCells]; omega)
    rw [World.size_alloc] at q
    exact (q.alloc _).alloc _
  · have q := box_new (((w.alloc (.cells #[.slice a r cap, .slice b s dap, .int .i64 o, .int .i64 n] 26)).alloc (.cells (madeCells #[.int .i64 0] C) 3)).alloc (.cells #[.slice (some ⟨w.heap.size + 1, 0, none⟩) 0 C] 22)) (.slice a r cap) (.slice b s dap) (.int .i64 o) (.int .i64 n) 26
    rw [World.size_alloc, World.size_alloc, World.size_alloc] at q
    exact q
  rintro W ⟨hz, hb, how, hcs, hfr, hbx⟩
  have hz1' := Nat.le_of_eq hz
  have hz2' := Nat.le_of_eq hz.symm
  clear hz
  have HB := hide hb
  have IT := hide (eachPlace1 (w.heap.size + 1 + 1 + 1) B a b r s cap dap D S o n (fun k => k = w.heap.size + 1 ∨ k = w.heap.size + 1 + 1) W hbx (by omega) (by omega) (fun k hk => by omega) (by omega) (H.out.below (hb.mono hB)) (H'.out.below (hb.mono hB)) (fun k hk => by omega) hr hs)
  clear hb hbx
  refine range_nat (gf := 102) (lb := #[.pointer (some ⟨w.heap.size + 1 + 1 + 1, 0, none⟩)]) rfl (enters_of Try.func102 (by kernel_rfl) rfl)
    (fun k => #[.int .i64 (o + rel D S r k)]) (cnt r s D S o n) (fun k => k = w.heap.size + 1 ∨ k = w.heap.size + 1 + 1) (fun k hk => by omega) (fun _ => rfl) IT.out
    (fun k A => A.ownsRow (w.heap.size + 1) 3 1 (.slice (some ⟨w.heap.size + 1, 0, none⟩) k C) k (ints k (plcN D S r o)) ∧ A.cell? ⟨w.heap.size + 1 + 1, 0, none⟩ = some (.slice (some ⟨w.heap.size + 1, 0, none⟩) k C) ∧ A.frozen? ⟨w.heap.size + 1 + 1, 0, none⟩ = false ∧ (∀ j, j < k → bd (plcN D S r o j)) ∧ W.heap.size ≤ A.heap.size ∧ Below w.heap.size w A)
    (fun k A => False)
    (fun k A X q hb => ⟨by
        obtain ⟨q1, q2 | ⟨g, cp, cur, e, hg, hh, rest⟩⟩ := q.1
        · cases q2.1
        · refine ⟨q1, .inr ⟨g, cp, cur, e, hg, ?_, rest⟩⟩
          injection e with e1 e2 e3; injection e1 with e1; injection e1 with e1
          rw [hb.block g (by omega)]; exact hh, below_cell hb (by show w.heap.size + 1 + 1 < _; omega) q.2.1, below_mark hb (by show w.heap.size + 1 + 1 < _; omega) q.2.2.1, q.2.2.2.1, Nat.le_trans q.2.2.2.2.1 hb.size, q.2.2.2.2.2.trans (hb.mono (by omega))⟩)
    (fun k A X q hb => q)
    ⟨how, hcs, hfr, fun _ h => by omega, Nat.le_refl _, HB.out⟩
    (fun k => { tmps := #[.agg #[.slice a r cap, .slice b s dap, .int .i64 o, .int .i64 n], .pointer (some ⟨w.heap.size, 0, none⟩), .slice none 0 0, .pointer (some ⟨w.heap.size + 1 + 1, 0, none⟩), .int .i64 (o + rel D S r k), .pointer (some ⟨w.heap.size, 0, none⟩), .slice a r cap, .int .i64 C, .slice (some ⟨w.heap.size + 1, 0, none⟩) 0 C, .agg #[.slice a r cap, .slice b s dap, .int .i64 o, .int .i64 n], .func (.func 102) #[] #[.pointer (some ⟨w.heap.size + 1 + 1 + 1, 0, none⟩)], .int .i64 (o + rel D S r k), undef, undef, undef, undef, undef], defers := [] }) ?assign ?body ?done ?stop
  case assign =>
    intro l k A K hK
    gi_wp2
    exact hK
  case body =>
    rintro l k A ⟨how, hcs, hfr, hbdd, hsA, hb⟩ hkN hsz
    have V := hide (cnt_pos hkN)
    have kC : k + 1 ≤ C := by have := NC.out; omega
    have HB := hide hb
    have HO := hide how
    have HBD := hide hbdd
    clear how hb hbdd hkN
    gi_wp2_with (gi_at_builtin; refine wpListIn_append_fits _ rfl _ _ 22 rfl (w.heap.size + 1) 3 i0 1 Try.underlying22 hi0 hz1 (w.heap.size + 1) k C (ints k (plcN D S r o)) rfl (HO.out.alloc _) ⟨A.heap.size, 0, none⟩ 1 1 [.int .i64 (o + rel D S r k)] rfl rfl (World.news_of_block (cs := #[.int .i64 (o + rel D S r k)]) (t := 3) (fr := (0, 0)) (heap_alloc_new A _)) (by simp [Value.oneCell']) kC ?_; intro w1 hown1 hgrow1; have hc1 := grown_old hgrow1 (a := ⟨w.heap.size + 1 + 1, 0, none⟩) (by show w.heap.size + 1 + 1 ≠ w.heap.size + 1; omega) (alloc_old hcs); have hf1 : w1.frozen? ⟨w.heap.size + 1 + 1, 0, none⟩ = false := (hgrow1.frozen_far _ (by simp; omega) (by simp)).trans ((World.frozen?_alloc_old A _ ⟨w.heap.size + 1 + 1, 0, none⟩ (by show w.heap.size + 1 + 1 ≠ A.heap.size; omega)).trans hfr))
    have hown2 : w1.ownsRow (w.heap.size + 1) 3 1 (.slice (some ⟨w.heap.size + 1, 0, none⟩) (k + 1) C) (k + 1) (ints (k + 1) (plcN D S r o)) := by rw [← ints_succ]; exact hown1
    have bA : Below A.heap.size A (A.alloc (.cells #[.int .i64 (o + rel D S r k)] 3)) := (Below.refl _ _).alloc (Nat.le_refl _) _
    exact ⟨(((Kept.of_below bA).trans ((kept_grown hgrow1).mono (fun _ _ e => .inl e)))).trans ((Kept.setCell w1 ⟨w.heap.size + 1 + 1, 0, none⟩ _).mono (fun _ _ e => .inr e)),
      hown2.kept (grown_set w1 ⟨w.heap.size + 1 + 1, 0, none⟩ _) (.inr (by simp [Value.ownBlock])), World.cell?_setCell_same _ _ _ hc1, by rw [World.frozen?_setCell]; exact hf1,
      fun j hj => by
        by_cases e : j = k
        · rw [e]; exact plcN_bd V.out k
        · exact HBD.out j (by omega), by have := hgrow1.size; simp [World.setCell] at this ⊢; omega,
      (((HB.out.alloc HB.out.size _).grown hgrow1 (by simp; omega) (by rintro q ⟨⟩; omega))).setCell (p := ⟨w.heap.size + 1 + 1, 0, none⟩) (by show w.heap.size ≤ w.heap.size + 1 + 1; omega) _⟩
  case done =>
    rintro A ⟨how, hcs, hfr, hbdd, hsA, hb⟩ hK
    have HO := hide how
    have HB := hide hb
    have HBD := hide hbdd
    have HK := hide hK
    clear how hb hbdd hK
    go_wp2_with fail
    have rw1 := rw_of_row HO.out HBD.out
    refine end1 (v := .slice (some ⟨w.heap.size + 1, 0, none⟩) (cnt r s D S o n) C) rfl HK.out (by simp [results, Try.results86, go_sem]) ⟨_, _, rfl, .inr ⟨_, rfl, by omega, rw1.kept (kept_put A W.heap.size _) (by omega)⟩, HB.out.trans (below_put _ _ _ (by omega))⟩
  case stop =>
    rintro k A hkN hf hK
    exact hf.elim
theorem placesS (B : Nat) (a b : Option Addr) (r s cap dap : Nat) (D S : Nat → Int) (o n : Int) (w : World) (hB : B ≤ w.heap.size) (h : Ints B w a r D) (h' : Ints B w b s S) (hr : (r : Int) ≤ 1048576) (hs : (s : Int) ≤ 1048576) :
    Calls Try.prog 86 #[.agg #[.slice a r cap, .slice b s dap, .int .i64 o, .int .i64 n]] w fun e w' => Lists w.heap.size (cntS r s D S o n) (plcN D S r o) w e w' := places B a b r s cap dap D S o n w hB h h' hr hs
theorem cntS_le (r s : Nat) (D S : Nat → Int) (o n : Int) : ((cntS r s D S o n : Nat) : Int) ≤ 4096 := by
  unfold cntS
  split
  · have := szR_rng D r; omega
  · omega
end Vo
end Go.Proofs.Ytejfodkobfdelaa
