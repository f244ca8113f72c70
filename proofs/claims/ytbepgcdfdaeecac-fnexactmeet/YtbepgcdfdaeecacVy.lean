/- Places that are there twice, places that meet: plain, and Twice on the model's side. -/
import Derived.Test.YtbepgcdfdaeecacVt
namespace Go.Proofs.Ytbepgcdfdaeecac
namespace Vo
open Go.ChangeShapes Go.WideShapes Go.ChangeAt Go.RowKit Go.Joins
open Vl Vp
set_option linter.unusedVariables false

def memB (f : Nat → Int) : Nat → Int → Bool | 0, _ => false | n + 1, x => memB f n x || (f n == x)
def dupB (f : Nat → Int) : Nat → Bool | 0 => false | n + 1 => dupB f n || memB f n (f n)
/-- is one of the first n of g among the first m of f? -/
def metB (f : Nat → Int) (m : Nat) (g : Nat → Int) : Nat → Bool | 0 => false | n + 1 => metB f m g n || memB f m (g n)
theorem dupB_mono {f : Nat → Int} {n m : Nat} (h : dupB f n = true) (hm : n ≤ m) : dupB f m = true := by
  induction m with
  | zero => obtain rfl : n = 0 := by omega
            exact h
  | succ m ih =>
    by_cases e : n = m + 1
    · rw [← e]; exact h
    · simp only [dupB]; rw [ih (by omega)]; rfl
theorem metB_mono {f g : Nat → Int} {k n m : Nat} (h : metB f k g n = true) (hm : n ≤ m) : metB f k g m = true := by
  induction m with
  | zero => obtain rfl : n = 0 := by omega
            exact h
  | succ m ih =>
    by_cases e : n = m + 1
    · rw [← e]; exact h
    · simp only [metB]; rw [ih (by omega)]; rfl
/-- a row of flags of one's own -/
def Bw (w : World) (g n : Nat) (f : Nat → Bool) : Prop := ∀ t, t < n → w.cell? ⟨g, t, none⟩ = some (.bool (f t)) ∧ w.frozen? ⟨g, t, none⟩ = false
theorem Bw.below {B : Nat} {w w' : World} {g n : Nat} {f : Nat → Bool} (h : Bw w g n f) (hb : Below B w w') (hg : g < B) : Bw w' g n f := fun t ht =>
  ⟨(hb.cell (p := ⟨g, t, none⟩) hg).trans (h t ht).1, (hb.frozen (p := ⟨g, t, none⟩) hg).trans (h t ht).2⟩
theorem Bw.same {w : World} {g n : Nat} {f f' : Nat → Bool} (h : Bw w g n f) (e : ∀ t, t < n → f' t = f t) : Bw w g n f' := fun t ht => by rw [e t ht]; exact h t ht
theorem Bw.set {w : World} {g n : Nat} {f : Nat → Bool} (h : Bw w g n f) (j : Nat) : Bw (w.setCell ⟨g, j, none⟩ (.bool true)) g n (fun t => f t || (j == t)) := by
  intro t ht
  rw [World.frozen?_setCell]
  by_cases c : t = j
  · subst c
    rw [World.cell?_setCell_same _ _ _ (h t ht).1]
    refine ⟨by simp, (h t ht).2⟩
  · rw [World.cell?_setCell_other _ _ _ _ (by intro e; cases e; exact c rfl)]
    dsimp only
    rw [show (j == t) = false by rw [beq_eq_false_iff_ne]; omega, Bool.or_false]
    exact h t ht
theorem bw_new (w : World) (n : Nat) (ty : TypeId) : Bw (w.alloc (.cells (madeCells #[.bool false] n) ty)) w.heap.size n (fun _ => false) := by
  intro t ht
  refine ⟨?_, ?_⟩
  · rw [World.cell?_alloc_at _ _ _ _ rfl]
    simp [madeCells, ht, Nat.mod_one]
  · simp [go_sem]
theorem memB_step (f : Nat → Int) (k j : Nat) (hj : f k = j) (t : Nat) : memB f (k + 1) t = (memB f k t || (j == t)) := by
  simp only [memB]; rw [hj]; congr 1
  rw [Bool.eq_iff_iff]; simp; omega
/-- the k-th place, as a number of the list -/
def plcN (D S : Nat → Int) (r : Nat) (o : Int) : Nat → Int := fun k => o + rel D S r k

theorem make_bool (r : Nat) (hr : (r : Int) ≤ 4194304) (w : World) : (Instr.makeSlice 37 (.int .i64 r) (.int .i64 r)).run Try.prog w = .ok (.slice (some ⟨w.heap.size, 0, none⟩) r r) (w.alloc (.cells (madeCells #[.bool false] r) 4)) := by
  have hi : (Try.prog.info? 4).map (fun i => (i.zero, i.size, i.bytes)) = some (some (.bool false), 1, 1) := by kernel_rfl
  obtain ⟨i, h1, h2⟩ := Option.map_eq_some_iff.1 hi
  simp only [Prod.mk.injEq] at h2
  obtain ⟨hz, hs, hb⟩ := h2
  have := run_make (P := Try.prog) w 37 4 i (.bool false) Try.underlying37 h1 hz .i64 .i64 r r (by omega) (Int.le_refl _) (by rw [hb]; omega) (by omega)
  rw [hs] at this
  simpa [Value.cells] using this
def cntS (r s : Nat) (D S : Nat → Int) (o n : Int) : Nat := if vok r s D S o n = true then (szR D r).toNat else 0
theorem cntS_no {r s : Nat} {D S : Nat → Int} {o n : Int} (h : vok r s D S o n = false) : cntS r s D S o n = 0 := by unfold cntS; rw [h]; simp
theorem cntS_yes {r s : Nat} {D S : Nat → Int} {o n : Int} (h : vok r s D S o n = true) : ((cntS r s D S o n : Nat) : Int) = szR D r := by unfold cntS; rw [if_pos h]; have := (szR_rng D r).1; omega
set_option maxHeartbeats 2000000 in
theorem specTwice (B : Nat) (a b : Option Addr) (r s cap dap : Nat) (D S : Nat → Int) (o n : Int) (w : World) (hB : B ≤ w.heap.size) (h : Ints B w a r D) (h' : Ints B w b s S) (hr : (r : Int) ≤ 1048576) (hs : (s : Int) ≤ 1048576) :
    Calls Try.prog 13 #[.agg #[.slice a r cap, .slice b s dap, .int .i64 o, .int .i64 n]] w fun e w' => e = .returned (.bool (dupB (plcN D S r o) (cntS r s D S o n))) ∧ Below w.heap.size w w' := by
  have bl : Below w.heap.size w (w.alloc (.cells #[.slice a r cap, .slice b s dap, .int .i64 o, .int .i64 n] 31)) := (Below.refl _ _).alloc (Nat.le_refl _) _
  have NV := hide (box_new w (.slice a r cap) (.slice b s dap) (.int .i64 o) (.int .i64 n) 31)
  have H := hide h
  have H' := hide h'
  have BL := hide bl
  clear h h' bl
  go_enter Try.func13, Try.ntmps13
  go_wp2_with fail
  refine (specViewOk B a b r s cap dap D S o n _ (by simp; omega) (H.out.below (BL.out.mono hB)) (H'.out.below (BL.out.mono hB)) hr hs).mono ?_
  rintro e w1 ⟨rfl, b1⟩
  have B1 := hide (BL.out.trans (b1.mono (by simp)))
  have z1 : w.heap.size < w1.heap.size := by have := b1.size; simp at this; omega
  have N1 := hide (NV.out.below b1 (by simp))
  obtain ⟨x0, x1, x2, x3⟩ := N1.out
  clear b1
  cases hv : vok r s D S o n with
  | false =>
    have e := hide (show dupB (plcN D S r o) (cntS r s D S o n) = false by rw [cntS_no hv]; rfl)
    clear hv
    go_wp2_with fail
    go_ret
    exact ⟨ret_bool e.out.symm, B1.out⟩
  | true =>
    have V := hide (vok_iff.1 hv)
    have hv2 := cntS_yes hv
    clear hv
    obtain ⟨N, hN⟩ : ∃ N, cntS r s D S o n = N := ⟨_, rfl⟩
    rw [hN] at hv2
    have HN := hide hN
    have HN2 := hide hv2
    clear hN hv2
    have n4 : (N : Int) ≤ 4096 := by have := HN2.out; have := (szR_rng D r).2; omega
    obtain rfl : s = r := V.out.2.1
    have n0 : 0 ≤ n := by have := V.out.2.2.1; omega
    obtain ⟨nb, rfl⟩ := Int.eq_ofNat_of_zero_le n0
    have nb4 : (nb : Int) ≤ 4096 := V.out.2.2.2.1
    have hmk := make_bool nb (by omega)
    have A1 := hide (show Below w1.heap.size w1 (w1.alloc (.cells (madeCells #[.bool false] nb) 4)) from (Below.refl _ _).alloc (Nat.le_refl _) _)
    have W1 := hide (bw_new w1 nb 4)
    have B2 := hide (B1.out.trans (A1.out.mono B1.out.size))
    have v := V.out
    go_wp2_with fail
    refine (l3All B a b s cap dap N D S o nb _ (by simp; omega) (H.out.below (B2.out.mono hB)) (H'.out.below (B2.out.mono hB)) v.1 v.2.2.2.2.2.2.1 v.2.2.2.2.1 (by have := v.2.2.2.2.2.1; omega) HN2.out).mono ?_
    rintro e1 w2 ⟨g, c, rfl, hg1, hg2, hrw, b2⟩
    clear v
    have R2 := hide (show Rw w2 g N (plcN D S s o) from hrw)
    have B3 := hide (B2.out.trans (b2.mono B2.out.size))
    have W2 := hide (W1.out.below b2 (by simp))
    have gne : g ≠ w1.heap.size := by simp at hg1; omega
    have gs2 : w1.heap.size < w2.heap.size := by have := b2.size; simp at this; omega
    clear hrw b2 x0 x1 x2 x3
    go_wp2_with fail
    go_loopw [5] (fun i wx => ∃ k : Nat, k ≤ N ∧ i = .int .i64 k ∧ dupB (plcN D S s o) k = false ∧ Bw wx w1.heap.size nb (fun t => memB (plcN D S s o) k t) ∧ Rw wx g N (plcN D S s o) ∧ Below w.heap.size w wx) (fun i _ => N - (intOf i).toNat)
    case atStart => exact ⟨0, Nat.zero_le _, rfl, rfl, W2.out.same (fun _ _ => rfl), R2.out, B3.out⟩
    case round =>
      obtain ⟨k, hk, rfl, hdup, hbw, hrw, hb⟩ := hrel
      have DU := hide hdup
      have HW := hide hbw
      have HR := hide hrw
      have HB := hide hb
      clear hdup hb
      by_cases hlt : k < N
      · obtain ⟨c1, _, _⟩ := hrw k hlt
        have pl := V.out.place k
        obtain ⟨j, hj⟩ := Int.eq_ofNat_of_zero_le pl.1
        have hjn : j < nb := by have := pl.2; omega
        have ej := hide (show plcN D S s o k = j from hj)
        rw [ej.out] at c1
        obtain ⟨c2, f2⟩ := hbw j hjn
        dsimp only at c2
        have kI : (k : Int) < N := by omega
        have jI : (j : Int) < nb := by omega
        clear hrw hbw pl hj
        cases hm : memB (plcN D S s o) k j with
        | true =>
          rw [hm] at c2
          have e := hide (show dupB (plcN D S s o) (cntS s s D S o nb) = true by
            rw [HN.out]; exact dupB_mono (n := k + 1) (by simp only [dupB]; rw [ej.out, hm]; simp) hlt)
          clear hm
          go_wp2_with fail
          go_ret
          exact ⟨ret_bool e.out.symm, HB.out⟩
        | false =>
          rw [hm] at c2
          have e := hide (show dupB (plcN D S s o) (k + 1) = false by simp only [dupB]; rw [ej.out, hm, DU.out]; rfl)
          clear hm
          go_wp2_with fail
          go_roundw
          case rel =>
            exact ⟨k + 1, by omega, by go_num, e.out, (HW.out.set j).same (fun t _ => memB_step _ k j ej.out t), HR.out.kept (Kept.setCell wr ⟨w1.heap.size, j, none⟩ (.bool true)) gne, HB.out.setCell (p := ⟨w1.heap.size, j, none⟩) (Nat.le_of_lt z1) _⟩
          case measure => simp [intOf]; omega
      · obtain rfl : N = k := by omega
        have e := hide (show dupB (plcN D S s o) (cntS s s D S o nb) = false by rw [HN.out]; exact DU.out)
        clear hrw hbw
        go_wp2_with fail
        go_ret
        exact ⟨ret_bool e.out.symm, HB.out⟩
end Vo
end Go.Proofs.Ytbepgcdfdaeecac
