/- Lives of a nest in the program: the list of lives, a life that is reached. -/
import Derived.Test.YtgmjijjckedmcaaMa
import Derived.Test.YtgmjijjckedmcaaJq
import Derived.Lib.SliceRun
namespace Go.Proofs.Ytgmjijjckedmcaa
namespace Vo
open Go.ChangeShapes Go.WideShapes Go.ChangeAt Go.RowKit Go.Joins Go.Sort
open Vl Vp
set_option linter.unusedVariables false
set_option linter.unusedSimpArgs false
/-- a life that is reached by a number -/
def rch1 (x : MV) (n : Int) : MV := ⟨x.b, x.s, if x.f = -1 then n else x.f, n⟩
def updM (C : Nat → MV) (j : Nat) (x : MV) : Nat → MV := fun i => if i = j then x else C i
theorem OML.of {B : Nat} {w w' : World} {g n k : Nat} {C : Nat → MV} (h : OML B w g n k C) (c : ∀ i, w'.cell? ⟨g, i, none⟩ = w.cell? ⟨g, i, none⟩) (f : ∀ i, w'.frozen? ⟨g, i, none⟩ = w.frozen? ⟨g, i, none⟩) (z : w.heap.size ≤ w'.heap.size) : OML B w' g n k C :=
  ⟨h.lo, Nat.lt_of_lt_of_le h.lt z, fun i hi => by rw [c, c, c, c]; exact h.laid i hi, fun i h1 h2 => by rw [c, c, c, c]; exact h.rest i h1 h2, fun i => (f i).trans (h.free i)⟩
theorem oml_t {B : Nat} {w : World} {g n j : Nat} {C : Nat → MV} {z : Int} (h : OML B w g n n C) (hj : j < n) (hz : bd z) : OML B (w.setCell ⟨g, j * 4 + 3, none⟩ (.int .i64 z)) g n n (updM C j ⟨(C j).b, (C j).s, (C j).f, z⟩) := by
  have far : ∀ q, q ≠ j * 4 + 3 → (w.setCell ⟨g, j * 4 + 3, none⟩ (.int .i64 z)).cell? ⟨g, q, none⟩ = w.cell? ⟨g, q, none⟩ := fun q hq => World.cell?_setCell_other _ _ _ _ (by intro e; injection e with _ e _; omega)
  refine ⟨h.lo, by simpa [World.setCell] using h.lt, fun i hi => ?_, fun i h1 h2 => by omega, fun i => by rw [World.frozen?_setCell]; exact h.free i⟩
  unfold updM
  obtain ⟨⟨c0, c1, c2, c3⟩, d0, d1, d2, d3⟩ := h.laid i hi
  by_cases c : i = j
  · subst c
    simp only [if_true]
    exact ⟨⟨(far _ (by omega)).trans c0, (far _ (by omega)).trans c1, (far _ (by omega)).trans c2, World.cell?_setCell_same _ _ _ c3⟩, d0, d1, d2, hz⟩
  · simp only [c, if_false]
    exact ⟨⟨(far _ (by omega)).trans c0, (far _ (by omega)).trans c1, (far _ (by omega)).trans c2, (far _ (by omega)).trans c3⟩, d0, d1, d2, d3⟩
theorem oml_f {B : Nat} {w : World} {g n j : Nat} {C : Nat → MV} {z : Int} (h : OML B w g n n C) (hj : j < n) (hz : bd z) : OML B (w.setCell ⟨g, j * 4 + 2, none⟩ (.int .i64 z)) g n n (updM C j ⟨(C j).b, (C j).s, z, (C j).t⟩) := by
  have far : ∀ q, q ≠ j * 4 + 2 → (w.setCell ⟨g, j * 4 + 2, none⟩ (.int .i64 z)).cell? ⟨g, q, none⟩ = w.cell? ⟨g, q, none⟩ := fun q hq => World.cell?_setCell_other _ _ _ _ (by intro e; injection e with _ e _; omega)
  refine ⟨h.lo, by simpa [World.setCell] using h.lt, fun i hi => ?_, fun i h1 h2 => by omega, fun i => by rw [World.frozen?_setCell]; exact h.free i⟩
  unfold updM
  obtain ⟨⟨c0, c1, c2, c3⟩, d0, d1, d2, d3⟩ := h.laid i hi
  by_cases c : i = j
  · subst c
    simp only [if_true]
    exact ⟨⟨(far _ (by omega)).trans c0, (far _ (by omega)).trans c1, World.cell?_setCell_same _ _ _ c2, (far _ (by omega)).trans c3⟩, d0, d1, hz, d3⟩
  · simp only [c, if_false]
    exact ⟨⟨(far _ (by omega)).trans c0, (far _ (by omega)).trans c1, (far _ (by omega)).trans c2, (far _ (by omega)).trans c3⟩, d0, d1, d2, d3⟩
theorem updM_same {C : Nat → MV} {j : Nat} {x y : MV} : updM (updM C j x) j y = updM C j y := by
  funext i
  unfold updM
  by_cases c : i = j
  · simp [c]
  · simp [c]
theorem OML.same {B : Nat} {w : World} {g n : Nat} {C D : Nat → MV} (h : OML B w g n n C) (e : ∀ i, i < n → D i = C i) : OML B w g n n D :=
  ⟨h.lo, h.lt, fun i hi => by rw [e i hi]; exact h.laid i hi, h.rest, h.free⟩
set_option maxHeartbeats 1000000 in
theorem reachF (B g n : Nat) (C : Nat → MV) (j : Nat) (x : Int) (w : World) (h : OML B w g n n C) (hj : j < n) (hx : bd x) :
    Calls Try.prog 61 #[.pointer (some ⟨g, j * 4, none⟩), .int .i64 x] w fun e w' => e = .returned (.tuple #[]) ∧ OML B w' g n n (updM C j (rch1 (C j) x)) ∧ Kept (· = g) w w' := by
  obtain ⟨⟨c0, c1, c2, c3⟩, dd⟩ := h.laid j hj
  have f2 := h.free (j * 4 + 2)
  have f3 := h.free (j * 4 + 3)
  have H := hide h
  clear h dd
  go_enter Try.func61, Try.ntmps61
  by_cases c : (C j).f = -1
  · have c' : ((C j).f == -1) = true := by simp [c]
    have o1 := oml_f H.out hj hx
    have o2 := hide (oml_t o1 hj hx)
    have e := hide (show updM (updM C j ⟨(C j).b, (C j).s, x, (C j).t⟩) j ⟨(updM C j ⟨(C j).b, (C j).s, x, (C j).t⟩ j).b, (updM C j ⟨(C j).b, (C j).s, x, (C j).t⟩ j).s, (updM C j ⟨(C j).b, (C j).s, x, (C j).t⟩ j).f, x⟩ = updM C j (rch1 (C j) x) by
      rw [updM_same]
      unfold updM rch1
      simp [c])
    rw [e.out] at o2
    clear c o1 e
    go_wp2_with fail
    exact bodyPost_end (results_none rfl _ _ _) rfl ⟨rfl, o2.out, (Kept.setCell w ⟨g, j * 4 + 2, none⟩ _).trans (Kept.setCell _ ⟨g, j * 4 + 3, none⟩ _)⟩
  · have c' : ((C j).f == -1) = false := by simp [c]
    have o2 := hide (oml_t H.out hj hx)
    have e := hide (show updM C j ⟨(C j).b, (C j).s, (C j).f, x⟩ = updM C j (rch1 (C j) x) by
      unfold updM rch1
      simp [c])
    rw [e.out] at o2
    clear c e
    go_wp2_with fail
    exact bodyPost_end (results_none rfl _ _ _) rfl ⟨rfl, o2.out, Kept.setCell w ⟨g, j * 4 + 3, none⟩ _⟩
/-- a buffer that nothing has reached -/
def st0 (SD : Nat → Int) : Nat → MV := fun b => ⟨b, SD b, -1, 0⟩
set_option maxHeartbeats 1000000 in
theorem livesNew (B P : Nat) (v : NV) (k : Nat) (w : World) (hB : B ≤ w.heap.size) (h : v.read B w) (hp : Cells5 w P (.slice v.sa v.sn v.scap) (.slice v.ia v.i v.icap) (.slice v.fa v.fn v.fcap) (.slice v.ka v.kn v.kcap) (.slice v.oa v.on v.ocap)) (hk : k < v.sn) :
    Calls Try.prog 60 #[.int .i64 k, .pointer (some ⟨P, 0, none⟩)] w fun e w' => e = .returned (.agg #[.int .i64 k, .int .i64 (v.SD k), .int .i64 (-1), .int .i64 0]) ∧ Below w.heap.size w w' := by
  obtain ⟨p0, p1, p2, p3, p4⟩ := hp
  have kI : (k : Int) < v.sn := by omega
  rcases h.1 with h0 | ⟨b, off, e, hb, hc⟩
  · omega
  rw [e] at p0
  have c := (hc k hk).1
  have lP : P < w.heap.size := World.block_lt_of_cell? _ _ p0
  have lb : b < w.heap.size := by omega
  have nP : ¬ P = w.heap.size := by omega
  have nb : ¬ b = w.heap.size := by omega
  clear hc h e
  go_enter Try.func60, Try.ntmps60
  go_wp2_with fail
  refine bodyPost_ret (v := .agg #[.int .i64 k, .int .i64 (v.SD k), .int .i64 (-1), .int .i64 0]) (by simp [results, Try.results60, go_sem]) rfl ⟨rfl, ?_⟩
  repeat (refine Below.setCell ?_ (by simp; try omega) _)
  exact (Below.refl _ _).alloc (Nat.le_refl _) _
set_option maxHeartbeats 1000000 in
theorem elemLife (B P : Nat) (v : NV) (w : World) (hB : B ≤ w.heap.size) (h : v.read B w) (hP : P < w.heap.size) (hp : Cells5 w P (.slice v.sa v.sn v.scap) (.slice v.ia v.i v.icap) (.slice v.fa v.fn v.fcap) (.slice v.ka v.kn v.kcap) (.slice v.oa v.on v.ocap)) (hn : (v.sn : Int) ≤ 1048576) :
    Calls Try.prog 59 #[.int .i64 v.sn, .func (.func 60) #[] #[.pointer (some ⟨P, 0, none⟩)]] w fun e w' => e = .returned (.slice (some ⟨w.heap.size, 0, none⟩) v.sn v.sn) ∧ OML w.heap.size w' w.heap.size v.sn v.sn (st0 v.SD) ∧ Below w.heap.size w w' := by
  have hmk := make_life v.sn hn
  obtain ⟨n, hnn⟩ : ∃ n, v.sn = n := ⟨_, rfl⟩
  obtain ⟨W0, hW0⟩ : ∃ W0, w.alloc (.cells (madeCells #[.int .i64 0, .int .i64 0, .int .i64 0, .int .i64 0] (n * 4)) 54) = W0 := ⟨_, rfl⟩
  have o0 := oml_new w n (st0 v.SD)
  rw [hW0] at o0
  have bl : Below w.heap.size w W0 := by rw [← hW0]; exact (Below.refl _ _).alloc (Nat.le_refl _) _
  have O0 := hide o0
  have BL := hide bl
  have H := hide h
  have HP := hide hp
  have BS := hide (fun (i : Nat) (hi : i < n) => show bd (v.SD i) from by
    rcases h.1 with h0 | ⟨b, off, e, hb, hc⟩
    · omega
    · exact (hc i (by omega)).2)
  have CN := hide (fun (k : Nat) (W : World) (hk : k < n) (hb : Below w.heap.size w W) => livesNew B P v k W (Nat.le_trans hB hb.size) (h.below (hb.mono hB)) (hp.below hb hP) (by omega))
  rw [hnn] at hmk ⊢
  have nI : (n : Int) ≤ 1048576 := by omega
  clear h o0 bl hp hnn
  go_enter Try.func59, Try.ntmps59
  go_wp2_with fail
  clear hW0 hmk
  go_loopw [11] (fun i wx => ∃ (k : Nat) (U : Nat → MV), k ≤ n ∧ i = .int .i64 k ∧ OML w.heap.size wx w.heap.size n k U ∧ (∀ j, j < k → U j = st0 v.SD j) ∧ Below w.heap.size w wx) (fun i _ => n - (intOf i).toNat)
  case atStart => exact ⟨0, _, Nat.zero_le _, rfl, O0.out, fun i hi => by omega, BL.out⟩
  case round =>
    obtain ⟨X, rfl⟩ : ∃ X, X = wr := ⟨_, rfl⟩
    obtain ⟨k, U, hk, rfl, ho, hs, hby⟩ := hrel
    have HO := hide ho
    have HS := hide hs
    have HBY := hide hby
    clear ho hs hby
    by_cases hlt : k < n
    · have kI : (k : Int) < n := by omega
      have CT := hide (CN.out k X hlt HBY.out)
      obtain ⟨e0, e1, e2, e3⟩ := HO.out.rest k (Nat.le_refl _) hlt
      go_wp2_with fail
      refine CT.out.mono ?_
      rintro e X1 ⟨rfl, b1⟩
      have ltX := HO.out.lt
      have d0 := (b1.cell (p := ⟨w.heap.size, k * 4, none⟩) ltX).trans e0
      have d1 := (b1.cell (p := ⟨w.heap.size, k * 4 + 1, none⟩) ltX).trans e1
      have d2 := (b1.cell (p := ⟨w.heap.size, k * 4 + 2, none⟩) ltX).trans e2
      have d3 := (b1.cell (p := ⟨w.heap.size, k * 4 + 3, none⟩) ltX).trans e3
      have f0 := (b1.frozen (p := ⟨w.heap.size, k * 4, none⟩) ltX).trans (HO.out.free (k * 4))
      have f1 := (b1.frozen (p := ⟨w.heap.size, k * 4 + 1, none⟩) ltX).trans (HO.out.free (k * 4 + 1))
      have f2 := (b1.frozen (p := ⟨w.heap.size, k * 4 + 2, none⟩) ltX).trans (HO.out.free (k * 4 + 2))
      have f3 := (b1.frozen (p := ⟨w.heap.size, k * 4 + 3, none⟩) ltX).trans (HO.out.free (k * 4 + 3))
      have B1 := hide b1
      have bS := hide (BS.out k hlt)
      clear b1 e0 e1 e2 e3 CT
      go_wp2_with fail
      go_roundw
      all_goals first
        | (simp only [intOf]; omega)
        | (simp [intOf]; omega)
        | exact ⟨k + 1, _, by omega, by go_num, oml_put HO.out hlt B1.out ⟨by unfold bd; omega, bS.out, by unfold bd; omega, by unfold bd; omega⟩, fun i hi => by
            by_cases c : i = k
            · subst c
              simp only [if_true]
              rfl
            · simp only [c, if_false]
              exact HS.out i (by omega), ((((HBY.out.trans (B1.out.mono HBY.out.size)).setCell (p := ⟨w.heap.size, k * 4, none⟩) (Nat.le_refl _) _).setCell (p := ⟨w.heap.size, k * 4 + 1, none⟩) (Nat.le_refl _) _).setCell (p := ⟨w.heap.size, k * 4 + 2, none⟩) (Nat.le_refl _) _).setCell (p := ⟨w.heap.size, k * 4 + 3, none⟩) (Nat.le_refl _) _⟩
    · obtain rfl : k = n := by omega
      go_wp2_with fail
      go_ret
      exact ⟨rfl, HO.out.same (fun i hi => (HS.out i hi).symm), HBY.out⟩
end Vo
end Go.Proofs.Ytgmjijjckedmcaa
