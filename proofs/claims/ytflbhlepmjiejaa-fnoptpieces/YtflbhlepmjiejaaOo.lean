/- What a step does besides: praise, skipping, counting; the program (written by tools/genoo.py). -/
import Derived.Test.YtflbhlepmjiejaaOm
import Derived.Test.YtflbhlepmjiejaaEg
import Derived.Lib.MinMax
namespace Go.Proofs.Ytflbhlepmjiejaa
namespace Vo
open Go.ChangeShapes Go.WideShapes Go.ChangeAt Go.RowKit Go.Joins Go.Sort
open Vl
set_option linter.unusedVariables false
set_option linter.unusedSimpArgs false
theorem C6.same {w : World} {p : Nat} {V V' : Nat → Value} (h : C6 w p V) (e : ∀ i, i < 6 → V i = V' i) : C6 w p V' := ⟨fun i hi => by rw [← e i hi]; exact h.c i hi, h.f, h.z⟩
section
variable {aP aF aS : Option Addr} {n cP cF cS : Nat} {cnt fac good x : Int}
theorem ov3 (i : Nat) (hi : i < 6) : upv (OV aP aF aS n cP cF cS cnt fac good) 3 (.int .i64 x) i = OV aP aF aS n cP cF cS x fac good i := by
  rcases (by omega : i = 0 ∨ i = 1 ∨ i = 2 ∨ i = 3 ∨ i = 4 ∨ i = 5) with rfl | rfl | rfl | rfl | rfl | rfl <;> rfl
theorem ov4 (i : Nat) (hi : i < 6) : upv (OV aP aF aS n cP cF cS cnt fac good) 4 (.int .i64 x) i = OV aP aF aS n cP cF cS cnt x good i := by
  rcases (by omega : i = 0 ∨ i = 1 ∨ i = 2 ∨ i = 3 ∨ i = 4 ∨ i = 5) with rfl | rfl | rfl | rfl | rfl | rfl <;> rfl
theorem ov5 (i : Nat) (hi : i < 6) : upv (OV aP aF aS n cP cF cS cnt fac good) 5 (.int .i64 x) i = OV aP aF aS n cP cF cS cnt fac x i := by
  rcases (by omega : i = 0 ∨ i = 1 ∨ i = 2 ∨ i = 3 ∨ i = 4 ∨ i = 5) with rfl | rfl | rfl | rfl | rfl | rfl <;> rfl
end
set_option maxHeartbeats 1000000 in
theorem praiseA (P n cP cF cS : Nat) (aP aF aS : Option Addr) (cnt fac good : Int) (grow M : Int) (w : World) (h : C6 w P (OV aP aF aS n cP cF cS cnt fac good)) (g0 : 0 ≤ good) (g1 : good ≤ 1000000) (hM : min (good + 1) 1000000 = M) (hg : grow ≤ 0 ∨ M < grow) :
    Calls Try.prog 62 #[.pointer (some ⟨P, 0, none⟩), .int .i64 grow] w fun e w' => (∃ v, e = .returned v) ∧ C6 w' P (OV aP aF aS n cP cF cS cnt fac M) ∧ Kept (· = P) w w' := by
  have O := hide h
  have w1 : IntKind.i64.wrap (good + 1) = good + 1 := by rw [IntKind.wrap_i64]; omega
  obtain ⟨X1, hX1⟩ : ∃ X1, w.setCell ⟨P, 5, none⟩ (.int .i64 M) = X1 := ⟨_, rfl⟩
  have OX1 := hide (hX1 ▸ (O.out.set 5 (.int .i64 M) (by omega)).same (fun i hi => ov5 i hi) : C6 X1 P (OV aP aF aS n cP cF cS cnt fac M))
  have eX1 : w.cell? ⟨P, 5, none⟩ = some (.int .i64 good) := O.out.c 5 (by omega)
  have fX1 := O.out.f 5
  have KX1 := hide (hX1 ▸ Kept.setCell w ⟨P, 5, none⟩ _ : Kept (· = P) w X1)
  have c5 : w.cell? ⟨P, 5, none⟩ = some (.int .i64 good) := h.c 5 (by omega)
  have d5 : X1.cell? ⟨P, 5, none⟩ = some (.int .i64 M) := OX1.out.c 5 (by omega)
  clear h
  by_cases q : 0 < grow
  · have q1 : decide (0 < grow) = true := decide_eq_true q
    have q2 : decide (grow ≤ M) = false := decide_eq_false (by omega)
    clear hg q
    go_enter Try.func62, Try.ntmps62
    go_wp2_with fail
    exact bodyPost_end (results_none rfl _ _ _) rfl ⟨⟨_, rfl⟩, OX1.out, KX1.out⟩
  · have q1 : decide (0 < grow) = false := decide_eq_false q
    clear hg q
    go_enter Try.func62, Try.ntmps62
    go_wp2_with fail
    exact bodyPost_end (results_none rfl _ _ _) rfl ⟨⟨_, rfl⟩, OX1.out, KX1.out⟩
set_option maxHeartbeats 1000000 in
theorem praiseB (P n cP cF cS : Nat) (aP aF aS : Option Addr) (cnt fac good : Int) (grow M F2 : Int) (w : World) (h : C6 w P (OV aP aF aS n cP cF cS cnt fac good)) (g0 : 0 ≤ good) (g1 : good ≤ 1000000) (f0 : 0 ≤ fac) (f1 : fac ≤ 65536) (hM : min (good + 1) 1000000 = M) (hF : min (fac * 2) 65536 = F2) (hg : 0 < grow) (hg2 : grow ≤ M) :
    Calls Try.prog 62 #[.pointer (some ⟨P, 0, none⟩), .int .i64 grow] w fun e w' => (∃ v, e = .returned v) ∧ C6 w' P (OV aP aF aS n cP cF cS cnt F2 0) ∧ Kept (· = P) w w' := by
  have O := hide h
  have w1 : IntKind.i64.wrap (good + 1) = good + 1 := by rw [IntKind.wrap_i64]; omega
  have w2 : IntKind.i64.wrap (fac * 2) = fac * 2 := by rw [IntKind.wrap_i64]; omega
  obtain ⟨X1, hX1⟩ : ∃ X1, w.setCell ⟨P, 5, none⟩ (.int .i64 M) = X1 := ⟨_, rfl⟩
  have OX1 := hide (hX1 ▸ (O.out.set 5 (.int .i64 M) (by omega)).same (fun i hi => ov5 i hi) : C6 X1 P (OV aP aF aS n cP cF cS cnt fac M))
  have eX1 : w.cell? ⟨P, 5, none⟩ = some (.int .i64 good) := O.out.c 5 (by omega)
  have fX1 := O.out.f 5
  have KX1 := hide (hX1 ▸ Kept.setCell w ⟨P, 5, none⟩ _ : Kept (· = P) w X1)
  obtain ⟨X2, hX2⟩ : ∃ X2, X1.setCell ⟨P, 4, none⟩ (.int .i64 F2) = X2 := ⟨_, rfl⟩
  have OX2 := hide (hX2 ▸ (OX1.out.set 4 (.int .i64 F2) (by omega)).same (fun i hi => ov4 i hi) : C6 X2 P (OV aP aF aS n cP cF cS cnt F2 M))
  have eX2 : X1.cell? ⟨P, 4, none⟩ = some (.int .i64 fac) := OX1.out.c 4 (by omega)
  have fX2 := OX1.out.f 4
  have KX2 := hide (hX2 ▸ Kept.setCell X1 ⟨P, 4, none⟩ _ : Kept (· = P) X1 X2)
  obtain ⟨X3, hX3⟩ : ∃ X3, X2.setCell ⟨P, 5, none⟩ (.int .i64 0) = X3 := ⟨_, rfl⟩
  have OX3 := hide (hX3 ▸ (OX2.out.set 5 (.int .i64 0) (by omega)).same (fun i hi => ov5 i hi) : C6 X3 P (OV aP aF aS n cP cF cS cnt F2 0))
  have eX3 : X2.cell? ⟨P, 5, none⟩ = some (.int .i64 M) := OX2.out.c 5 (by omega)
  have fX3 := OX2.out.f 5
  have KX3 := hide (hX3 ▸ Kept.setCell X2 ⟨P, 5, none⟩ _ : Kept (· = P) X2 X3)
  have c5 : w.cell? ⟨P, 5, none⟩ = some (.int .i64 good) := h.c 5 (by omega)
  have d5 : X1.cell? ⟨P, 5, none⟩ = some (.int .i64 M) := OX1.out.c 5 (by omega)
  have d4 : X1.cell? ⟨P, 4, none⟩ = some (.int .i64 fac) := OX1.out.c 4 (by omega)
  have q1 : decide (0 < grow) = true := decide_eq_true hg
  have q2 : decide (grow ≤ M) = true := decide_eq_true hg2
  clear h hg hg2
  go_enter Try.func62, Try.ntmps62
  go_wp2_with fail
  exact bodyPost_end (results_none rfl _ _ _) rfl ⟨⟨_, rfl⟩, OX3.out, (KX1.out.trans KX2.out).trans KX3.out⟩
set_option maxHeartbeats 2000000 in
theorem stepNo (P n cP cF cS : Nat) (aP aF aS : Option Addr) (cnt fac good : Int) (B cap : Nat) (a : Option Addr) (Gr : Nat → Int) (d p l m nn k z o y s g : Int) (w : World) (h : C6 w P (OV aP aF aS n cP cF cS cnt fac good)) (hB : B ≤ w.heap.size) (hI : Ints B w a n Gr) (n4 : (n : Int) ≤ 4096) (c0 : 0 ≤ cnt) (c1 : cnt < 1000000) (f0 : 1 ≤ fac) (f1 : fac ≤ 65536) (Fh : Int) (hg : ib (-16777216) 16777216 n Gr = false) (hF : max (fac.tdiv 2) 1 = Fh) :
    Calls Try.prog 51 #[.pointer (some ⟨P, 0, none⟩), .agg #[.int .i64 d, .int .i64 p, .int .i64 l, .int .i64 m, .int .i64 nn, .int .i64 k, .int .i64 z, .int .i64 o, .int .i64 y, .int .i64 s, .int .i64 g], .slice a n cap] w fun e w' => (∃ v, e = .returned v) ∧ C6 w' P (OV aP aF aS n cP cF cS (cnt + 1) Fh 0) ∧ Kept (· = P) w w' := by
  obtain ⟨W1, hW1⟩ : ∃ W1, w.alloc (.cells #[.int .i64 d, .int .i64 p, .int .i64 l, .int .i64 m, .int .i64 nn, .int .i64 k, .int .i64 z, .int .i64 o, .int .i64 y, .int .i64 s, .int .i64 g] 27) = W1 := ⟨_, rfl⟩
  have n1 : Below w.heap.size w W1 := hW1 ▸ (Below.refl _ _).alloc (Nat.le_refl _) _
  have z1 : w.heap.size < W1.heap.size := by rw [← hW1]; simp
  have r0 : W1.cell? ⟨w.heap.size, 0, none⟩ = some (.int .i64 d) := by rw [← hW1]; simp [go_sem]
  have r1 : W1.cell? ⟨w.heap.size, 1, none⟩ = some (.int .i64 p) := by rw [← hW1]; simp [go_sem]
  have r2 : W1.cell? ⟨w.heap.size, 2, none⟩ = some (.int .i64 l) := by rw [← hW1]; simp [go_sem]
  have r3 : W1.cell? ⟨w.heap.size, 3, none⟩ = some (.int .i64 m) := by rw [← hW1]; simp [go_sem]
  have r4 : W1.cell? ⟨w.heap.size, 4, none⟩ = some (.int .i64 nn) := by rw [← hW1]; simp [go_sem]
  have r5 : W1.cell? ⟨w.heap.size, 5, none⟩ = some (.int .i64 k) := by rw [← hW1]; simp [go_sem]
  have r6 : W1.cell? ⟨w.heap.size, 6, none⟩ = some (.int .i64 z) := by rw [← hW1]; simp [go_sem]
  have r7 : W1.cell? ⟨w.heap.size, 7, none⟩ = some (.int .i64 o) := by rw [← hW1]; simp [go_sem]
  have r8 : W1.cell? ⟨w.heap.size, 8, none⟩ = some (.int .i64 y) := by rw [← hW1]; simp [go_sem]
  have r9 : W1.cell? ⟨w.heap.size, 9, none⟩ = some (.int .i64 s) := by rw [← hW1]; simp [go_sem]
  have r10 : W1.cell? ⟨w.heap.size, 10, none⟩ = some (.int .i64 g) := by rw [← hW1]; simp [go_sem]
  have PZ := hide h.z
  have O1 := hide (h.kept (Kept.of_below (S := fun _ => False) n1) id)
  have CA := hide (areGradsF B a n cap Gr W1 (Nat.le_trans hB n1.size) (hI.below (n1.mono hB)) (by omega))
  have wc : IntKind.i64.wrap (cnt + 1) = cnt + 1 := by rw [IntKind.wrap_i64]; omega
  have N1 := hide n1
  have Z1 := hide z1
  rw [hg] at CA
  have wf : IntKind.i64.wrap (fac.tdiv 2) = fac.tdiv 2 := by rw [Int.tdiv_eq_ediv_of_nonneg (by omega), IntKind.wrap_i64]; omega
  clear h hg hB hI n4 n1 z1 c0 c1 f0 f1
  go_enter Try.func51, Try.ntmps51
  go_wp2_with fail
  refine CA.out.mono ?_; rintro e1 w1 ⟨rfl, q1⟩
  have OA := hide (O1.out.kept (Kept.of_below (S := fun _ => False) q1) id)
  have KA := hide (Kept.of_below (S := (· = P)) (N1.out.trans (q1.mono N1.out.size)))
  have c4 : w1.cell? ⟨P, 4, none⟩ = some (.int .i64 fac) := OA.out.c 4 (by omega)
  clear q1 hW1 r0 r1 r2 r3 r4 r5 r6 r7 r8 r9 r10
  obtain ⟨X1, hX1⟩ : ∃ X1, w1.setCell ⟨P, 4, none⟩ (.int .i64 Fh) = X1 := ⟨_, rfl⟩
  have OX1 := hide (hX1 ▸ (OA.out.set 4 (.int .i64 Fh) (by omega)).same (fun i hi => ov4 i hi) : C6 X1 P (OV aP aF aS n cP cF cS cnt Fh good))
  have eX1 : w1.cell? ⟨P, 4, none⟩ = some (.int .i64 fac) := OA.out.c 4 (by omega)
  have fX1 := OA.out.f 4
  have KX1 := hide (hX1 ▸ Kept.setCell w1 ⟨P, 4, none⟩ _ : Kept (· = P) w1 X1)
  obtain ⟨X2, hX2⟩ : ∃ X2, X1.setCell ⟨P, 5, none⟩ (.int .i64 0) = X2 := ⟨_, rfl⟩
  have OX2 := hide (hX2 ▸ (OX1.out.set 5 (.int .i64 0) (by omega)).same (fun i hi => ov5 i hi) : C6 X2 P (OV aP aF aS n cP cF cS cnt Fh 0))
  have eX2 : X1.cell? ⟨P, 5, none⟩ = some (.int .i64 good) := OX1.out.c 5 (by omega)
  have fX2 := OX1.out.f 5
  have KX2 := hide (hX2 ▸ Kept.setCell X1 ⟨P, 5, none⟩ _ : Kept (· = P) X1 X2)
  obtain ⟨X3, hX3⟩ : ∃ X3, X2.setCell ⟨P, 3, none⟩ (.int .i64 (cnt + 1)) = X3 := ⟨_, rfl⟩
  have OX3 := hide (hX3 ▸ (OX2.out.set 3 (.int .i64 (cnt + 1)) (by omega)).same (fun i hi => ov3 i hi) : C6 X3 P (OV aP aF aS n cP cF cS (cnt + 1) Fh 0))
  have eX3 : X2.cell? ⟨P, 3, none⟩ = some (.int .i64 cnt) := OX2.out.c 3 (by omega)
  have fX3 := OX2.out.f 3
  have KX3 := hide (hX3 ▸ Kept.setCell X2 ⟨P, 3, none⟩ _ : Kept (· = P) X2 X3)
  have d3 : X2.cell? ⟨P, 3, none⟩ = some (.int .i64 cnt) := OX2.out.c 3 (by omega)
  go_wp2_with fail
  exact bodyPost_end (results_none rfl _ _ _) rfl ⟨⟨_, rfl⟩, OX3.out, ((KA.out.trans KX1.out).trans KX2.out).trans KX3.out⟩
set_option maxHeartbeats 2000000 in
theorem stepYes (P n cP cF cS : Nat) (aP aF aS : Option Addr) (cnt fac good : Int) (B cap : Nat) (a : Option Addr) (Gr : Nat → Int) (d p l m nn k z o y s g : Int) (w : World) (h : C6 w P (OV aP aF aS n cP cF cS cnt fac good)) (hB : B ≤ w.heap.size) (hI : Ints B w a n Gr) (n4 : (n : Int) ≤ 4096) (c0 : 0 ≤ cnt) (c1 : cnt < 1000000) (f0 : 1 ≤ fac) (f1 : fac ≤ 65536) (gP gF gS : Nat) (NP NF NS : Nat → Int) (F' G' : Int) (hd : P ≠ gP ∧ P ≠ gF ∧ P ≠ gS) (hg : ib (-16777216) 16777216 n Gr = true)
    (hMv : ∀ W, Below w.heap.size w W → C6 W P (OV aP aF aS n cP cF cS cnt fac good) → Calls Try.prog 61 #[.pointer (some ⟨P, 0, none⟩), .agg #[.int .i64 d, .int .i64 p, .int .i64 l, .int .i64 m, .int .i64 nn, .int .i64 k, .int .i64 z, .int .i64 o, .int .i64 y, .int .i64 s, .int .i64 g], .slice a n cap] W fun e w' => (∃ v, e = .returned v) ∧ (Rw w' gP n NP ∧ Rw w' gF n NF ∧ Rw w' gS n NS) ∧ Kept (T3 gP gF gS) W w')
    (hPr : ∀ W, C6 W P (OV aP aF aS n cP cF cS cnt fac good) → Calls Try.prog 62 #[.pointer (some ⟨P, 0, none⟩), .int .i64 g] W fun e w' => (∃ v, e = .returned v) ∧ C6 w' P (OV aP aF aS n cP cF cS cnt F' G') ∧ Kept (· = P) W w') (gl : n ≠ 0 → gP < w.heap.size ∧ gF < w.heap.size ∧ gS < w.heap.size) (gz : w.heap.size ≠ gP ∧ w.heap.size ≠ gF ∧ w.heap.size ≠ gS) :
    Calls Try.prog 51 #[.pointer (some ⟨P, 0, none⟩), .agg #[.int .i64 d, .int .i64 p, .int .i64 l, .int .i64 m, .int .i64 nn, .int .i64 k, .int .i64 z, .int .i64 o, .int .i64 y, .int .i64 s, .int .i64 g], .slice a n cap] w fun e w' => (∃ v, e = .returned v) ∧ C6 w' P (OV aP aF aS n cP cF cS (cnt + 1) F' G') ∧ (Rw w' gP n NP ∧ Rw w' gF n NF ∧ Rw w' gS n NS) ∧ Kept (fun b => b = P ∨ T3 gP gF gS b) w w' := by
  obtain ⟨W1, hW1⟩ : ∃ W1, w.alloc (.cells #[.int .i64 d, .int .i64 p, .int .i64 l, .int .i64 m, .int .i64 nn, .int .i64 k, .int .i64 z, .int .i64 o, .int .i64 y, .int .i64 s, .int .i64 g] 27) = W1 := ⟨_, rfl⟩
  have n1 : Below w.heap.size w W1 := hW1 ▸ (Below.refl _ _).alloc (Nat.le_refl _) _
  have z1 : w.heap.size < W1.heap.size := by rw [← hW1]; simp
  have r0 : W1.cell? ⟨w.heap.size, 0, none⟩ = some (.int .i64 d) := by rw [← hW1]; simp [go_sem]
  have r1 : W1.cell? ⟨w.heap.size, 1, none⟩ = some (.int .i64 p) := by rw [← hW1]; simp [go_sem]
  have r2 : W1.cell? ⟨w.heap.size, 2, none⟩ = some (.int .i64 l) := by rw [← hW1]; simp [go_sem]
  have r3 : W1.cell? ⟨w.heap.size, 3, none⟩ = some (.int .i64 m) := by rw [← hW1]; simp [go_sem]
  have r4 : W1.cell? ⟨w.heap.size, 4, none⟩ = some (.int .i64 nn) := by rw [← hW1]; simp [go_sem]
  have r5 : W1.cell? ⟨w.heap.size, 5, none⟩ = some (.int .i64 k) := by rw [← hW1]; simp [go_sem]
  have r6 : W1.cell? ⟨w.heap.size, 6, none⟩ = some (.int .i64 z) := by rw [← hW1]; simp [go_sem]
  have r7 : W1.cell? ⟨w.heap.size, 7, none⟩ = some (.int .i64 o) := by rw [← hW1]; simp [go_sem]
  have r8 : W1.cell? ⟨w.heap.size, 8, none⟩ = some (.int .i64 y) := by rw [← hW1]; simp [go_sem]
  have r9 : W1.cell? ⟨w.heap.size, 9, none⟩ = some (.int .i64 s) := by rw [← hW1]; simp [go_sem]
  have r10 : W1.cell? ⟨w.heap.size, 10, none⟩ = some (.int .i64 g) := by rw [← hW1]; simp [go_sem]
  have PZ := hide h.z
  have O1 := hide (h.kept (Kept.of_below (S := fun _ => False) n1) id)
  have CA := hide (areGradsF B a n cap Gr W1 (Nat.le_trans hB n1.size) (hI.below (n1.mono hB)) (by omega))
  have wc : IntKind.i64.wrap (cnt + 1) = cnt + 1 := by rw [IntKind.wrap_i64]; omega
  have N1 := hide n1
  have Z1 := hide z1
  rw [hg] at CA
  have CM := hide hMv
  have CP := hide hPr
  have HD := hide hd
  have GZ := hide gz
  clear h hg hB hI n4 n1 z1 c0 c1 f0 f1 hMv hPr hd gz gl
  go_enter Try.func51, Try.ntmps51
  go_wp2_with fail
  refine CA.out.mono ?_; rintro e1 w1 ⟨rfl, q1⟩
  have OA := hide (O1.out.kept (Kept.of_below (S := fun _ => False) q1) id)
  have BA := hide (N1.out.trans (q1.mono N1.out.size))
  have KA := hide (Kept.of_below (S := fun b => b = P ∨ T3 gP gF gS b) BA.out)
  have s0 : w1.cell? ⟨w.heap.size, 0, none⟩ = some (.int .i64 d) := (q1.cell (p := ⟨w.heap.size, 0, none⟩) Z1.out).trans r0
  have s1 : w1.cell? ⟨w.heap.size, 1, none⟩ = some (.int .i64 p) := (q1.cell (p := ⟨w.heap.size, 1, none⟩) Z1.out).trans r1
  have s2 : w1.cell? ⟨w.heap.size, 2, none⟩ = some (.int .i64 l) := (q1.cell (p := ⟨w.heap.size, 2, none⟩) Z1.out).trans r2
  have s3 : w1.cell? ⟨w.heap.size, 3, none⟩ = some (.int .i64 m) := (q1.cell (p := ⟨w.heap.size, 3, none⟩) Z1.out).trans r3
  have s4 : w1.cell? ⟨w.heap.size, 4, none⟩ = some (.int .i64 nn) := (q1.cell (p := ⟨w.heap.size, 4, none⟩) Z1.out).trans r4
  have s5 : w1.cell? ⟨w.heap.size, 5, none⟩ = some (.int .i64 k) := (q1.cell (p := ⟨w.heap.size, 5, none⟩) Z1.out).trans r5
  have s6 : w1.cell? ⟨w.heap.size, 6, none⟩ = some (.int .i64 z) := (q1.cell (p := ⟨w.heap.size, 6, none⟩) Z1.out).trans r6
  have s7 : w1.cell? ⟨w.heap.size, 7, none⟩ = some (.int .i64 o) := (q1.cell (p := ⟨w.heap.size, 7, none⟩) Z1.out).trans r7
  have s8 : w1.cell? ⟨w.heap.size, 8, none⟩ = some (.int .i64 y) := (q1.cell (p := ⟨w.heap.size, 8, none⟩) Z1.out).trans r8
  have s9 : w1.cell? ⟨w.heap.size, 9, none⟩ = some (.int .i64 s) := (q1.cell (p := ⟨w.heap.size, 9, none⟩) Z1.out).trans r9
  have s10 : w1.cell? ⟨w.heap.size, 10, none⟩ = some (.int .i64 g) := (q1.cell (p := ⟨w.heap.size, 10, none⟩) Z1.out).trans r10
  have CMm := hide (CM.out w1 BA.out OA.out)
  have Z2 := hide (Nat.lt_of_lt_of_le Z1.out q1.size)
  clear q1 hW1 r0 r1 r2 r3 r4 r5 r6 r7 r8 r9 r10
  go_wp2_with fail
  refine CMm.out.mono ?_; rintro e2 w2 ⟨⟨v2, rfl⟩, ⟨a1, a2, a3⟩, k2⟩
  have A1 := hide a1
  have A2 := hide a2
  have A3 := hide a3
  have OB := hide (OA.out.kept k2 (by have := HD.out; show ¬ (P = gP ∨ P = gF ∨ P = gS); omega))
  have s10' : w2.cell? ⟨w.heap.size, 10, none⟩ = some (.int .i64 g) := (World.cell?_of_block (w := w1) (a := ⟨w.heap.size, 10, none⟩) (k2.block _ Z2.out (by have := GZ.out; show ¬ (w.heap.size = gP ∨ w.heap.size = gF ∨ w.heap.size = gS); omega))).trans s10
  have KB := hide (KA.out.trans (k2.mono (fun _ _ q => .inr q)))
  clear a1 a2 a3 k2 CMm s0 s1 s2 s3 s4 s5 s6 s7 s8 s9 s10
  go_wp2_with fail
  refine (CP.out _ OB.out).mono ?_; rintro e3 w3 ⟨⟨v3, rfl⟩, o3, k3⟩
  have OC := hide o3
  have KC := hide (KB.out.trans (k3.mono (fun _ _ q => .inl q)))
  have HDD := HD.out
  replace A1 := hide (A1.out.kept k3 (fun e => HDD.1 e.symm))
  replace A2 := hide (A2.out.kept k3 (fun e => HDD.2.1 e.symm))
  replace A3 := hide (A3.out.kept k3 (fun e => HDD.2.2 e.symm))
  clear o3 k3 s10' HDD
  obtain ⟨X1, hX1⟩ : ∃ X1, w3.setCell ⟨P, 3, none⟩ (.int .i64 (cnt + 1)) = X1 := ⟨_, rfl⟩
  have OX1 := hide (hX1 ▸ (OC.out.set 3 (.int .i64 (cnt + 1)) (by omega)).same (fun i hi => ov3 i hi) : C6 X1 P (OV aP aF aS n cP cF cS (cnt + 1) F' G'))
  have eX1 : w3.cell? ⟨P, 3, none⟩ = some (.int .i64 cnt) := OC.out.c 3 (by omega)
  have fX1 := OC.out.f 3
  have KX1 := hide (hX1 ▸ Kept.setCell w3 ⟨P, 3, none⟩ _ : Kept (· = P) w3 X1)
  have d3 : w3.cell? ⟨P, 3, none⟩ = some (.int .i64 cnt) := OC.out.c 3 (by omega)
  go_wp2_with fail
  have HDD := HD.out
  exact bodyPost_end (results_none rfl _ _ _) rfl ⟨⟨_, rfl⟩, OX1.out, ⟨A1.out.kept KX1.out (fun e => HDD.1 e.symm), A2.out.kept KX1.out (fun e => HDD.2.1 e.symm), A3.out.kept KX1.out (fun e => HDD.2.2 e.symm)⟩, KC.out.trans (KX1.out.mono (fun _ _ q => .inl q))⟩
end Vo
end Go.Proofs.Ytflbhlepmjiejaa
