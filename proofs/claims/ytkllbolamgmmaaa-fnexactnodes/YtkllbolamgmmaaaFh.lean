/- Moves: what the laws do with them. -/
import Derived.Test.YtkllbolamgmmaaaFg
namespace Go.Proofs.Ytkllbolamgmmaaa
namespace Vo
open Go.ChangeShapes Go.WideShapes Go.ChangeAt Go.RowKit Go.Joins Go.Sort
open Vl
set_option linter.unusedVariables false
set_option linter.unusedSimpArgs false
def mkMv (k : Int) : Mov := ⟨k, k + 1, k + 1 + 1, (k + 1 + 1 + 1) % 3 == 0⟩
def mkm (k : Int) : Nat → List Mov | 0 => [] | n + 1 => mkm k n ++ [mkMv (k + 4 * (n : Int))]
theorem mkm_len (k : Int) : ∀ n, (mkm k n).length = n
  | 0 => rfl
  | n + 1 => by unfold mkm; rw [List.length_append, mkm_len k n]; rfl
theorem mkm_get (k : Int) : ∀ (n i : Nat) (h : i < (mkm k n).length), (mkm k n)[i] = mkMv (k + 4 * (i : Int))
  | 0, i, h => by simp [mkm] at h
  | n + 1, i, h => by
    rw [mkm_len] at h
    by_cases c : i < n
    · have : (mkm k (n + 1))[i]'(by rw [mkm_len]; omega) = (mkm k n)[i]'(by rw [mkm_len]; omega) := by
        simp only [mkm]; rw [List.getElem_append_left]
      rw [this, mkm_get k n i]
    · obtain rfl : i = n := by omega
      have : (mkm k (i + 1))[i]'(by rw [mkm_len]; omega) = mkMv (k + 4 * (i : Int)) := by
        simp only [mkm]; rw [List.getElem_append_right (by rw [mkm_len]; omega)]; simp [mkm_len]
      exact this
theorem mkm_step (k : Int) (l : List Mov) (j : Nat) (hj : j < l.length) : (mkm k j ++ l.drop j).set j (mkMv (k + 4 * (j : Int))) = mkm k (j + 1) ++ l.drop (j + 1) := by
  rw [List.drop_eq_getElem_cons hj, List.set_append_right _ _ (by rw [mkm_len]; omega), mkm_len, Nat.sub_self, List.set_cons_zero]
  simp [mkm]
theorem mvb_cases {l : List Mov} {i : Nat} {u : Value} (h : (mvb l)[i]? = some u) : ∃ h : i / 4 < l.length, (mcs l[i / 4])[i % 4]? = some u := by
  have hi : i < (mvb l).length := (List.getElem?_eq_some_iff.1 h).1
  rw [mvb_len] at hi
  have hq : i / 4 < l.length := by omega
  refine ⟨hq, ?_⟩
  rw [← mvb_get (by omega) l (i / 4) hq, ← h]
  congr 1; omega
theorem om_set {E g j : Nat} {w : World} {l : List Mov} (h : OM E w (some ⟨g, 0, none⟩) l) (hj : j < l.length) (x : Mov) :
    OM E ((((w.setCell ⟨g, j * 4, none⟩ (.int .i64 x.f)).setCell ⟨g, j * 4 + 1, none⟩ (.int .i64 x.t)).setCell ⟨g, j * 4 + 2, none⟩ (.int .i64 x.c)).setCell ⟨g, j * 4 + 3, none⟩ (.bool x.d)) (some ⟨g, 0, none⟩) (l.set j x) := by
  rcases h with h | ⟨g', e, h1, h2, h3, h4⟩
  · subst h; simp at hj
  · cases e
    obtain ⟨e0, e1, e2, e3⟩ := mov_at (o := 0) (w := w) (b := g) (l := l) (fun j u hu => by rw [Nat.zero_add]; exact h3 j u hu) j hj
    rw [Nat.zero_add] at e0 e1 e2 e3
    refine .inr ⟨g, rfl, h1, by simpa [World.setCell] using h2, fun i u hu => ?_, fun i => by rw [World.frozen?_setCell, World.frozen?_setCell, World.frozen?_setCell, World.frozen?_setCell]; exact h4 i⟩
    obtain ⟨hq, hm⟩ := mvb_cases hu
    have hq : i / 4 < l.length := by simpa using hq
    by_cases c : i / 4 = j
    · subst c
      rw [List.getElem_set_self] at hm
      have d4 : i % 4 < 4 := by omega
      rcases (by omega : i % 4 = 0 ∨ i % 4 = 1 ∨ i % 4 = 2 ∨ i % 4 = 3) with d | d | d | d
      · rw [d] at hm
        obtain rfl : Value.int .i64 x.f = u := by simpa [mcs] using hm
        rw [show i = i / 4 * 4 by omega]
        rw [show i / 4 * 4 / 4 = i / 4 by omega]
        rw [World.cell?_setCell_other _ _ _ _ (by intro e; injection e with _ e _; omega), World.cell?_setCell_other _ _ _ _ (by intro e; injection e with _ e _; omega), World.cell?_setCell_other _ _ _ _ (by intro e; injection e with _ e _; omega)]
        exact World.cell?_setCell_same _ _ _ e0
      · rw [d] at hm
        obtain rfl : Value.int .i64 x.t = u := by simpa [mcs] using hm
        rw [show (⟨g, i, none⟩ : Addr) = ⟨g, i / 4 * 4 + 1, none⟩ by congr 1; omega]
        rw [World.cell?_setCell_other _ _ _ _ (by intro e; injection e with _ e _; omega), World.cell?_setCell_other _ _ _ _ (by intro e; injection e with _ e _; omega)]
        exact World.cell?_setCell_same _ _ _ ((World.cell?_setCell_other _ _ _ _ (by intro e; injection e with _ e _; omega)).trans e1)
      · rw [d] at hm
        obtain rfl : Value.int .i64 x.c = u := by simpa [mcs] using hm
        rw [show (⟨g, i, none⟩ : Addr) = ⟨g, i / 4 * 4 + 2, none⟩ by congr 1; omega]
        rw [World.cell?_setCell_other _ _ _ _ (by intro e; injection e with _ e _; omega)]
        exact World.cell?_setCell_same _ _ _ ((World.cell?_setCell_other _ _ _ _ (by intro e; injection e with _ e _; omega)).trans ((World.cell?_setCell_other _ _ _ _ (by intro e; injection e with _ e _; omega)).trans e2))
      · rw [d] at hm
        obtain rfl : Value.bool x.d = u := by simpa [mcs] using hm
        rw [show (⟨g, i, none⟩ : Addr) = ⟨g, i / 4 * 4 + 3, none⟩ by congr 1; omega]
        exact World.cell?_setCell_same _ _ _ ((World.cell?_setCell_other _ _ _ _ (by intro e; injection e with _ e _; omega)).trans ((World.cell?_setCell_other _ _ _ _ (by intro e; injection e with _ e _; omega)).trans ((World.cell?_setCell_other _ _ _ _ (by intro e; injection e with _ e _; omega)).trans e3)))
    · rw [List.getElem_set_ne (by omega)] at hm
      rw [World.cell?_setCell_other _ _ _ _ (by intro e; injection e with _ e _; omega), World.cell?_setCell_other _ _ _ _ (by intro e; injection e with _ e _; omega), World.cell?_setCell_other _ _ _ _ (by intro e; injection e with _ e _; omega), World.cell?_setCell_other _ _ _ _ (by intro e; injection e with _ e _; omega)]
      refine h3 i u ?_
      rw [← hm, ← mvb_get (by omega) l (i / 4) hq]
      congr 1; omega
theorem kept_mov (w : World) (g o0 o1 o2 o3 : Nat) (u0 u1 u2 u3 : Value) : Kept (· = g) w ((((w.setCell ⟨g, o0, none⟩ u0).setCell ⟨g, o1, none⟩ u1).setCell ⟨g, o2, none⟩ u2).setCell ⟨g, o3, none⟩ u3) :=
  (((Kept.setCell w ⟨g, o0, none⟩ u0).trans (Kept.setCell _ ⟨g, o1, none⟩ u1)).trans (Kept.setCell _ ⟨g, o2, none⟩ u2)).trans (Kept.setCell _ ⟨g, o3, none⟩ u3)
set_option maxHeartbeats 1000000 in
theorem eqMove (x : Mov) (w : World) : Calls Try.prog 40 #[.agg #[.int .i64 x.f, .int .i64 x.t, .int .i64 x.c, .bool x.d], .agg #[.int .i64 x.f, .int .i64 x.t, .int .i64 x.c, .bool x.d]] w fun e w' => e = .returned (.bool true) ∧ Below w.heap.size w w' := by
  have B0 := hide (show Below w.heap.size w ((w.alloc (.cells #[.int .i64 x.f, .int .i64 x.t, .int .i64 x.c, .bool x.d] 33)).alloc (.cells #[.int .i64 x.f, .int .i64 x.t, .int .i64 x.c, .bool x.d] 33)) from ((Below.refl _ _).alloc (Nat.le_refl _) _).alloc (by simp) _)
  have cb : (x.f != x.f) = false := by simp
  have cs : (x.t != x.t) = false := by simp
  have cf : (x.c != x.c) = false := by simp
  have ct : (x.d != x.d) = false := by simp
  go_enter Try.func40, Try.ntmps40
  go_wp2_with fail
  go_ret
  exact ⟨rfl, B0.out⟩
set_option maxHeartbeats 1000000 in
theorem eqMoveS (B : Nat) (a b : Option Addr) (n cap cap' : Nat) (l : List Mov) (w : World) (hl : l.length = n) (hB : B ≤ w.heap.size) (h : ML B w a l) (h' : ML B w b l) (hn : (n : Int) ≤ 1048576) :
    Calls Try.prog 23 #[.slice a n cap, .slice b n cap'] w fun e w' => e = .returned (.bool true) ∧ Below w.heap.size w w' := by
  have H := hide h
  have H' := hide h'
  have HL := hide hl
  have c' : ((n : Int) != (n : Int)) = false := by simp
  clear h h' hl
  go_enter Try.func23, Try.ntmps23
  go_wp2_with fail
  clear c'
  go_loopw [5] (fun i wx => ∃ k : Nat, k ≤ n ∧ i = .int .i64 k ∧ Below w.heap.size w wx) (fun i _ => n - (intOf i).toNat)
  case atStart => exact ⟨0, Nat.zero_le _, rfl, Below.refl _ _⟩
  case round =>
    obtain ⟨X, rfl⟩ : ∃ X, X = wr := ⟨_, rfl⟩
    obtain ⟨k, hk, rfl, hby⟩ := hrel
    have HBY := hide hby
    clear hby
    by_cases hlt : k < n
    · have kI : (k : Int) < n := by omega
      have kL : k < l.length := by rw [HL.out]; exact hlt
      rcases H.out.below (HBY.out.mono hB) with q0 | ⟨ba, oa, rfl, hba, hca⟩
      · rw [q0] at kL; simp at kL
      rcases H'.out.below (HBY.out.mono hB) with q0 | ⟨bb, ob, rfl, hbb, hcb⟩
      · rw [q0] at kL; simp at kL
      obtain ⟨a0, a1, a2, a3⟩ := mov_at hca k kL
      obtain ⟨b0, b1, b2, b3⟩ := mov_at hcb k kL
      have CE := hide (eqMove l[k] X.drew)
      obtain ⟨x, hx⟩ : ∃ x, l[k] = x := ⟨_, rfl⟩
      rw [hx] at a0 a1 a2 a3 b0 b1 b2 b3 CE
      clear hca hcb hx
      have FF := hide (fun (W : World) (hW : Below X.drew.heap.size X.drew W) (p : Addr) (hp : p.block < B) => show W.cell? p = X.cell? p from hW.cell (p := p) (by show p.block < X.heap.size; have := HBY.out.size; omega))
      go_wp2_with fail
      go_region_held3 (fun w' => (w'.cell? ⟨ba, oa + k * 4, none⟩ = some (.int .i64 x.f) ∧ w'.cell? ⟨ba, oa + k * 4 + 1, none⟩ = some (.int .i64 x.t) ∧ w'.cell? ⟨ba, oa + k * 4 + 2, none⟩ = some (.int .i64 x.c) ∧ w'.cell? ⟨ba, oa + k * 4 + 3, none⟩ = some (.bool x.d)) ∧ (w'.cell? ⟨bb, ob + k * 4, none⟩ = some (.int .i64 x.f) ∧ w'.cell? ⟨bb, ob + k * 4 + 1, none⟩ = some (.int .i64 x.t) ∧ w'.cell? ⟨bb, ob + k * 4 + 2, none⟩ = some (.int .i64 x.c) ∧ w'.cell? ⟨bb, ob + k * 4 + 3, none⟩ = some (.bool x.d)))
        ((try dsimp only) <;> (repeat' apply And.intro) <;> (first | with_reducible assumption | assumption))
        (first
        | (go_at_call 40
           refine CE.out.mono ?_
           rintro e X1 ⟨rfl, bX⟩
           have f1 := (FF.out X1 bX ⟨ba, oa + k * 4, none⟩ hba).trans a0
           have f2 := (FF.out X1 bX ⟨ba, oa + k * 4 + 1, none⟩ hba).trans a1
           have f3 := (FF.out X1 bX ⟨ba, oa + k * 4 + 2, none⟩ hba).trans a2
           have f3' := (FF.out X1 bX ⟨ba, oa + k * 4 + 3, none⟩ hba).trans a3
           have f4 := (FF.out X1 bX ⟨bb, ob + k * 4, none⟩ hbb).trans b0
           have f5 := (FF.out X1 bX ⟨bb, ob + k * 4 + 1, none⟩ hbb).trans b1
           have f6 := (FF.out X1 bX ⟨bb, ob + k * 4 + 2, none⟩ hbb).trans b2
           have f6' := (FF.out X1 bX ⟨bb, ob + k * 4 + 3, none⟩ hbb).trans b3
           have BX := hide bX
           clear bX))
      all_goals (go_wp2_with fail)
      all_goals go_roundw
      all_goals first
        | (simp only [intOf]; omega)
        | (simp [intOf]; omega)
        | exact ⟨k + 1, by omega, by go_num, HBY.out.drew.trans (BX.out.mono HBY.out.size)⟩
    · obtain rfl : k = n := by omega
      go_wp2_with fail
      go_ret
      exact ⟨rfl, HBY.out⟩
set_option maxHeartbeats 2000000 in
theorem markMoveS (E : Nat) (a : Option Addr) (n c : Nat) (l : List Mov) (k : Int) (w : World) (hl : l.length = n) (h : OM E w a l) (hn : (n : Int) ≤ 1048576) (k0 : 0 ≤ k) (k1 : k ≤ 67108864) :
    Calls Try.prog 24 #[.slice a n c, .int .i64 k] w fun e w' => e = .returned (.int .i64 (k + 4 * n)) ∧ OM E w' a (mkm k n) ∧ Kept (Blk a n) w w' := by
  have H := hide h
  have HL := hide hl
  clear h hl
  go_enter Try.func24, Try.ntmps24
  go_wp2_with fail
  go_loopw [1, 5] (fun x i wx => ∃ (j : Nat) (y : Int), j ≤ n ∧ x = .int .i64 y ∧ i = .int .i64 j ∧ y = k + 4 * j ∧ OM E wx a (mkm k j ++ l.drop j) ∧ Kept (Blk a n) w wx) (fun _ i _ => n - (intOf i).toNat)
  case atStart => exact ⟨0, k, Nat.zero_le _, rfl, rfl, by omega, H.out, Kept.refl _ _⟩
  case round =>
    obtain ⟨X, rfl⟩ : ∃ X, X = wr := ⟨_, rfl⟩
    obtain ⟨j, y, hj, rfl, rfl, hy, ho, hk⟩ := hrel
    have HO := hide ho
    have HK := hide hk
    have HY := hide hy
    by_cases hlt : j < n
    · have jI : (j : Int) < n := by omega
      have jL : j < l.length := by rw [HL.out]; exact hlt
      have jM : j < (mkm k j ++ l.drop j).length := by rw [List.length_append, mkm_len, List.length_drop]; omega
      obtain ⟨g, rfl, g1, g2, g3, g4⟩ : ∃ g, a = some ⟨g, 0, none⟩ ∧ E ≤ g ∧ g < X.heap.size ∧ (∀ i u, (mvb (mkm k j ++ l.drop j))[i]? = some u → X.cell? ⟨g, i, none⟩ = some u) ∧ ∀ i, X.frozen? ⟨g, i, none⟩ = false := by
        rcases ho with q | q
        · rw [q] at jM; simp at jM
        · exact q
      obtain ⟨c0, c1, c2, c3⟩ := mov_at (o := 0) (w := X) (b := g) (fun i u hu => by rw [Nat.zero_add]; exact g3 i u hu) j jM
      rw [Nat.zero_add] at c0 c1 c2 c3
      have f0 := g4 (j * 4)
      have f1 := g4 (j * 4 + 1)
      have f2 := g4 (j * 4 + 2)
      have f3 := g4 (j * 4 + 3)
      have y0 : 0 ≤ y := by omega
      have y1 : y ≤ 71303168 := by omega
      have w1 : IntKind.i64.wrap (y + 1) = y + 1 := by rw [IntKind.wrap_i64]; omega
      have w2 : IntKind.i64.wrap (y + 1 + 1) = y + 1 + 1 := by rw [IntKind.wrap_i64]; omega
      have w3 : IntKind.i64.wrap (y + 1 + 1 + 1) = y + 1 + 1 + 1 := by rw [IntKind.wrap_i64]; omega
      have w4 : IntKind.i64.wrap (y + 1 + 1 + 1 + 1) = y + 1 + 1 + 1 + 1 := by rw [IntKind.wrap_i64]; omega
      have w5 : IntKind.i64.wrap ((y + 1 + 1 + 1).tmod 3) = (y + 1 + 1 + 1).tmod 3 := by
        rw [Int.tmod_eq_emod_of_nonneg (by omega), IntKind.wrap_i64]; omega
      have OS := om_set HO.out jM (mkMv y)
      rw [hy, mkm_step k l j jL, ← hy] at OS
      have OS := hide OS
      have BL := hide (show Blk (some ⟨g, 0, none⟩) n g from ⟨by omega, _, rfl, rfl⟩)
      have NY := hide (show y + 1 + 1 + 1 + 1 = k + 4 * ((j + 1 : Nat) : Int) by omega)
      clear hy ho hk g3 g4 jL
      go_wp2_with fail
      go_roundw
      all_goals first
        | (simp only [intOf]; omega)
        | (simp [intOf]; omega)
        | exact ⟨j + 1, _, by omega, rfl, by go_num, NY.out, OS.out, HK.out.trans ((kept_mov _ _ _ _ _ _ _ _ _ _).mono (fun b _ e => by rw [show b = g from e]; exact BL.out))⟩
    · obtain rfl : j = n := by omega
      clear hy
      go_wp2_with fail
      go_ret
      refine ⟨by rw [← HY.out]; rfl, ?_, hk⟩
      rw [List.drop_of_length_le (by rw [HL.out]; omega), List.append_nil] at ho
      exact ho
set_option maxHeartbeats 2000000 in
theorem heldMoveS (B : Nat) (a : Option Addr) (n c : Nat) (k : Int) (w : World) (h : ML B w a (mkm k n)) (hn : (n : Int) ≤ 1048576) (k0 : 0 ≤ k) (k1 : k ≤ 67108864) :
    Calls Try.prog 25 #[.slice a n c, .int .i64 k] w fun e w' => e = .returned (.int .i64 (k + 4 * n)) ∧ w' = w := by
  have H := hide h
  clear h
  go_enter Try.func25, Try.ntmps25
  go_wp2_with fail
  go_loopw [1, 5] (fun x i wx => ∃ (j : Nat) (y : Int), j ≤ n ∧ x = .int .i64 y ∧ i = .int .i64 j ∧ y = k + 4 * j ∧ wx = w) (fun _ i _ => n - (intOf i).toNat)
  case atStart => exact ⟨0, k, Nat.zero_le _, rfl, rfl, by omega, rfl⟩
  case round =>
    obtain ⟨j, y, hj, rfl, rfl, hy, rfl⟩ := hrel
    have HY := hide hy
    by_cases hlt : j < n
    · have jI : (j : Int) < n := by omega
      have jM : j < (mkm k n).length := by rw [mkm_len]; exact hlt
      obtain ⟨b, o, rfl, _, hc⟩ : ∃ b o, a = some ⟨b, o, none⟩ ∧ b < B ∧ ∀ j u, (mvb (mkm k n))[j]? = some u → wr.cell? ⟨b, o + j, none⟩ = some u := by
        rcases H.out with q | q
        · rw [q] at jM; simp at jM
        · exact q
      obtain ⟨c0, c1, c2, c3⟩ := mov_at hc j jM
      rw [mkm_get] at c0 c1 c2 c3
      unfold mkMv at c0 c1 c2 c3
      dsimp only at c0 c1 c2 c3
      rw [← HY.out] at c0 c1 c2 c3
      have y0 : 0 ≤ y := by omega
      have y1 : y ≤ 71303168 := by omega
      have w1 : IntKind.i64.wrap (y + 1) = y + 1 := by rw [IntKind.wrap_i64]; omega
      have w2 : IntKind.i64.wrap (y + 1 + 1) = y + 1 + 1 := by rw [IntKind.wrap_i64]; omega
      have w3 : IntKind.i64.wrap (y + 1 + 1 + 1) = y + 1 + 1 + 1 := by rw [IntKind.wrap_i64]; omega
      have w4 : IntKind.i64.wrap (y + 1 + 1 + 1 + 1) = y + 1 + 1 + 1 + 1 := by rw [IntKind.wrap_i64]; omega
      have w5 : IntKind.i64.wrap ((y + 1 + 1 + 1).tmod 3) = (y + 1 + 1 + 1).tmod 3 := by
        rw [Int.tmod_eq_emod_of_nonneg (by omega), IntKind.wrap_i64]; omega
      have NY := hide (show y + 1 + 1 + 1 + 1 = k + 4 * ((j + 1 : Nat) : Int) by omega)
      have n0 : (y != y) = false := by simp
      have n1 : (y + 1 != y + 1) = false := by simp
      have n2 : (y + 1 + 1 != y + 1 + 1) = false := by simp
      have n3 : (((y + 1 + 1 + 1) % 3 == 0) != ((y + 1 + 1 + 1) % 3 == 0)) = false := by simp
      clear hy hc
      go_wp2_with fail
      go_roundw
      all_goals first
        | (simp only [intOf]; omega)
        | (simp [intOf]; omega)
        | exact ⟨j + 1, _, by omega, rfl, by go_num, NY.out, trivial⟩
    · obtain rfl : j = n := by omega
      clear hy
      go_wp2_with fail
      go_ret
      exact ⟨by rw [← HY.out]; rfl, rfl⟩
end Vo
end Go.Proofs.Ytkllbolamgmmaaa
