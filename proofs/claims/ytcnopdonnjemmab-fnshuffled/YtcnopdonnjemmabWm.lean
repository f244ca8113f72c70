/- Shuffles are permutations; what the law on shuffles draws. -/
import Derived.Test.YtcnopdonnjemmabWl
import Derived.Test.YtcnopdonnjemmabDraw
import Derived.Test.YtcnopdonnjemmabNef
namespace Go.Proofs.Ytcnopdonnjemmab
namespace Base
open Go.ChangeShapes Go.WideShapes Go.ChangeAt Go.RowKit Go.Joins
set_option linter.unusedVariables false
theorem l1Below32 (B : Nat) (p : Nat) (a : Option Addr) (len cap : Nat) (n : Int) (w : World) (hc : Cur B w p a len cap) (n0 : 257 ≤ n) (n1 : n ≤ 4294967296) :
    Calls Try.prog 31 #[.pointer (some ⟨p, 0, none⟩), .int .i64 n] w fun e w' => Drawn B p a len cap 0 (n - 1) w e w' := by
  have hc := hide hc
  have h2 : decide (n ≤ 256) = false := by rw [decide_eq_false_iff_not]; omega
  go_enter Try.func31, Try.ntmps31
  go_wp2_with fail
  refine (l1Byte B p a len cap _ hc.out).mono ?_; rintro e w1 ⟨x, x0, x1, rfl, d1, g1⟩
  go_wp2_with fail
  refine (l1Byte B p a len cap _ d1).mono ?_; rintro e w2 ⟨y, y0, y1, rfl, d2, g2⟩
  go_wp2_with fail
  refine (l1Byte B p a len cap _ d2).mono ?_; rintro e w3 ⟨z, z0, z1, rfl, d3, g3⟩
  go_wp2_with fail
  refine (l1Byte B p a len cap _ d3).mono ?_; rintro e w4 ⟨v, v0, v1, rfl, d4, g4⟩
  have r0 : 0 ≤ (x * 16777216 + y * 65536 + z * 256 + v) % n := Int.emod_nonneg _ (by omega)
  have r1 : (x * 16777216 + y * 65536 + z * 256 + v) % n < n := Int.emod_lt_of_pos _ (by omega)
  clear d1 d2 d3
  go_wp2_with fail
  go_ret
  exact ⟨_, r0, by omega, rfl, d4, ((g1.trans g2).trans g3).trans g4⟩
/-- a state is drawn -/
theorem drawState (B : Nat) (p : Nat) (a : Option Addr) (len cap : Nat) (w : World) (hc : Cur B w p a len cap) :
    Calls Try.prog 30 #[.pointer (some ⟨p, 0, none⟩)] w fun e w' => Drawn B p a len cap (-9223372036854775808) 9223372036854775807 w e w' := by
  have HC := hide hc
  clear hc
  go_enter Try.func30, Try.ntmps30
  go_wp2_with fail
  refine (Nef.l1Once B p a len cap 12 _ HC.out (by decide) (by decide)).mono ?_; rintro e w1 ⟨b, rfl, d1, g1⟩
  have D1 := hide d1
  have G1 := hide g1
  clear d1 g1 HC
  cases b
  · go_wp2_with fail
    refine (l1Below32 B p a len cap 4294967296 _ D1.out (by decide) (by decide)).mono ?_; rintro e w2 ⟨x, x0, x1, rfl, d2, g2⟩
    have D2 := hide d2
    have G2 := hide (G1.out.trans g2)
    clear d2 g2
    go_wp2_with fail
    go_ret
    exact ⟨x, by omega, by omega, rfl, D2.out, G2.out⟩
  · have hl := laid_ints w1 [0, 4294967295, 4294967296, -1] 3 (-9223372036854775808) 9223372036854775807 (by intro q hq; simp at hq; omega)
    have vp := D1.out.lt
    have DC := hide (D1.out.alloc (.cells (([0, 4294967295, 4294967296, -1] : List Int).map (Value.int .i64)).toArray 3))
    have GC := hide (G1.out.trans (Lib.grownBy_allocR (grown_refl w1 p) (.cells (([0, 4294967295, 4294967296, -1] : List Int).map (Value.int .i64)).toArray 3)))
    clear D1 G1
    go_wp2_with fail
    refine (l1PickInt B p a len cap w1.heap.size 4 (-9223372036854775808) 9223372036854775807 _ DC.out (by omega) (by omega) (by omega) hl).mono ?_; rintro e w2 ⟨y, y0, y1, rfl, d2, g2⟩
    have D2 := hide d2
    have G2 := hide (GC.out.trans g2)
    clear d2 g2 hl
    go_wp2_with fail
    go_ret
    exact ⟨y, y0, y1, rfl, D2.out, G2.out⟩
end Base
namespace Wj
open Go.ChangeShapes Go.WideShapes Go.ChangeAt Go.RowKit Go.Joins
open Vl Vo
set_option linter.unusedVariables false
set_option linter.unusedSimpArgs false
set_option maxHeartbeats 2000000 in
theorem drawShuffle (a : Option Addr) (len cap : Nat) (w : World) (hc : Base.Code w.heap.size w a len) (hlen : len ≤ 1048576) :
    Calls Try.prog 20 #[.slice a len cap] w fun e w' => ∃ s n : Int, e = .returned (.tuple #[.int .i64 s, .int .i64 n]) ∧ bd s ∧ bd n ∧ Below w.heap.size w w' := by
  have HC := Base.hide hc
  clear hc
  go_enter Try.func20, Try.ntmps20
  go_wp2_with fail
  refine (Base.l1New a len cap _ HC.out hlen).mono ?_; rintro e w1 ⟨rfl, d1, n1⟩
  have D1 := Base.hide d1
  have BR := Base.hide n1
  clear d1 n1
  go_wp2_with fail
  refine (Base.drawState _ _ a len cap _ D1.out).mono ?_; rintro e w2 ⟨s, s0, s1, rfl, d2, g2⟩
  replace BR := Base.hide (BR.out.trans (D1.out.below g2))
  have D2 := Base.hide d2
  have BS := Base.hide (show bd s from ⟨s0, s1⟩)
  clear d2 g2 D1 s0 s1
  go_wp2_with fail
  refine (Base.l1Below _ _ a len cap 30 _ D2.out (by decide) (by decide)).mono ?_; rintro e w3 ⟨x, x0, x1, rfl, d3, g3⟩
  replace BR := Base.hide (BR.out.trans (D2.out.below g3))
  have D3 := Base.hide d3
  have BX := Base.hide (show bd x from ⟨by omega, by omega⟩)
  clear d3 g3 D2 x0 x1
  go_wp2_with fail
  refine (Nef.l1Once _ _ a len cap 30 _ D3.out (by decide) (by decide)).mono ?_; rintro e w4 ⟨b, rfl, d4, g4⟩
  replace BR := Base.hide (BR.out.trans (D3.out.below g4))
  have D4 := Base.hide d4
  clear d4 g4 D3
  cases b
  · go_wp2_with fail
    go_ret2
    exact ⟨s, x, rfl, BS.out, BX.out, BR.out⟩
  · have hl := Base.laid_ints w4 [-1, 4096, 4097] 3 (-9223372036854775808) 9223372036854775807 (by intro q hq; simp at hq; omega)
    have vp := D4.out.lt
    have DC := Base.hide (D4.out.alloc (.cells (([-1, 4096, 4097] : List Int).map (Value.int .i64)).toArray 3))
    replace BR := Base.hide (BR.out.trans ((Below.refl w4.heap.size w4).alloc (Nat.le_refl _) (.cells (([-1, 4096, 4097] : List Int).map (Value.int .i64)).toArray 3) |>.mono BR.out.size))
    clear D4
    go_wp2_with fail
    refine (Base.l1PickInt _ _ a len cap w4.heap.size 3 (-9223372036854775808) 9223372036854775807 _ DC.out (by omega) (by omega) (by omega) hl).mono ?_; rintro e w5 ⟨y, y0, y1, rfl, d5, g5⟩
    replace BR := Base.hide (BR.out.trans (DC.out.below g5))
    clear d5 g5 DC hl vp
    go_wp2_with fail
    go_ret2
    exact ⟨s, y, rfl, BS.out, ⟨y0, y1⟩, BR.out⟩
/-- the first n are 0 .. n - 1 in some order -/
def Pm (n : Nat) (D : Nat → Int) : Prop := (∀ t, t < n → 0 ≤ D t ∧ D t < n) ∧ (∀ t u, t < n → u < n → D t = D u → t = u)
theorem Pm.swp {n : Nat} {D : Nat → Int} (h : Pm n D) {i j : Nat} (hi : i < n) (hj : j < n) : Pm n (swp D i j) := by
  refine ⟨fun t ht => ?_, fun t u ht hu e => ?_⟩
  · unfold Wj.swp
    split
    · exact h.1 i hi
    · split
      · exact h.1 j hj
      · exact h.1 t ht
  · unfold Wj.swp at e
    by_cases t1 : t = j <;> by_cases u1 : u = j
    · omega
    · rw [if_pos t1, if_neg u1] at e
      by_cases u2 : u = i
      · rw [if_pos u2] at e; have := h.2 _ _ hi hj e; omega
      · rw [if_neg u2] at e; have := h.2 _ _ hi hu e; omega
    · rw [if_neg t1, if_pos u1] at e
      by_cases t2 : t = i
      · rw [if_pos t2] at e; have := h.2 _ _ hj hi e; omega
      · rw [if_neg t2] at e; have := h.2 _ _ ht hi e; omega
    · rw [if_neg t1, if_neg u1] at e
      by_cases t2 : t = i <;> by_cases u2 : u = i
      · omega
      · rw [if_pos t2, if_neg u2] at e; have := h.2 _ _ hj hu e; omega
      · rw [if_neg t2, if_pos u2] at e; have := h.2 _ _ ht hj e; omega
      · rw [if_neg t2, if_neg u2] at e; exact h.2 _ _ ht hu e
theorem Pm.shf {n : Nat} (hn : n ≤ 4096) : ∀ (i : Nat) (s : Int) (D : Nat → Int), i < n → Pm n D → Pm n (shf i s D) := by
  intro i
  induction i with
  | zero => intro s D _ h; exact h
  | succ i ih =>
    intro s D hi h
    have := blw_rng (s := s) (n := ((i + 1 : Nat) : Int) + 1) (by omega) (by omega)
    exact ih _ _ (by omega) (h.swp hi (by omega))
theorem shu_perm {s : Int} {n : Nat} (h0 : 0 < n) (hn : n ≤ 4096) : Pm n (shu s (n : Int)) :=
  Pm.shf hn _ _ _ (by omega) ⟨fun t ht => by dsimp only; omega, fun t u _ _ e => by dsimp only at e; omega⟩
/-- v was seen among the first k -/
def sen (D : Nat → Int) : Nat → Int → Bool
  | 0, _ => false
  | k + 1, v => decide (D k = v) || sen D k v
theorem sen_old {m : Nat} {D : Nat → Int} (h : Pm m D) {k : Nat} (hk : k < m) : ∀ j, j ≤ k → sen D j (D k) = false := by
  intro j
  induction j with
  | zero => intro _; rfl
  | succ j ih =>
    intro hj
    show (decide (D j = D k) || sen D j (D k)) = false
    rw [ih (by omega), decide_eq_false (fun e => by have := h.2 j k (by omega) hk e; omega)]
    rfl
theorem sen_next {D : Nat → Int} {k v : Nat} (h : D k = (v : Int)) (t : Nat) : (if t = v then true else sen D k (t : Int)) = sen D (k + 1) (t : Int) := by
  show _ = (decide (D k = (t : Int)) || sen D k (t : Int))
  rw [h]
  by_cases e : t = v
  · rw [if_pos e, e, decide_eq_true rfl]; rfl
  · rw [if_neg e, decide_eq_false (by omega)]; rfl
/-- bools of one's own -/
def Bw (w : World) (g r : Nat) (S : Nat → Bool) : Prop := ∀ t, t < r → w.cell? ⟨g, t, none⟩ = some (.bool (S t)) ∧ w.frozen? ⟨g, t, none⟩ = false
theorem cell_oth0 {w : World} {b i c j : Nat} {v : Value} (n : ¬ (c = b ∧ j = i)) : (w.setCell ⟨b, i, none⟩ v).cell? ⟨c, j, none⟩ = w.cell? ⟨c, j, none⟩ :=
  World.cell?_setCell_other _ _ _ _ (fun q => by cases q; exact n ⟨rfl, rfl⟩)
theorem Bw.set {w : World} {g r : Nat} {S : Nat → Bool} (h : Bw w g r S) (j : Nat) (v : Bool) : Bw (w.setCell ⟨g, j, none⟩ (.bool v)) g r (fun t => if t = j then v else S t) := fun t ht => by
  refine ⟨?_, by rw [World.frozen?_setCell]; exact (h t ht).2⟩
  by_cases c : t = j
  · subst c; dsimp only; rw [if_pos rfl]; exact World.cell?_setCell_same _ _ _ (h t ht).1
  · dsimp only; rw [if_neg c, cell_oth0 (fun q => c q.2)]; exact (h t ht).1
theorem bw_new (w : World) (r : Nat) (ty : TypeId) : Bw (w.alloc (.cells (madeCells #[.bool false] r) ty)) w.heap.size r (fun _ => false) := by
  intro t ht
  refine ⟨?_, by simp [go_sem]⟩
  rw [World.cell?_alloc_at _ _ _ _ rfl]
  simp [madeCells, ht, Nat.mod_one]
theorem make_bool (r : Nat) (hr : (r : Int) ≤ 4194304) (w : World) : (Instr.makeSlice 44 (.int .i64 r) (.int .i64 r)).run Try.prog w = .ok (.slice (some ⟨w.heap.size, 0, none⟩) r r) (w.alloc (.cells (madeCells #[.bool false] r) 4)) := by
  have hi : (Try.prog.info? 4).map (fun i => (i.zero, i.size, i.bytes)) = some (some (.bool false), 1, 1) := by kernel_rfl
  obtain ⟨i, h1, h2⟩ := Option.map_eq_some_iff.1 hi
  simp only [Prod.mk.injEq] at h2
  obtain ⟨hz, hs, hb⟩ := h2
  have := run_make (P := Try.prog) w 44 4 i (.bool false) Try.underlying44 h1 hz .i64 .i64 r r (by omega) (Int.le_refl _) (by rw [hb]; omega) (by omega)
  rw [hs] at this
  simpa [Value.cells] using this
end Wj
end Go.Proofs.Ytcnopdonnjemmab
