/- Sums of five words, the program's side. -/
import Derived.Test.YtmghmcnihiepiaaDoorFlV
import Derived.Shelf.Spec.BitsCarry
import Derived.Deep.RegionHeld3
namespace Go.Proofs.YtmghmcnihiepiaaDoor
namespace Wid
open Go.ChangeShapes Go.WideShapes Go.ChangeAt Go.RowKit Go.Joins
open Flo (hide ret_int ret_bool)
set_option linter.unusedVariables false

theorem add64 (x y c : Int) (hx : 0 ≤ x) (hy : 0 ≤ y) (hc0 : 0 ≤ c) (hc : c ≤ 1) (w : World) : (callFunc 45 #[.int .u64 x, .int .u64 y, .int .u64 c]).run Tryd.prog w =
    .ok (.value (.tuple #[.int .u64 ((x + y + c) % 18446744073709551616), .int .u64 ((x + y + c) / 18446744073709551616)])) w := by
  obtain ⟨x, rfl⟩ := Int.eq_ofNat_of_zero_le hx
  obtain ⟨y, rfl⟩ := Int.eq_ofNat_of_zero_le hy
  obtain ⟨c, rfl⟩ := Int.eq_ofNat_of_zero_le hc0
  rw [run_callFunc_extern Tryd.func45 (by kernel_rfl) (by kernel_rfl) (by kernel_rfl) (e := add64Entry) (by kernel_rfl), run_add64 x y c (by omega) (by omega) (by omega) (by omega)]
  simp only [Result.andThen]
/-- words of a row in memory -/
def Row (wx : World) (P : Nat) (x : Nat → Int) : Prop := ∀ t, t < 5 → wx.cell? ⟨P, t, none⟩ = some (.int .u64 (x t)) ∧ wx.frozen? ⟨P, t, none⟩ = false
theorem Row.same {wx : World} {P : Nat} {x y : Nat → Int} (h : Row wx P x) (e : ∀ t, t < 5 → y t = x t) : Row wx P y := fun t ht => by rw [e t ht]; exact h t ht
theorem Row.set {wx : World} {P : Nat} {x : Nat → Int} (h : Row wx P x) (j : Nat) (hj : j < 5) (v : Int) : Row (wx.setCell ⟨P, j, none⟩ (.int .u64 v)) P (fun t => if t = j then v else x t) := by
  intro t ht
  rw [World.frozen?_setCell]
  refine ⟨?_, (h t ht).2⟩
  by_cases c : t = j
  · subst c
    rw [World.cell?_setCell_same _ _ _ (h t ht).1]; simp
  · rw [World.cell?_setCell_other _ _ _ _ (by intro e; cases e; exact c rfl), (h t ht).1]; simp [c]
theorem Row.other {wx : World} {P Q : Nat} {x : Nat → Int} (h : Row wx Q x) (hn : P ≠ Q) (j : Nat) (v : Value) : Row (wx.setCell ⟨P, j, none⟩ v) Q x := by
  intro t ht
  rw [World.frozen?_setCell, World.cell?_setCell_other _ _ _ _ (by intro e; cases e; exact hn rfl)]
  exact h t ht
theorem row_new (w : World) (x : Nat → Int) (ty : TypeId) : Row (w.alloc (.cells #[.int .u64 (x 0), .int .u64 (x 1), .int .u64 (x 2), .int .u64 (x 3), .int .u64 (x 4)] ty)) w.heap.size x := by
  intro t ht
  have : t = 0 ∨ t = 1 ∨ t = 2 ∨ t = 3 ∨ t = 4 := by omega
  rcases this with rfl | rfl | rfl | rfl | rfl <;> simp [go_sem]
theorem Row.old {w : World} {P : Nat} {x : Nat → Int} (h : Row w P x) (o : Obj) : Row (w.alloc o) P x := by
  intro t ht
  have hl : P < w.heap.size := block_lt_of_cell (h t ht).1
  exact ⟨(World.cell?_alloc_lt w o ⟨P, t, none⟩ hl).trans (h t ht).1, (World.frozen?_alloc_old w o ⟨P, t, none⟩ (Nat.ne_of_lt hl)).trans (h t ht).2⟩
set_option maxHeartbeats 1000000 in
theorem plusWalk (a b S K : Nat → Int) (w : World) (ha : ∀ t, 0 ≤ a t ∧ a t < 18446744073709551616) (hb : ∀ t, 0 ≤ b t ∧ b t < 18446744073709551616) (hK0 : K 0 = 0) (hK : ∀ t, 0 ≤ K t ∧ K t ≤ 1)
    (hS : ∀ t, (a t + b t + K t) % 18446744073709551616 = S t) (hK1 : ∀ t, (a t + b t + K t) / 18446744073709551616 = K (t + 1)) :
    Calls Tryd.prog 27 #[.agg #[.int .u64 (a 0), .int .u64 (a 1), .int .u64 (a 2), .int .u64 (a 3), .int .u64 (a 4)], .agg #[.int .u64 (b 0), .int .u64 (b 1), .int .u64 (b 2), .int .u64 (b 3), .int .u64 (b 4)]] w fun e w' => e = .returned (.agg #[.int .u64 (S 0), .int .u64 (S 1), .int .u64 (S 2), .int .u64 (S 3), .int .u64 (S 4)]) ∧ Below w.heap.size w w' := by
  have HK := hide hK1
  have HS := hide hS
  clear hK1 hS
  go_enter Tryd.func27, Tryd.ntmps27
  go_wp2_with fail
  go_loopw [5, 7] (fun c i wx => ∃ j : Nat, j ≤ 5 ∧ c = .int .u64 (K j) ∧ i = .int .i64 (j : Int) ∧ Row wx w.heap.size (fun t => if t < j then S t else a t) ∧ Row wx (w.heap.size + 1) b ∧ (∃ z : Nat → Int, Row wx (w.heap.size + 1 + 1) z) ∧ Below w.heap.size w wx) (fun _ i _ => 5 - (intOf i).toNat)
  case atStart =>
    have r1 := row_new w a 41
    have r2 := row_new (w.alloc (.cells #[.int .u64 (a 0), .int .u64 (a 1), .int .u64 (a 2), .int .u64 (a 3), .int .u64 (a 4)] 41)) b 41
    have r3 := row_new ((w.alloc (.cells #[.int .u64 (a 0), .int .u64 (a 1), .int .u64 (a 2), .int .u64 (a 3), .int .u64 (a 4)] 41)).alloc (.cells #[.int .u64 (b 0), .int .u64 (b 1), .int .u64 (b 2), .int .u64 (b 3), .int .u64 (b 4)] 41)) (fun _ => 0) 41
    rw [World.size_alloc] at r2
    rw [World.size_alloc, World.size_alloc] at r3
    exact ⟨0, by omega, by rw [hK0], rfl, ((r1.old _).old _).same (fun t ht => by simp), r2.old _, ⟨_, r3⟩, below_alloc3 _ _ _ _⟩
  case round =>
    obtain ⟨j, hj, rfl, rfl, rP, rQ, ⟨z, rZ⟩, bb⟩ := hrel
    by_cases hlt : j < 5
    · obtain ⟨cP, fP⟩ := rP j hlt
      obtain ⟨cQ, fQ⟩ := rQ j hlt
      simp only [Nat.lt_irrefl, if_false] at cP
      have a0 := (ha j).1
      have b0 := (hb j).1
      have k0 := (hK j).1
      have k1 := (hK j).2
      have e1 := HS.out j
      have e2 := HK.out j
      have ha1 := (ha j).2
      have hb1 := (hb j).2
      have jl : (j : Int) < 5 := by omega
      have ad := add64 (a j) (b j) (K j) a0 b0 k0 k1
      rw [e1, e2] at ad
      have RP := hide rP
      have RQ := hide rQ
      have RZ := hide rZ
      have BB := hide bb
      clear rP rQ rZ bb HS HK ha hb hK hK0 e1 e2
      generalize a j = aj at *
      generalize b j = bj at *
      go_wp2_with fail
      go_region_with (simp only [ad])
      all_goals go_wp2_with fail
      all_goals go_roundw
      all_goals first
        | (simp [intOf]; omega)
        | exact ⟨j + 1, by omega, rfl, by go_num, (RP.out.set j hlt (S j)).same (fun t ht => by by_cases c : t = j <;> by_cases c2 : t < j <;> simp [c, c2] <;> omega), RQ.out.other (by omega) j _, ⟨z, RZ.out.other (by omega) j _⟩, (BB.out.setCell (p := ⟨w.heap.size, j, none⟩) (Nat.le_refl _) _).drew⟩
    · obtain rfl : j = 5 := by omega
      have q0 := (rP 0 (by decide)).1
      have q1 := (rP 1 (by decide)).1
      have q2 := (rP 2 (by decide)).1
      have q3 := (rP 3 (by decide)).1
      have q4 := (rP 4 (by decide)).1
      simp only [Nat.reduceLT, if_true] at q0 q1 q2 q3 q4
      have z0 := rZ 0 (by decide)
      have z1 := rZ 1 (by decide)
      have z2 := rZ 2 (by decide)
      have z3 := rZ 3 (by decide)
      have z4 := rZ 4 (by decide)
      clear rP rQ rZ HS HK ha hb hK hK0
      obtain ⟨y0, g0⟩ := z0
      obtain ⟨y1, g1⟩ := z1
      obtain ⟨y2, g2⟩ := z2
      obtain ⟨y3, g3⟩ := z3
      obtain ⟨y4, g4⟩ := z4
      go_wp2_with fail
      have b5 : ∀ v0 v1 v2 v3 v4, Below w.heap.size w (((((wr.setCell ⟨w.heap.size + 1 + 1, 0, none⟩ v0).setCell ⟨w.heap.size + 1 + 1, 1, none⟩ v1).setCell ⟨w.heap.size + 1 + 1, 2, none⟩ v2).setCell ⟨w.heap.size + 1 + 1, 3, none⟩ v3).setCell ⟨w.heap.size + 1 + 1, 4, none⟩ v4) := fun v0 v1 v2 v3 v4 =>
        ((((bb.setCell (by show w.heap.size ≤ w.heap.size + 1 + 1; omega) v0).setCell (by show w.heap.size ≤ w.heap.size + 1 + 1; omega) v1).setCell (by show w.heap.size ≤ w.heap.size + 1 + 1; omega) v2).setCell (by show w.heap.size ≤ w.heap.size + 1 + 1; omega) v3).setCell (by show w.heap.size ≤ w.heap.size + 1 + 1; omega) v4
      exact bodyPost_ret (v := .agg #[.int .u64 (S 0), .int .u64 (S 1), .int .u64 (S 2), .int .u64 (S 3), .int .u64 (S 4)]) (by simp [results, Tryd.results27, go_sem, *]) rfl ⟨rfl, b5 _ _ _ _ _⟩
/-- the borrow, under a name -/
def bor (x y : Int) : Int := if x < y then 1 else 0
theorem sub64 (x y b : Int) (hx : 0 ≤ x) (hy : 0 ≤ y) (hy' : y < 18446744073709551616) (hb0 : 0 ≤ b) (hb : b ≤ 1) (w : World) : (callFunc 54 #[.int .u64 x, .int .u64 y, .int .u64 b]).run Tryd.prog w =
    .ok (.value (.tuple #[.int .u64 ((x - y - b) % 18446744073709551616), .int .u64 (bor x (y + b))])) w := by
  obtain ⟨x, rfl⟩ := Int.eq_ofNat_of_zero_le hx
  obtain ⟨y, rfl⟩ := Int.eq_ofNat_of_zero_le hy
  obtain ⟨b, rfl⟩ := Int.eq_ofNat_of_zero_le hb0
  have e1 : (((x + 18446744073709551616 - y - b) % 18446744073709551616 : Nat) : Int) = ((x : Int) - y - b) % 18446744073709551616 := by omega
  have e2 : ((if x < y + b then 1 else 0 : Nat) : Int) = bor x (y + b) := by unfold bor; split <;> split <;> omega
  rw [← e1, ← e2]
  rw [run_callFunc_extern Tryd.func54 (by kernel_rfl) (by kernel_rfl) (by kernel_rfl) (e := sub64Entry) (by kernel_rfl), run_sub64 x y b (by omega)]
  rfl
set_option maxHeartbeats 1000000 in
theorem minusWalk (a b S K : Nat → Int) (w : World) (ha : ∀ t, 0 ≤ a t ∧ a t < 18446744073709551616) (hb : ∀ t, 0 ≤ b t ∧ b t < 18446744073709551616) (hK0 : K 0 = 0) (hK : ∀ t, 0 ≤ K t ∧ K t ≤ 1)
    (hS : ∀ t, (a t - b t - K t) % 18446744073709551616 = S t) (hK1 : ∀ t, bor (a t) (b t + K t) = K (t + 1)) :
    Calls Tryd.prog 44 #[.agg #[.int .u64 (a 0), .int .u64 (a 1), .int .u64 (a 2), .int .u64 (a 3), .int .u64 (a 4)], .agg #[.int .u64 (b 0), .int .u64 (b 1), .int .u64 (b 2), .int .u64 (b 3), .int .u64 (b 4)]] w fun e w' => e = .returned (.agg #[.int .u64 (S 0), .int .u64 (S 1), .int .u64 (S 2), .int .u64 (S 3), .int .u64 (S 4)]) ∧ Below w.heap.size w w' := by
  have HK := hide hK1
  have HS := hide hS
  clear hK1 hS
  go_enter Tryd.func44, Tryd.ntmps44
  go_wp2_with fail
  go_loopw [5, 7] (fun c i wx => ∃ j : Nat, j ≤ 5 ∧ c = .int .u64 (K j) ∧ i = .int .i64 (j : Int) ∧ Row wx w.heap.size (fun t => if t < j then S t else a t) ∧ Row wx (w.heap.size + 1) b ∧ (∃ z : Nat → Int, Row wx (w.heap.size + 1 + 1) z) ∧ Below w.heap.size w wx) (fun _ i _ => 5 - (intOf i).toNat)
  case atStart =>
    have r1 := row_new w a 41
    have r2 := row_new (w.alloc (.cells #[.int .u64 (a 0), .int .u64 (a 1), .int .u64 (a 2), .int .u64 (a 3), .int .u64 (a 4)] 41)) b 41
    have r3 := row_new ((w.alloc (.cells #[.int .u64 (a 0), .int .u64 (a 1), .int .u64 (a 2), .int .u64 (a 3), .int .u64 (a 4)] 41)).alloc (.cells #[.int .u64 (b 0), .int .u64 (b 1), .int .u64 (b 2), .int .u64 (b 3), .int .u64 (b 4)] 41)) (fun _ => 0) 41
    rw [World.size_alloc] at r2
    rw [World.size_alloc, World.size_alloc] at r3
    exact ⟨0, by omega, by rw [hK0], rfl, ((r1.old _).old _).same (fun t ht => by simp), r2.old _, ⟨_, r3⟩, below_alloc3 _ _ _ _⟩
  case round =>
    obtain ⟨j, hj, rfl, rfl, rP, rQ, ⟨z, rZ⟩, bb⟩ := hrel
    by_cases hlt : j < 5
    · obtain ⟨cP, fP⟩ := rP j hlt
      obtain ⟨cQ, fQ⟩ := rQ j hlt
      simp only [Nat.lt_irrefl, if_false] at cP
      have a0 := (ha j).1
      have b0 := (hb j).1
      have k0 := (hK j).1
      have k1 := (hK j).2
      have e1 := HS.out j
      have e2 := HK.out j
      have ha1 := (ha j).2
      have hb1 := (hb j).2
      have jl : (j : Int) < 5 := by omega
      have ad := sub64 (a j) (b j) (K j) a0 b0 (hb j).2 k0 k1
      rw [e1, e2] at ad
      have RP := hide rP
      have RQ := hide rQ
      have RZ := hide rZ
      have BB := hide bb
      clear rP rQ rZ bb HS HK ha hb hK hK0 e1 e2
      generalize a j = aj at *
      generalize b j = bj at *
      go_wp2_with fail
      go_region_with (simp only [ad])
      all_goals go_wp2_with fail
      all_goals go_roundw
      all_goals first
        | (simp [intOf]; omega)
        | exact ⟨j + 1, by omega, rfl, by go_num, (RP.out.set j hlt (S j)).same (fun t ht => by by_cases c : t = j <;> by_cases c2 : t < j <;> simp [c, c2] <;> omega), RQ.out.other (by omega) j _, ⟨z, RZ.out.other (by omega) j _⟩, (BB.out.setCell (p := ⟨w.heap.size, j, none⟩) (Nat.le_refl _) _).drew⟩
    · obtain rfl : j = 5 := by omega
      have q0 := (rP 0 (by decide)).1
      have q1 := (rP 1 (by decide)).1
      have q2 := (rP 2 (by decide)).1
      have q3 := (rP 3 (by decide)).1
      have q4 := (rP 4 (by decide)).1
      simp only [Nat.reduceLT, if_true] at q0 q1 q2 q3 q4
      have z0 := rZ 0 (by decide)
      have z1 := rZ 1 (by decide)
      have z2 := rZ 2 (by decide)
      have z3 := rZ 3 (by decide)
      have z4 := rZ 4 (by decide)
      clear rP rQ rZ HS HK ha hb hK hK0
      obtain ⟨y0, g0⟩ := z0
      obtain ⟨y1, g1⟩ := z1
      obtain ⟨y2, g2⟩ := z2
      obtain ⟨y3, g3⟩ := z3
      obtain ⟨y4, g4⟩ := z4
      go_wp2_with fail
      have b5 : ∀ v0 v1 v2 v3 v4, Below w.heap.size w (((((wr.setCell ⟨w.heap.size + 1 + 1, 0, none⟩ v0).setCell ⟨w.heap.size + 1 + 1, 1, none⟩ v1).setCell ⟨w.heap.size + 1 + 1, 2, none⟩ v2).setCell ⟨w.heap.size + 1 + 1, 3, none⟩ v3).setCell ⟨w.heap.size + 1 + 1, 4, none⟩ v4) := fun v0 v1 v2 v3 v4 =>
        ((((bb.setCell (by show w.heap.size ≤ w.heap.size + 1 + 1; omega) v0).setCell (by show w.heap.size ≤ w.heap.size + 1 + 1; omega) v1).setCell (by show w.heap.size ≤ w.heap.size + 1 + 1; omega) v2).setCell (by show w.heap.size ≤ w.heap.size + 1 + 1; omega) v3).setCell (by show w.heap.size ≤ w.heap.size + 1 + 1; omega) v4
      exact bodyPost_ret (v := .agg #[.int .u64 (S 0), .int .u64 (S 1), .int .u64 (S 2), .int .u64 (S 3), .int .u64 (S 4)]) (by simp [results, Tryd.results44, go_sem, *]) rfl ⟨rfl, b5 _ _ _ _ _⟩
end Wid
end Go.Proofs.YtmghmcnihiepiaaDoor
