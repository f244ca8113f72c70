/- Lemmas for the proof of the law. -/
import Derived.Test.YtejfodkobfdelaaMgao
import Derived.Test.YtejfodkobfdelaaMgap
/- For the laws: a tensor that is answered and stored within a region that draws its order. -/
namespace Go.Proofs.Ytejfodkobfdelaa
namespace Vo
open Go.ChangeShapes Go.WideShapes Go.ChangeAt Go.RowKit Go.Joins Go.Sort
open Vl Vp Vr
set_option linter.unusedVariables false
set_option linter.unusedSimpArgs false
theorem drewSz (w : World) : w.drew.heap.size = w.heap.size := rfl
theorem vapart {B : Nat} {w : World} {a b : Option Addr} {r s : Nat} {D S : Nat → Int} (h : VOwn B w a b r s D S) {P : Nat} {x y : Option Addr} {n c n' c' : Nat} (hb : Bx w P (.slice x n c) (.slice y n' c')) : ∀ k, VBlk a b r s k → k ≠ P := by
  rintro k q rfl
  rcases q with q | q
  · obtain ⟨q0, ad, e1, e2⟩ := q
    rcases h.d with h0 | ⟨g, e, _, rw1⟩
    · exact q0 h0
    · rw [e] at e1
      injection e1 with e1
      subst e1
      have e2 : g = k := e2
      subst e2
      have := (rw1 0 (by omega)).1
      rw [hb.1] at this
      cases this
  · obtain ⟨q0, ad, e1, e2⟩ := q
    rcases h.t with h0 | ⟨g, e, _, rw1⟩
    · exact q0 h0
    · rw [e] at e1
      injection e1 with e1
      subst e1
      have e2 : g = k := e2
      subst e2
      have := (rw1 0 (by omega)).1
      rw [hb.1] at this
      cases this
/-- what a region leaves that answers a tensor into a variable of its own -/
def Left (S : World) (v : PT) (p : Value) (wx : World) : Prop := ∃ (P : Nat) (ta tb : Option Addr) (tc td : Nat), p = .pointer (some ⟨P, 0, none⟩) ∧ P < wx.heap.size ∧ Bx wx P (.slice ta v.r tc) (.slice tb v.s td) ∧ VOwn S.heap.size wx ta tb v.r v.s v.D v.S ∧ Below S.heap.size S wx
theorem left_fresh {S wC : World} {v : PT} {B : Nat} {ta tb : Option Addr} {tc td : Nat} {t : TypeId} (hv : VOwn B wC ta tb v.r v.s v.D v.S) (hB : S.heap.size ≤ B) (hb : Below S.heap.size S wC) :
    Left S v (.pointer (some ⟨wC.heap.size, 0, none⟩)) (wC.alloc (.cells #[.slice ta v.r tc, .slice tb v.s td] t)) :=
  ⟨_, ta, tb, tc, td, rfl, by simp, bx_new wC _ _ t, (hv.below ((Below.refl _ _).alloc (Nat.le_refl _) _)).mono hB, hb.alloc hb.size _⟩
theorem left_set {S wC : World} {v : PT} {B P : Nat} {ta tb : Option Addr} {tc td : Nat} {x y : Option Addr} {n c n' c' : Nat} (hv : VOwn B wC ta tb v.r v.s v.D v.S) (hB : S.heap.size ≤ B) (hb : Below S.heap.size S wC) (hz : Bx wC P (.slice x n c) (.slice y n' c')) (hP : S.heap.size ≤ P) :
    Left S v (.pointer (some ⟨P, 0, none⟩)) ((wC.setCell ⟨P, 0, none⟩ (.slice ta v.r tc)).setCell ⟨P, 1, none⟩ (.slice tb v.s td)) := by
  have k2 := kept_sets2 wC P (.slice ta v.r tc) (.slice tb v.s td)
  have lt : P < wC.heap.size := World.block_lt_of_cell? _ _ hz.1
  refine ⟨P, ta, tb, tc, td, rfl, by simpa [World.setCell] using lt, ⟨?_, ?_⟩, (hv.kept k2 (fun k q e => vapart hv hz k q e)).mono hB, hb.trans (k2.below hb.size (fun j e => by have e : j = P := e; omega))⟩
  · rw [World.cell?_setCell_other _ _ _ _ (by intro e; cases e)]
    exact World.cell?_setCell_same _ _ _ hz.1
  · refine World.cell?_setCell_same _ _ _ (u := .slice y n' c') ?_
    rw [World.cell?_setCell_other _ _ _ _ (by intro e; cases e)]
    exact hz.2
theorem markViewB (B : Nat) (a b : Option Addr) (r s cap dap : Nat) (D S : Nat → Int) (o n k : Int) (w : World) (h : VOwn B w a b r s D S) (hr : (r : Int) ≤ 1048576) (hs : (s : Int) ≤ 1048576) (k0 : 0 ≤ k) (k1 : k ≤ 3145728) :
    Calls Try.prog 12 #[.agg #[.slice a r cap, .slice b s dap, .int .i64 o, .int .i64 n], .int .i64 k] w fun e w' => e = .returned (.int .i64 (k + r + s)) ∧ VOwn B w' a b r s (fun j => k + j) (fun j => k + r + j) ∧ Kept (VBlk a b r s) w w' := by
  have B0 := hide (show Below w.heap.size w (w.alloc (.cells #[.slice a r cap, .slice b s dap, .int .i64 o, .int .i64 n] 26)) from (Below.refl _ _).alloc (Nat.le_refl _) _)
  have H := hide (h.below B0.out)
  have HB := hide (fun k (q : VBlk a b r s k) => h.blk q)
  clear h
  go_enter Try.func12, Try.ntmps12
  go_wp2_with fail
  refine (markIntS B a r cap D k _ H.out.d hr k0 (by omega)).mono ?_
  rintro e w1 ⟨rfl, q1, t1⟩
  have c10 : ∀ i, w1.cell? ⟨w.heap.size, i, none⟩ = (w.alloc (.cells #[.slice a r cap, .slice b s dap, .int .i64 o, .int .i64 n] 26)).cell? ⟨w.heap.size, i, none⟩ := fun i =>
    World.cell?_of_block (w := w.alloc _) (a := ⟨w.heap.size, i, none⟩) (t1.block w.heap.size (by simp) (fun q => by have := (HB.out _ (.inl q)).2; omega))
  have T1 := hide t1
  have Q1 := hide q1
  have Q2 := hide (H.out.t.kept t1 (fun k q q' => H.out.ne k q' q))
  clear t1 q1
  go_wp2_with fail
  refine (markIntS B b s dap S _ _ Q2.out hs (by omega) (by omega)).mono ?_
  rintro e w2 ⟨rfl, q2, t2⟩
  have T2 := hide t2
  have Q3 := hide q2
  have Q4 := hide (Q1.out.kept t2 (fun k q q' => H.out.ne k q q'))
  clear t2 q2
  go_wp2_with fail
  go_ret
  exact ⟨rfl, ⟨Q4.out, Q3.out, H.out.ne⟩, ((Kept.of_below B0.out).trans (T1.out.mono (fun k _ q => .inl q))).trans (T2.out.mono (fun k _ q => .inr q))⟩
theorem markTensorB (B : Nat) (a b : Option Addr) (r s cap dap : Nat) (D S : Nat → Int) (k : Int) (w : World) (h : VOwn B w a b r s D S) (hr : (r : Int) ≤ 1048576) (hs : (s : Int) ≤ 1048576) (k0 : 0 ≤ k) (k1 : k ≤ 33554432) :
    Calls Try.prog 20 #[.agg #[.slice a r cap, .slice b s dap], .int .i64 k] w fun e w' => e = .returned (.int .i64 (k + r + s)) ∧ VOwn B w' a b r s (fun j => k + j) (fun j => k + r + j) ∧ Kept (VBlk a b r s) w w' := by
  have B0 := hide (show Below w.heap.size w (w.alloc (.cells #[.slice a r cap, .slice b s dap] 38)) from (Below.refl _ _).alloc (Nat.le_refl _) _)
  have H := hide (h.below B0.out)
  have HB := hide (fun k (q : VBlk a b r s k) => h.blk q)
  clear h
  go_enter Try.func20, Try.ntmps20
  go_wp2_with fail
  refine (markIntS B a r cap D k _ H.out.d hr k0 (by omega)).mono ?_
  rintro e w1 ⟨rfl, q1, t1⟩
  have c10 : ∀ i, w1.cell? ⟨w.heap.size, i, none⟩ = (w.alloc (.cells #[.slice a r cap, .slice b s dap] 38)).cell? ⟨w.heap.size, i, none⟩ := fun i =>
    World.cell?_of_block (w := w.alloc _) (a := ⟨w.heap.size, i, none⟩) (t1.block w.heap.size (by simp) (fun q => by have := (HB.out _ (.inl q)).2; omega))
  have T1 := hide t1
  have Q1 := hide q1
  have Q2 := hide (H.out.t.kept t1 (fun k q q' => H.out.ne k q' q))
  clear t1 q1
  go_wp2_with fail
  refine (markIntS B b s dap S _ _ Q2.out hs (by omega) (by omega)).mono ?_
  rintro e w2 ⟨rfl, q2, t2⟩
  have T2 := hide t2
  have Q3 := hide q2
  have Q4 := hide (Q1.out.kept t2 (fun k q q' => H.out.ne k q q'))
  clear t2 q2
  go_wp2_with fail
  go_ret
  exact ⟨rfl, ⟨Q4.out, Q3.out, H.out.ne⟩, ((Kept.of_below B0.out).trans (T1.out.mono (fun k _ q => .inl q))).trans (T2.out.mono (fun k _ q => .inr q))⟩
end Vo
end Go.Proofs.Ytejfodkobfdelaa

/- Two numbers joined: l4Two, twoOf. -/
namespace Go.Proofs.Ytejfodkobfdelaa
namespace Vo
open Go.ChangeShapes Go.WideShapes Go.ChangeAt Go.RowKit Go.Joins Go.Sort
open Vl Vp Vr
set_option linter.unusedVariables false
set_option linter.unusedSimpArgs false

/-- two numbers joined by an op -/
def two1 (op x y : Int) : Int :=
  if op = 1 then (x + y) % 2147483647 else if op = 2 then (x - y) % 2147483647 else if op = 3 then (x % 2147483647 * (y % 2147483647)) % 2147483647 else if op = 4 then (x % 2147483647 * Num.pw (y % 2147483647) 2147483645) % 2147483647
  else if op = 5 then (if Base.sg (x % 2147483647) < Base.sg (y % 2147483647) then y else x) else if op = 6 then (if Base.sg (x % 2147483647) < Base.sg (y % 2147483647) then x else y)
  else if op = 7 then (if Base.sg (x % 2147483647) < Base.sg (y % 2147483647) then 1 else 0) else (if x = y then 1 else 0)
theorem two1_rng {op x y : Int} (hx : isN x) (hy : isN y) : isN (two1 op x y) := by
  unfold isN at *
  unfold two1
  split
  · omega
  split
  · omega
  split
  · omega
  split
  · omega
  split
  · split <;> omega
  split
  · split <;> omega
  split
  · split <;> omega
  · split <;> omega
theorem sg_back {x : Int} (hx : isN x) : Base.sg (x % 2147483647) % 2147483647 = x := by
  unfold isN at hx
  unfold Base.sg
  rw [Int.emod_eq_of_lt hx.1 hx.2]
  split <;> omega
theorem sg_rng (x : Int) : -1073741823 ≤ Base.sg (x % 2147483647) ∧ Base.sg (x % 2147483647) ≤ 1073741823 := by
  unfold Base.sg
  split <;> omega
theorem sg_max {x y : Int} (hx : isN x) (hy : isN y) : max (Base.sg (x % 2147483647)) (Base.sg (y % 2147483647)) % 2147483647 = if Base.sg (x % 2147483647) < Base.sg (y % 2147483647) then y else x := by
  have a := sg_back hx
  have b := sg_back hy
  split
  · rw [show max (Base.sg (x % 2147483647)) (Base.sg (y % 2147483647)) = Base.sg (y % 2147483647) by omega, b]
  · rw [show max (Base.sg (x % 2147483647)) (Base.sg (y % 2147483647)) = Base.sg (x % 2147483647) by omega, a]
theorem sg_min {x y : Int} (hx : isN x) (hy : isN y) : min (Base.sg (x % 2147483647)) (Base.sg (y % 2147483647)) % 2147483647 = if Base.sg (x % 2147483647) < Base.sg (y % 2147483647) then x else y := by
  have a := sg_back hx
  have b := sg_back hy
  split
  · rw [show min (Base.sg (x % 2147483647)) (Base.sg (y % 2147483647)) = Base.sg (x % 2147483647) by omega, a]
  · rw [show min (Base.sg (x % 2147483647)) (Base.sg (y % 2147483647)) = Base.sg (y % 2147483647) by omega, b]
theorem l4Two (op x y : Int) (w : World) (hx : isN x) (hy : isN y) (h1 : 1 ≤ op) (h8 : op ≤ 8) :
    Calls Try.prog 35 #[.int .i64 op, .int .i64 x, .int .i64 y] w fun e w' => e = .returned (.int .i64 (two1 op x y)) ∧ w' = w := by
  obtain ⟨x0, x1⟩ := hx
  obtain ⟨y0, y1⟩ := hy
  have CX := hide (fun (W : World) => Base.specSigned x W (by omega) (by omega))
  have CY := hide (fun (W : World) => Base.specSigned y W (by omega) (by omega))
  have C1 := hide (fun (W : World) => Base.specPlus x y W (by omega) (by omega) (by omega) (by omega))
  have C2 := hide (fun (W : World) => Base.specMinus x y W (by omega) (by omega) (by omega) (by omega))
  have C3 := hide (fun (W : World) => Base.specTimes x y W (by omega) (by omega) (by omega) (by omega))
  have C4 := hide (fun (W : World) => Base.specOver x y W (by omega) (by omega) (by omega) (by omega))
  have E := hide (show two1 op x y = two1 op x y from rfl)
  unfold two1 at E
  obtain ⟨sx, hsx⟩ : ∃ sx, Base.sg (x % 2147483647) = sx := ⟨_, rfl⟩
  obtain ⟨sy, hsy⟩ : ∃ sy, Base.sg (y % 2147483647) = sy := ⟨_, rfl⟩
  have T2 := hide (show ∀ op' : Int, two1 op' x y = if op' = 1 then (x + y) % 2147483647 else if op' = 2 then (x - y) % 2147483647 else if op' = 3 then (x % 2147483647 * (y % 2147483647)) % 2147483647 else if op' = 4 then (x % 2147483647 * Num.pw (y % 2147483647) 2147483645) % 2147483647 else if op' = 5 then (if sx < sy then y else x) else if op' = 6 then (if sx < sy then x else y) else if op' = 7 then (if sx < sy then 1 else 0) else (if x = y then 1 else 0) from fun op' => by unfold two1; rw [hsx, hsy])
  rw [hsx] at CX
  rw [hsy] at CY
  clear hsx hsy E
  have ways : op = 1 ∨ op = 2 ∨ op = 3 ∨ op = 4 ∨ op = 5 ∨ op = 6 ∨ op = 7 ∨ op = 8 := by omega
  clear h1 h8
  go_enter Try.func35, Try.ntmps35
  go_wp2_with fail
  refine (CX.out _).mono ?_
  rintro e w1 ⟨rfl, hw⟩
  have hw := hw.symm
  subst hw
  go_wp2_with fail
  refine (CY.out _).mono ?_
  rintro e w1 ⟨rfl, hw⟩
  have hw := hw.symm
  subst hw
  rcases ways with rfl | rfl | rfl | rfl | rfl | rfl | rfl | rfl
  · go_wp2_with fail
    refine (C1.out _).mono ?_
    rintro e w1 ⟨rfl, rfl⟩
    go_wp2_with fail
    go_ret
    exact ⟨ret_int (by rw [T2.out]; simp), by first | rfl | trivial⟩
  · go_wp2_with fail
    refine (C2.out _).mono ?_
    rintro e w1 ⟨rfl, rfl⟩
    go_wp2_with fail
    go_ret
    exact ⟨ret_int (by rw [T2.out]; simp), by first | rfl | trivial⟩
  · go_wp2_with fail
    refine (C3.out _).mono ?_
    rintro e w1 ⟨rfl, rfl⟩
    go_wp2_with fail
    go_ret
    exact ⟨ret_int (by rw [T2.out]; simp), by first | rfl | trivial⟩
  · go_wp2_with fail
    refine (C4.out _).mono ?_
    rintro e w1 ⟨rfl, rfl⟩
    go_wp2_with fail
    go_ret
    exact ⟨ret_int (by rw [T2.out]; simp), by first | rfl | trivial⟩
  · by_cases c : sx < sy
    · have c' : decide (sx < sy) = true := decide_eq_true c
      have CC := hide c
      clear c
      go_wp2_with fail
      go_ret
      exact ⟨ret_int (by rw [T2.out, if_neg (by decide), if_neg (by decide), if_neg (by decide), if_neg (by decide), if_pos rfl, if_pos CC.out]), by first | rfl | trivial⟩
    · have c' : decide (sx < sy) = false := decide_eq_false c
      have CC := hide c
      clear c
      go_wp2_with fail
      go_ret
      exact ⟨ret_int (by rw [T2.out, if_neg (by decide), if_neg (by decide), if_neg (by decide), if_neg (by decide), if_pos rfl, if_neg (by have := CC.out; omega)]), by first | rfl | trivial⟩
  · by_cases c : sx < sy
    · have c' : decide (sx < sy) = true := decide_eq_true c
      have CC := hide c
      clear c
      go_wp2_with fail
      go_ret
      exact ⟨ret_int (by rw [T2.out, if_neg (by decide), if_neg (by decide), if_neg (by decide), if_neg (by decide), if_neg (by decide), if_pos rfl, if_pos CC.out]), by first | rfl | trivial⟩
    · have c' : decide (sx < sy) = false := decide_eq_false c
      have CC := hide c
      clear c
      go_wp2_with fail
      go_ret
      exact ⟨ret_int (by rw [T2.out, if_neg (by decide), if_neg (by decide), if_neg (by decide), if_neg (by decide), if_neg (by decide), if_pos rfl, if_neg (by have := CC.out; omega)]), by first | rfl | trivial⟩
  · by_cases c : sx < sy
    · have c' : decide (sx < sy) = true := decide_eq_true c
      have CC := hide c
      clear c
      go_wp2_with fail
      go_ret
      exact ⟨ret_int (by rw [T2.out, if_neg (by decide), if_neg (by decide), if_neg (by decide), if_neg (by decide), if_neg (by decide), if_neg (by decide), if_pos rfl, if_pos CC.out]), by first | rfl | trivial⟩
    · have c' : decide (sx < sy) = false := decide_eq_false c
      have CC := hide c
      clear c
      go_wp2_with fail
      go_ret
      exact ⟨ret_int (by rw [T2.out, if_neg (by decide), if_neg (by decide), if_neg (by decide), if_neg (by decide), if_neg (by decide), if_neg (by decide), if_pos rfl, if_neg (by have := CC.out; omega)]), by first | rfl | trivial⟩
  · by_cases c : x = y
    · have c' : (x == y) = true := beq_iff_eq.2 c
      have CC := hide c
      clear c
      go_wp2_with fail
      go_ret
      exact ⟨ret_int (by rw [T2.out]; simp [CC.out]), by first | rfl | trivial⟩
    · have c' : (x == y) = false := beq_eq_false_iff_ne.2 c
      have CC := hide c
      clear c
      go_wp2_with fail
      go_ret
      exact ⟨ret_int (by rw [T2.out]; simp [CC.out]), by first | rfl | trivial⟩
def TwoV (op : Int) (F : Nat) : Prop := (∀ args w, (callFunc F args).run Try.prog w = .ok (.enter F args) w) ∧ ∀ x y w, isN x → isN y → Calls Try.prog F #[.int .i64 x, .int .i64 y] w fun e w' => e = .returned (.int .i64 (two1 op x y)) ∧ w' = w
theorem oneWhen (z : Bool) (w : World) : Calls Try.prog 63 #[.bool z] w fun e w' => e = .returned (.int .i64 (if z = true then 1 else 0)) ∧ w' = w := by
  cases z with
  | true =>
    go_enter Try.func63, Try.ntmps63
    go_wp2_with fail
    go_ret
    exact ⟨ret_int (by simp), rfl⟩
  | false =>
    go_enter Try.func63, Try.ntmps63
    go_wp2_with fail
    go_ret
    exact ⟨ret_int (by simp), rfl⟩
theorem twoV1 : TwoV 1 54 := by
  refine ⟨enters_of Try.func54 (by kernel_rfl) rfl, fun x y w hx hy => ?_⟩
  obtain ⟨x0, x1⟩ := hx
  obtain ⟨y0, y1⟩ := hy
  have e : two1 1 x y = (x + y) % 2147483647 := by unfold two1; simp
  rw [e]
  exact Base.implPlus x y w (by omega) (by omega) (by omega) (by omega)
theorem twoV2 : TwoV 2 55 := by
  refine ⟨enters_of Try.func55 (by kernel_rfl) rfl, fun x y w hx hy => ?_⟩
  obtain ⟨x0, x1⟩ := hx
  obtain ⟨y0, y1⟩ := hy
  have e : two1 2 x y = (x - y) % 2147483647 := by unfold two1; simp
  rw [e]
  exact Base.implMinus x y w (by omega) (by omega) (by omega) (by omega)
theorem twoV3 : TwoV 3 56 := by
  refine ⟨enters_of Try.func56 (by kernel_rfl) rfl, fun x y w hx hy => ?_⟩
  obtain ⟨x0, x1⟩ := hx
  obtain ⟨y0, y1⟩ := hy
  have e : two1 3 x y = (x % 2147483647 * (y % 2147483647)) % 2147483647 := by unfold two1; simp
  rw [e]
  exact Base.implTimes x y w (by omega) (by omega) (by omega) (by omega)
theorem twoV4 : TwoV 4 57 := by
  refine ⟨enters_of Try.func57 (by kernel_rfl) rfl, fun x y w hx hy => ?_⟩
  obtain ⟨x0, x1⟩ := hx
  obtain ⟨y0, y1⟩ := hy
  have e : two1 4 x y = (x % 2147483647 * Num.pw (y % 2147483647) 2147483645) % 2147483647 := by unfold two1; simp
  rw [e]
  exact Base.implOver x y w (by omega) (by omega) (by omega) (by omega)
theorem twoV5 : TwoV 5 58 := by
  refine ⟨enters_of Try.func58 (by kernel_rfl) rfl, fun x y w hx hy => ?_⟩
  have E := hide (show two1 5 x y = max (Base.sg (x % 2147483647)) (Base.sg (y % 2147483647)) % 2147483647 by rw [sg_max hx hy]; unfold two1; simp)
  have rx := sg_rng x
  have ry := sg_rng y
  obtain ⟨x0, x1⟩ := hx
  obtain ⟨y0, y1⟩ := hy
  have CX := hide (fun (W : World) => Base.implSigned x W (by omega) (by omega))
  have CY := hide (fun (W : World) => Base.implSigned y W (by omega) (by omega))
  obtain ⟨sx, hsx⟩ : ∃ sx, Base.sg (x % 2147483647) = sx := ⟨_, rfl⟩
  obtain ⟨sy, hsy⟩ : ∃ sy, Base.sg (y % 2147483647) = sy := ⟨_, rfl⟩
  rw [hsx] at CX E rx
  rw [hsy] at CY E ry
  obtain ⟨m, hm⟩ : ∃ m, max sx sy = m := ⟨_, rfl⟩
  rw [hm] at E
  have mr : -1073741823 ≤ m ∧ m ≤ 1073741823 := by omega
  have CM := hide (fun (W : World) => Base.implMod m W (by omega) (by omega))
  have HM := hide hm
  clear hsx hsy hm
  go_enter Try.func58, Try.ntmps58
  go_wp2_with fail
  refine (CX.out _).mono ?_
  rintro e w1 ⟨rfl, hw⟩
  have hw := hw.symm
  subst hw
  go_wp2_with fail
  refine (CY.out _).mono ?_
  rintro e w1 ⟨rfl, hw⟩
  have hw := hw.symm
  subst hw
  by_cases c : sx < sy
  · have c' : decide (sx < sy) = true := decide_eq_true c
    have em : sy = m := by have := HM.out; omega
    go_wp2_with fail
    all_goals first
      | (exfalso; omega)
      | ((try rw [em]); refine (CM.out _).mono ?_; rintro e w1 ⟨rfl, hw⟩; have hw := hw.symm; subst hw; rw [← E.out]; go_wp2_with fail; go_ret; exact ⟨rfl, rfl⟩)
  · have c' : decide (sx < sy) = false := decide_eq_false c
    have em : sx = m := by have := HM.out; omega
    go_wp2_with fail
    all_goals first
      | (exfalso; omega)
      | ((try rw [em]); refine (CM.out _).mono ?_; rintro e w1 ⟨rfl, hw⟩; have hw := hw.symm; subst hw; rw [← E.out]; go_wp2_with fail; go_ret; exact ⟨rfl, rfl⟩)
theorem twoV6 : TwoV 6 61 := by
  refine ⟨enters_of Try.func61 (by kernel_rfl) rfl, fun x y w hx hy => ?_⟩
  have E := hide (show two1 6 x y = min (Base.sg (x % 2147483647)) (Base.sg (y % 2147483647)) % 2147483647 by rw [sg_min hx hy]; unfold two1; simp)
  have rx := sg_rng x
  have ry := sg_rng y
  obtain ⟨x0, x1⟩ := hx
  obtain ⟨y0, y1⟩ := hy
  have CX := hide (fun (W : World) => Base.implSigned x W (by omega) (by omega))
  have CY := hide (fun (W : World) => Base.implSigned y W (by omega) (by omega))
  obtain ⟨sx, hsx⟩ : ∃ sx, Base.sg (x % 2147483647) = sx := ⟨_, rfl⟩
  obtain ⟨sy, hsy⟩ : ∃ sy, Base.sg (y % 2147483647) = sy := ⟨_, rfl⟩
  rw [hsx] at CX E rx
  rw [hsy] at CY E ry
  obtain ⟨m, hm⟩ : ∃ m, min sx sy = m := ⟨_, rfl⟩
  rw [hm] at E
  have mr : -1073741823 ≤ m ∧ m ≤ 1073741823 := by omega
  have CM := hide (fun (W : World) => Base.implMod m W (by omega) (by omega))
  have HM := hide hm
  clear hsx hsy hm
  go_enter Try.func61, Try.ntmps61
  go_wp2_with fail
  refine (CX.out _).mono ?_
  rintro e w1 ⟨rfl, hw⟩
  have hw := hw.symm
  subst hw
  go_wp2_with fail
  refine (CY.out _).mono ?_
  rintro e w1 ⟨rfl, hw⟩
  have hw := hw.symm
  subst hw
  by_cases c : sy < sx
  · have c' : decide (sy < sx) = true := decide_eq_true c
    have em : sy = m := by have := HM.out; omega
    go_wp2_with fail
    all_goals first
      | (exfalso; omega)
      | ((try rw [em]); refine (CM.out _).mono ?_; rintro e w1 ⟨rfl, hw⟩; have hw := hw.symm; subst hw; rw [← E.out]; go_wp2_with fail; go_ret; exact ⟨rfl, rfl⟩)
  · have c' : decide (sy < sx) = false := decide_eq_false c
    have em : sx = m := by have := HM.out; omega
    go_wp2_with fail
    all_goals first
      | (exfalso; omega)
      | ((try rw [em]); refine (CM.out _).mono ?_; rintro e w1 ⟨rfl, hw⟩; have hw := hw.symm; subst hw; rw [← E.out]; go_wp2_with fail; go_ret; exact ⟨rfl, rfl⟩)
theorem twoV7 : TwoV 7 62 := by
  refine ⟨enters_of Try.func62 (by kernel_rfl) rfl, fun x y w hx hy => ?_⟩
  have E := hide (show two1 7 x y = (if decide (Base.sg (x % 2147483647) < Base.sg (y % 2147483647)) = true then 1 else 0) by unfold two1; simp)
  obtain ⟨x0, x1⟩ := hx
  obtain ⟨y0, y1⟩ := hy
  have CX := hide (fun (W : World) => Base.implSigned x W (by omega) (by omega))
  have CY := hide (fun (W : World) => Base.implSigned y W (by omega) (by omega))
  obtain ⟨sx, hsx⟩ : ∃ sx, Base.sg (x % 2147483647) = sx := ⟨_, rfl⟩
  obtain ⟨sy, hsy⟩ : ∃ sy, Base.sg (y % 2147483647) = sy := ⟨_, rfl⟩
  rw [hsx] at CX E
  rw [hsy] at CY E
  clear hsx hsy
  go_enter Try.func62, Try.ntmps62
  go_wp2_with fail
  refine (CX.out _).mono ?_
  rintro e w1 ⟨rfl, hw⟩
  have hw := hw.symm
  subst hw
  go_wp2_with fail
  refine (CY.out _).mono ?_
  rintro e w1 ⟨rfl, hw⟩
  have hw := hw.symm
  subst hw
  go_wp2_with fail
  refine (oneWhen (decide (sx < sy)) _).mono ?_
  rintro e w1 ⟨rfl, hw⟩
  have hw := hw.symm
  subst hw
  rw [← E.out]
  go_wp2_with fail
  go_ret
  exact ⟨rfl, rfl⟩
theorem twoV8 : TwoV 8 64 := by
  refine ⟨enters_of Try.func64 (by kernel_rfl) rfl, fun x y w hx hy => ?_⟩
  have E := hide (show two1 8 x y = (if (x == y) = true then 1 else 0) by unfold two1; simp)
  obtain ⟨z, hz⟩ : ∃ z, (x == y) = z := ⟨_, rfl⟩
  rw [hz] at E
  go_enter Try.func64, Try.ntmps64
  go_wp2_with fail
  refine (oneWhen z _).mono ?_
  rintro e w1 ⟨rfl, hw⟩
  have hw := hw.symm
  subst hw
  rw [← E.out]
  go_wp2_with fail
  go_ret
  exact ⟨rfl, rfl⟩
theorem twoOfV (op : Int) (w : World) : ∃ v, (Calls Try.prog 37 #[.int .i64 op] w fun e w' => e = .returned v ∧ w' = w) ∧ ((1 ≤ op ∧ op ≤ 8 ∧ ∃ F, v = .func (.func F) #[] #[] ∧ TwoV op F) ∨ (¬ (1 ≤ op ∧ op ≤ 8) ∧ v = .nilFunc)) := by
  by_cases h1 : op = 1
  · subst h1
    exact ⟨_, (by go_enter Try.func37, Try.ntmps37
                  go_wp2_with fail
                  go_ret
                  exact ⟨rfl, rfl⟩), .inl ⟨by omega, by omega, _, rfl, twoV1⟩⟩
  by_cases h2 : op = 2
  · subst h2
    exact ⟨_, (by go_enter Try.func37, Try.ntmps37
                  go_wp2_with fail
                  go_ret
                  exact ⟨rfl, rfl⟩), .inl ⟨by omega, by omega, _, rfl, twoV2⟩⟩
  by_cases h3 : op = 3
  · subst h3
    exact ⟨_, (by go_enter Try.func37, Try.ntmps37
                  go_wp2_with fail
                  go_ret
                  exact ⟨rfl, rfl⟩), .inl ⟨by omega, by omega, _, rfl, twoV3⟩⟩
  by_cases h4 : op = 4
  · subst h4
    exact ⟨_, (by go_enter Try.func37, Try.ntmps37
                  go_wp2_with fail
                  go_ret
                  exact ⟨rfl, rfl⟩), .inl ⟨by omega, by omega, _, rfl, twoV4⟩⟩
  by_cases h5 : op = 5
  · subst h5
    exact ⟨_, (by go_enter Try.func37, Try.ntmps37
                  go_wp2_with fail
                  go_ret
                  exact ⟨rfl, rfl⟩), .inl ⟨by omega, by omega, _, rfl, twoV5⟩⟩
  by_cases h6 : op = 6
  · subst h6
    exact ⟨_, (by go_enter Try.func37, Try.ntmps37
                  go_wp2_with fail
                  go_ret
                  exact ⟨rfl, rfl⟩), .inl ⟨by omega, by omega, _, rfl, twoV6⟩⟩
  by_cases h7 : op = 7
  · subst h7
    exact ⟨_, (by go_enter Try.func37, Try.ntmps37
                  go_wp2_with fail
                  go_ret
                  exact ⟨rfl, rfl⟩), .inl ⟨by omega, by omega, _, rfl, twoV7⟩⟩
  by_cases h8 : op = 8
  · subst h8
    exact ⟨_, (by go_enter Try.func37, Try.ntmps37
                  go_wp2_with fail
                  go_ret
                  exact ⟨rfl, rfl⟩), .inl ⟨by omega, by omega, _, rfl, twoV8⟩⟩
  · have g1 : (op == 1) = false := beq_eq_false_iff_ne.2 h1
    have g2 : (op == 2) = false := beq_eq_false_iff_ne.2 h2
    have g3 : (op == 3) = false := beq_eq_false_iff_ne.2 h3
    have g4 : (op == 4) = false := beq_eq_false_iff_ne.2 h4
    have g5 : (op == 5) = false := beq_eq_false_iff_ne.2 h5
    have g6 : (op == 6) = false := beq_eq_false_iff_ne.2 h6
    have g7 : (op == 7) = false := beq_eq_false_iff_ne.2 h7
    have g8 : (op == 8) = false := beq_eq_false_iff_ne.2 h8
    refine ⟨.nilFunc, ?_, .inr ⟨by omega, rfl⟩⟩
    clear h1 h2 h3 h4 h5 h6 h7 h8
    go_enter Try.func37, Try.ntmps37
    go_wp2_with fail
    go_ret
    exact ⟨rfl, rfl⟩
end Vo
end Go.Proofs.Ytejfodkobfdelaa
