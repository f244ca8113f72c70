/- Clipped gradients on both sides. -/
import Derived.Test.YtflbhlepmjiejaaEg
import Derived.Test.YtflbhlepmjiejaaVc
namespace Go.Proofs.Ytflbhlepmjiejaa
namespace Vo
open Go.ChangeShapes Go.WideShapes Go.ChangeAt Go.RowKit Go.Joins Go.Sort
open Vl
set_option linter.unusedVariables false
set_option linter.unusedSimpArgs false
/-- n by d, rounded -/
def nrv (n d : Int) : Int := if n.tmod d < 0 then Nea.rd (n.tdiv d - 1) (n.tmod d + d) d else Nea.rd (n.tdiv d) (n.tmod d) d
theorem nearS (n d K : Int) (n0 : -K ≤ n) (n1 : n ≤ K) (K1 : K ≤ 4611686018427387904) (d0 : 1 ≤ d) (d1 : d ≤ 4611686018427387904) (w : World) :
    Calls Try.prog 33 #[.int .i64 n, .int .i64 d] w fun e w' => e = .returned (.int .i64 (nrv n d)) ∧ Below w.heap.size w w' := by
  obtain ⟨r, -, er, hS, -⟩ := nearB n d K n0 n1 K1 d0 d1
  rw [show nrv n d = r from er.symm]
  exact hS w
theorem nearI (n d K : Int) (n0 : -K ≤ n) (n1 : n ≤ K) (K1 : K ≤ 4611686018427387904) (d0 : 1 ≤ d) (d1 : d ≤ 4611686018427387904) (w : World) :
    Calls Try.prog 68 #[.int .i64 n, .int .i64 d] w fun e w' => e = .returned (.int .i64 (nrv n d)) ∧ Below w.heap.size w w' := by
  obtain ⟨r, -, er, -, hI⟩ := nearB n d K n0 n1 K1 d0 d1
  rw [show nrv n d = r from er.symm]
  exact hI w
theorem nrv_bd (n d K : Int) (n0 : -K ≤ n) (n1 : n ≤ K) : -K - 1 ≤ nrv n d ∧ nrv n d ≤ K + 1 := near_bd n d K n0 n1
theorem mul_gm {x m : Int} (x0 : -16777216 ≤ x) (x1 : x ≤ 16777216) (m0 : 0 ≤ m) (m1 : m ≤ 1073741824) : -18014398509481984 ≤ x * m ∧ x * m ≤ 18014398509481984 := by
  have h : (x * m).natAbs ≤ 16777216 * 1073741824 := by
    rw [Int.natAbs_mul]; exact Nat.mul_le_mul (by omega) (by omega)
  generalize x * m = z at *
  omega
/-- what is clipped: v how long it was -/
def clp (S : Nat → Int) (m v : Int) (j : Nat) : Int := if m < v then nrv (S j * m) v else S j
theorem ints_snoc' (r : Nat) (D : Nat → Int) (x : Int) (hx : D r = x) : ints r D ++ [.int .i64 x] = ints (r + 1) D := by rw [← hx]; exact ints_succ r D
/-- a list of one's own comes back -/
def ListR (n : Nat) (G : Nat → Int) (w : World) (e : Ending) (w' : World) : Prop := ∃ a c, e = .returned (.slice a n c) ∧ OwnL w.heap.size w' a n G ∧ Below w.heap.size w w'
set_option maxHeartbeats 1000000 in
theorem sClip_no1 (B : Nat) (a : Option Addr) (r cap : Nat) (S : Nat → Int) (m : Int) (w : World) (hB : B ≤ w.heap.size) (h : Ints B w a r S) (hr : (r : Int) ≤ 1048576) (g : grd r S = false) (G : Nat → Int) :
    Calls Try.prog 34 #[.slice a r cap, .int .i64 m] w (ListR 0 G w) := by
  have B0 := hide (show Below w.heap.size w (w.alloc (.cells #[] 3)) from (Below.refl _ _).alloc (Nat.le_refl _) _)
  have C := hide (gradSb B a r cap S false _ (Nat.le_trans hB B0.out.size) (h.below (B0.out.mono hB)) hr g)
  clear h hB g
  go_enter Try.func34, Try.ntmps34
  go_wp2_with fail
  refine C.out.mono ?_
  rintro e1 w1 ⟨rfl, b1⟩
  go_wp2_with fail
  go_ret
  exact ⟨_, _, rfl, .inl rfl, B0.out.trans (b1.mono B0.out.size)⟩
set_option maxHeartbeats 1000000 in
theorem sClip_no2 (B : Nat) (a : Option Addr) (r cap : Nat) (S : Nat → Int) (m : Int) (w : World) (hB : B ≤ w.heap.size) (h : Ints B w a r S) (hr : (r : Int) ≤ 1048576) (g : grd r S = true) (g2 : decide (0 ≤ m ∧ m ≤ 1073741824) = false) (G : Nat → Int) :
    Calls Try.prog 34 #[.slice a r cap, .int .i64 m] w (ListR 0 G w) := by
  have B0 := hide (show Below w.heap.size w (w.alloc (.cells #[] 3)) from (Below.refl _ _).alloc (Nat.le_refl _) _)
  have C := hide (gradSb B a r cap S true _ (Nat.le_trans hB B0.out.size) (h.below (B0.out.mono hB)) hr g)
  have C2 := hide (fun w => gInS m 0 1073741824 false g2 w)
  clear h hB g g2
  go_enter Try.func34, Try.ntmps34
  go_wp2_with fail
  refine C.out.mono ?_
  rintro e1 w1 ⟨rfl, b1⟩
  go_wp2_with fail
  refine (C2.out _).mono ?_
  rintro e1 w2 ⟨rfl, b2⟩
  go_wp2_with fail
  go_ret
  exact ⟨_, _, rfl, .inl rfl, (B0.out.trans (b1.mono B0.out.size)).trans (b2.mono (Nat.le_trans B0.out.size b1.size))⟩
set_option maxHeartbeats 2000000 in
theorem sClip_yes (B : Nat) (a : Option Addr) (r cap : Nat) (S : Nat → Int) (m v : Int) (w : World) (hB : B ≤ w.heap.size) (h : Ints B w a r S) (g : grd r S = true) (g2 : decide (0 ≤ m ∧ m ≤ 1073741824) = true) (v1 : v ≤ 2147483648)
    (hN : ∀ B w a cap, B ≤ w.heap.size → Ints B w a r S → Calls Try.prog 55 #[.slice a r cap] w fun e w' => e = .returned (.int .i64 v) ∧ Below w.heap.size w w') :
    Calls Try.prog 34 #[.slice a r cap, .int .i64 m] w (ListR r (clp S m v) w) := by
  obtain ⟨i0, hi0, hz0, hz1, hz2⟩ := info_parts infoInt
  obtain ⟨hall, r4⟩ := grd_of g
  have HL := hide hall
  have B0 := hide (show Below w.heap.size w (w.alloc (.cells #[] 3)) from (Below.refl _ _).alloc (Nat.le_refl _) _)
  have OW := hide (show (w.alloc (.cells #[] 3)).ownsRow w.heap.size 3 1 (.slice (some ⟨w.heap.size, 0, none⟩) 0 0) 0 [] from
    ⟨rfl, .inr ⟨w.heap.size, 0, #[], rfl, Nat.le_refl _, heap_alloc_new w _, Nat.le_refl _, by simp [maxLen], rfl, rfl⟩⟩)
  have C := hide (gradSb B a r cap S true _ (Nat.le_trans hB B0.out.size) (h.below (B0.out.mono hB)) (by omega) g)
  have C2 := hide (fun w => gInS m 0 1073741824 true g2 w)
  obtain ⟨m0, m1⟩ := of_decide_eq_true g2
  have H := hide h
  have HN := hide hN
  have M0 := hide m0
  have M1 := hide m1
  have V1 := hide v1
  clear h g g2 hall hN m0 m1 v1
  go_enter Try.func34, Try.ntmps34
  go_wp2_with fail
  refine C.out.mono ?_
  rintro e1 w1 ⟨rfl, b1⟩
  have OW1 := hide (own_below OW.out b1)
  have B1 := hide (B0.out.trans (b1.mono B0.out.size))
  clear b1
  go_wp2_with fail
  refine (C2.out _).mono ?_
  rintro e1 w2 ⟨rfl, b2⟩
  have OW2 := hide (own_below OW1.out b2)
  have B2 := hide (B1.out.trans (b2.mono B1.out.size))
  clear b2
  go_wp2_with fail
  refine (HN.out B _ a cap (Nat.le_trans hB B2.out.size) (H.out.below (B2.out.mono hB))).mono ?_
  rintro e1 w3 ⟨rfl, b3⟩
  have OW3 := hide (own_below OW2.out b3)
  have B3 := hide (B2.out.trans (b3.mono B2.out.size))
  clear b3 OW OW1 OW2 B0 B1 B2 C C2 HN
  go_wp2_with fail
  go_loopw [5, 7] (fun o i wx => ∃ k : Nat, k ≤ r ∧ i = .int .i64 k ∧ wx.ownsRow w.heap.size 3 1 o k (ints k (clp S m v)) ∧ Below w.heap.size w wx) (fun _ i _ => r - (intOf i).toNat)
  case atStart => exact ⟨0, Nat.zero_le _, rfl, OW3.out, B3.out⟩
  case round =>
    obtain ⟨k, hk, rfl, hown, hb⟩ := hrel
    have HOW := hide hown
    have HB := hide hb
    clear hown hb
    by_cases hlt : k < r
    · have kI : (k : Int) < (r : Int) := by omega
      obtain hz | ⟨b, off, rfl, -, hc⟩ := H.out.below (HB.out.mono hB)
      · omega
      have c1 := (hc k hlt).1
      obtain ⟨x0, x1⟩ := HL.out k hlt
      obtain ⟨x, hx⟩ : ∃ x, S k = x := ⟨_, rfl⟩
      rw [hx] at c1 x0 x1
      clear hc
      by_cases cv : m < v
      · have EX := hide (show clp S m v k = nrv (x * m) v by unfold clp; rw [if_pos cv, hx])
        obtain ⟨p0, p1⟩ := mul_gm x0 x1 M0.out M1.out
        have wm : IntKind.i64.wrap (x * m) = x * m := wid (by omega)
        have CN := hide (fun w => nearS (x * m) v 18014398509481984 p0 p1 (by decide) (by have := M0.out; omega) (by have := V1.out; omega) w)
        obtain ⟨y, hy⟩ : ∃ y, nrv (x * m) v = y := ⟨_, rfl⟩
        rw [hy] at EX CN
        clear hx hy x0 x1 p0 p1
        go_wp2_with fail
        refine (CN.out _).mono ?_
        rintro e1 wn ⟨rfl, bn⟩
        have OWN := hide (own_below HOW.out bn)
        have HBN := hide (HB.out.trans (bn.mono HB.out.size))
        clear bn c1
        go_wp2_with (at_builtin; refine wpList_append_own _ rfl _ _ 28 rfl w.heap.size 3 i0 (.int .i64 0) 1 8 Try.underlying28 hi0 hz0 hz1 hz2 rfl (by decide) _ _ _ rfl (OWN.out.alloc _) ⟨wn.heap.size, 0, none⟩ 1 1 [.int .i64 y] rfl rfl (World.news_of_block (cs := #[.int .i64 y]) (t := 3) (fr := (0, 0)) (heap_alloc_new wn _)) (by simp [Value.oneCell']) (by unfold maxLen; omega) (by omega) (by have := HBN.out.size; simp; omega) ?_; intro v' w5 hown1 hgrow1 _)
        go_roundw
        case rel =>
          rw [ints_snoc' k _ y EX.out] at hown1
          exact ⟨k + 1, by omega, by go_num, hown1, (HBN.out.alloc HBN.out.size _).grown hgrow1 (by have := HBN.out.size; simp; omega) (fun k hk => (OWN.out.lt k hk).1)⟩
        case measure => simp [intOf]; omega
      · have EX := hide (show clp S m v k = x by unfold clp; rw [if_neg cv, hx])
        have cv' : decide (m < v) = false := decide_eq_false cv
        clear hx cv x0 x1
        go_wp2_with (at_builtin; refine wpList_append_own _ rfl _ _ 28 rfl w.heap.size 3 i0 (.int .i64 0) 1 8 Try.underlying28 hi0 hz0 hz1 hz2 rfl (by decide) _ _ _ rfl (HOW.out.alloc _) ⟨wr.heap.size, 0, none⟩ 1 1 [.int .i64 x] rfl rfl (World.news_of_block (cs := #[.int .i64 x]) (t := 3) (fr := (0, 0)) (heap_alloc_new wr _)) (by simp [Value.oneCell']) (by unfold maxLen; omega) (by omega) (by have := HB.out.size; simp; omega) ?_; intro v' w5 hown1 hgrow1 _)
        go_roundw
        case rel =>
          rw [ints_snoc' k _ x EX.out] at hown1
          exact ⟨k + 1, by omega, by go_num, hown1, (HB.out.alloc HB.out.size _).grown hgrow1 (by have := HB.out.size; simp; omega) (fun k hk => (HOW.out.lt k hk).1)⟩
        case measure => simp [intOf]; omega
    · obtain rfl : k = r := by omega
      have lk : decide ((k : Int) < (k : Int)) = false := decide_eq_false (by omega)
      have bdc : ∀ j, j < k → bd (clp S m v j) := fun j hj => by
        obtain ⟨x0, x1⟩ := HL.out j hj
        unfold clp
        split
        · obtain ⟨p0, p1⟩ := mul_gm x0 x1 M0.out M1.out
          have := nrv_bd (S j * m) v 18014398509481984 p0 p1
          exact ⟨by omega, by omega⟩
        · exact ⟨by omega, by omega⟩
      obtain ⟨a', c', rfl, hO⟩ := RowV.own (B := w.heap.size) (w := wr) ⟨HOW.out, bdc⟩
      have HO := hide hO
      clear hO bdc
      go_wp2_with fail
      go_ret
      exact ⟨_, _, rfl, HO.out, HB.out⟩
end Vo
end Go.Proofs.Ytflbhlepmjiejaa
