/- Lives, whatever the nest; lists of lives that are written over. -/
import Derived.Test.YtgmjijjckedmcaaMm
import Derived.Test.YtgmjijjckedmcaaMx
namespace Go.Proofs.Ytgmjijjckedmcaa
namespace Vo
open Go.ChangeShapes Go.WideShapes Go.ChangeAt Go.RowKit Go.Joins Go.Sort
open Vl Vp
set_option linter.unusedVariables false
set_option linter.unusedSimpArgs false
theorem lvq_le (v : NV) : (lvq v : Int) ≤ 200 := by
  unfold lvq
  by_cases c : NOk v
  · rw [if_pos c]
    have := lvs_len v v.sn
    have := c.1.1
    unfold lvn
    omega
  · rw [if_neg c]; omega
set_option maxHeartbeats 2000000 in
theorem implLives (B : Nat) (v : NV) (w : World) (hB : B ≤ w.heap.size) (h : v.read B w) (hl : v.len 1048576) :
    Calls Try.prog 8 #[v.val] w fun e w' => ∃ g c, e = .returned (.slice (some ⟨g, 0, none⟩) (lvq v) c) ∧ OML w.heap.size w' g (lvq v) (lvq v) (LVS v) ∧ Below w.heap.size w w' := by
  obtain ⟨W1, hW1⟩ : ∃ W1, w.alloc (.cells #[.slice v.sa v.sn v.scap, .slice v.ia v.i v.icap, .slice v.fa v.fn v.fcap, .slice v.ka v.kn v.kcap, .slice v.oa v.on v.ocap] 33) = W1 := ⟨_, rfl⟩
  have B1 := hide (show Below w.heap.size w W1 by rw [← hW1]; exact (Below.refl _ _).alloc (Nat.le_refl _) _)
  have p := Cells5.new w (.slice v.sa v.sn v.scap) (.slice v.ia v.i v.icap) (.slice v.fa v.fn v.fcap) (.slice v.ka v.kn v.kcap) (.slice v.oa v.on v.ocap) 33
  rw [hW1] at p
  have C1 := hide p
  have z1 : w.heap.size < W1.heap.size := World.block_lt_of_cell? _ _ p.1
  have HR := hide (h.below (B1.out.mono hB))
  have HL := hide hl
  have hB1 : B ≤ W1.heap.size := by omega
  have CN := hide (nestOkF givenDoes B v W1 hB1 HR.out hl)
  unfold NV.val at CN ⊢
  obtain ⟨p0, p1, p2, p3, p4⟩ := p
  clear h hl
  go_enter Try.func8, Try.ntmps8
  by_cases d0 : NOk v
  case neg =>
    have e0 := hide (show lvq v = 0 from if_neg d0)
    rw [decide_eq_false d0] at CN
    clear d0
    go_wp2_with fail
    refine CN.out.mono ?_
    rintro e1 W2 ⟨rfl, b2⟩
    have B2 := hide (B1.out.trans (b2.mono B1.out.size))
    clear b2 CN p0 p1 p2 p3 p4
    go_wp2_with fail
    go_ret
    rw [e0.out]
    exact ⟨W2.heap.size, 0, rfl, ⟨B2.out.size, by simp, fun i hi => by omega, fun i h1 h2 => by omega, fun i => by simp [go_sem]⟩, B2.out.alloc B2.out.size _⟩
  have e0 := hide (show lvq v = lvn v from if_pos d0)
  rw [decide_eq_true d0] at CN
  have OK := hide d0
  clear d0
  go_wp2_with fail
  refine CN.out.mono ?_
  rintro e1 W2 ⟨rfl, b2⟩
  have B2 := hide b2
  clear b2 CN p0 p1 p2 p3 p4 hW1
  obtain ⟨p0, p1, p2, p3, p4⟩ := C1.out.below B2.out z1
  have CL := hide (livesL B v W2 (Nat.le_trans hB1 B2.out.size) (HR.out.below (B2.out.mono hB1)) HL.out OK.out)
  unfold NV.val at CL
  rw [← e0.out] at CL
  go_wp2_with fail
  refine CL.out.mono ?_
  rintro e1 W3 ⟨g, rfl, o3, b3⟩
  have O3 := hide o3
  have B3 := hide (B1.out.trans ((B2.out.trans (b3.mono B2.out.size)).mono B1.out.size))
  have lo : w.heap.size ≤ W2.heap.size := Nat.le_trans B1.out.size B2.out.size
  clear o3 b3 CL p0 p1 p2 p3 p4
  go_wp2_with fail
  go_ret
  exact ⟨g, _, rfl, ⟨Nat.le_trans lo O3.out.lo, O3.out.lt, O3.out.laid, O3.out.rest, O3.out.free⟩, B3.out⟩
set_option maxHeartbeats 2000000 in
theorem specLivesA (B : Nat) (v : NV) (w : World) (hB : B ≤ w.heap.size) (h : v.read B w) (hl : v.len 1048576) :
    Calls Try.prog 6 #[v.val] w fun e w' => ∃ a c, e = .returned (.slice a (lvq v) c) ∧ LM w'.heap.size w' a (lvq v) (LVS v) ∧ Below w.heap.size w w' := by
  by_cases d0 : NOk v
  · rw [show lvq v = lvn v from if_pos d0]
    exact specLives B v w hB h hl d0
  have e0 := hide (show lvq v = 0 from if_neg d0)
  obtain ⟨W1, hW1⟩ : ∃ W1, w.alloc (.cells #[.slice v.sa v.sn v.scap, .slice v.ia v.i v.icap, .slice v.fa v.fn v.fcap, .slice v.ka v.kn v.kcap, .slice v.oa v.on v.ocap] 33) = W1 := ⟨_, rfl⟩
  have B1 := hide (show Below w.heap.size w W1 by rw [← hW1]; exact (Below.refl _ _).alloc (Nat.le_refl _) _)
  have p := Cells5.new w (.slice v.sa v.sn v.scap) (.slice v.ia v.i v.icap) (.slice v.fa v.fn v.fcap) (.slice v.ka v.kn v.kcap) (.slice v.oa v.on v.ocap) 33
  rw [hW1] at p
  have C1 := hide p
  have z1 : w.heap.size < W1.heap.size := World.block_lt_of_cell? _ _ p.1
  obtain ⟨Y, hY⟩ : ∃ Y, W1.alloc (.cells #[] 54) = Y := ⟨_, rfl⟩
  have bY : Below W1.heap.size W1 Y := by rw [← hY]; exact (Below.refl _ _).alloc (Nat.le_refl _) _
  have BY := hide (B1.out.trans (bY.mono B1.out.size))
  have CN := hide (specNestOk B v Y (Nat.le_trans hB BY.out.size) (h.below (BY.out.mono hB)) hl)
  rw [decide_eq_false d0] at CN
  unfold NV.val at CN ⊢
  obtain ⟨p0, p1, p2, p3, p4⟩ := C1.out.below bY z1
  clear h hl d0 bY p
  go_enter Try.func6, Try.ntmps6
  go_wp2_with fail
  refine CN.out.mono ?_
  rintro e1 W2 ⟨rfl, b2⟩
  have B2 := hide (BY.out.trans (b2.mono BY.out.size))
  clear b2 CN p0 p1 p2 p3 p4
  go_wp2_with fail
  go_ret
  rw [e0.out]
  exact ⟨_, _, rfl, .inl rfl, B2.out⟩
/-- lives that were written over -/
def mkM (k : Int) : Nat → MV := fun i => ⟨k + 4 * i, k + 4 * i + 1, k + 4 * i + 1 + 1, k + 4 * i + 1 + 1 + 1⟩
set_option maxHeartbeats 2000000 in
theorem markLifeS (B g n c : Nat) (C : Nat → MV) (k : Int) (w : World) (h : OML B w g n n C) (hn : (n : Int) ≤ 1048576) (k0 : 0 ≤ k) (k1 : k ≤ 67108864) :
    Calls Try.prog 12 #[.slice (some ⟨g, 0, none⟩) n c, .int .i64 k] w fun e w' => e = .returned (.int .i64 (k + 4 * n)) ∧ OML B w' g n n (mkM k) ∧ Kept (· = g) w w' := by
  have H := hide h
  clear h
  go_enter Try.func12, Try.ntmps12
  go_wp2_with fail
  go_loopw [1, 5] (fun x i wx => ∃ (j : Nat) (y : Int) (E : Nat → MV), j ≤ n ∧ x = .int .i64 y ∧ i = .int .i64 j ∧ y = k + 4 * j ∧ OML B wx g n n E ∧ (∀ t, t < j → E t = mkM k t) ∧ Kept (· = g) w wx) (fun _ i _ => n - (intOf i).toNat)
  case atStart => exact ⟨0, k, C, Nat.zero_le _, rfl, rfl, by omega, H.out, fun t ht => by omega, Kept.refl _ _⟩
  case round =>
    obtain ⟨X, rfl⟩ : ∃ X, X = wr := ⟨_, rfl⟩
    obtain ⟨j, y, E, hj, rfl, rfl, hy, ho, he, hk⟩ := hrel
    have HO := hide ho
    have HE := hide he
    have HK := hide hk
    have HY := hide hy
    clear ho he hk
    by_cases hlt : j < n
    · have jI : (j : Int) < n := by omega
      obtain ⟨⟨c0, c1, c2, c3⟩, _⟩ := HO.out.laid j hlt
      have f0 := HO.out.free (j * 4)
      have f1 := HO.out.free (j * 4 + 1)
      have f2 := HO.out.free (j * 4 + 2)
      have f3 := HO.out.free (j * 4 + 3)
      have y0 : 0 ≤ y := by omega
      have y1 : y ≤ 71303168 := by omega
      have w1 : IntKind.i64.wrap (y + 1) = y + 1 := by rw [IntKind.wrap_i64]; omega
      have w2 : IntKind.i64.wrap (y + 1 + 1) = y + 1 + 1 := by rw [IntKind.wrap_i64]; omega
      have w3 : IntKind.i64.wrap (y + 1 + 1 + 1) = y + 1 + 1 + 1 := by rw [IntKind.wrap_i64]; omega
      have w4 : IntKind.i64.wrap (y + 1 + 1 + 1 + 1) = y + 1 + 1 + 1 + 1 := by rw [IntKind.wrap_i64]; omega
      have OS := hide (oml_set4 (b := y) (s := y + 1) (f := y + 1 + 1) (t := y + 1 + 1 + 1) HO.out hlt ⟨by unfold bd; omega, by unfold bd; omega, by unfold bd; omega, by unfold bd; omega⟩)
      have NE := hide (show ∀ t, t < j + 1 → updM E j ⟨y, y + 1, y + 1 + 1, y + 1 + 1 + 1⟩ t = mkM k t from fun t ht => by
        unfold updM
        by_cases d : t = j
        · rw [if_pos d, d]; unfold mkM; rw [HY.out]
        · rw [if_neg d]; exact HE.out t (by omega))
      have NY := hide (show y + 1 + 1 + 1 + 1 = k + 4 * ((j + 1 : Nat) : Int) by omega)
      clear hy
      go_wp2_with fail
      go_roundw
      all_goals first
        | (simp only [intOf]; omega)
        | (simp [intOf]; omega)
        | exact ⟨j + 1, _, _, by omega, rfl, by go_num, NY.out, OS.out, NE.out, HK.out.trans (kept_set4 _ _ _ _ _ _ _ _ _ _)⟩
    · obtain rfl : j = n := by omega
      clear hy
      go_wp2_with fail
      go_ret
      exact ⟨by rw [← HY.out]; rfl, HO.out.same (fun i hi => (HE.out i hi).symm), HK.out⟩
set_option maxHeartbeats 2000000 in
theorem heldLifeS (B g n c : Nat) (k : Int) (w : World) (h : OML B w g n n (mkM k)) (hn : (n : Int) ≤ 1048576) (k0 : 0 ≤ k) (k1 : k ≤ 67108864) :
    Calls Try.prog 13 #[.slice (some ⟨g, 0, none⟩) n c, .int .i64 k] w fun e w' => e = .returned (.int .i64 (k + 4 * n)) ∧ w' = w := by
  have H := hide h
  clear h
  go_enter Try.func13, Try.ntmps13
  go_wp2_with fail
  go_loopw [1, 5] (fun x i wx => ∃ (j : Nat) (y : Int), j ≤ n ∧ x = .int .i64 y ∧ i = .int .i64 j ∧ y = k + 4 * j ∧ wx = w) (fun _ i _ => n - (intOf i).toNat)
  case atStart => exact ⟨0, k, Nat.zero_le _, rfl, rfl, by omega, rfl⟩
  case round =>
    obtain ⟨j, y, hj, rfl, rfl, hy, rfl⟩ := hrel
    have HY := hide hy
    by_cases hlt : j < n
    · have jI : (j : Int) < n := by omega
      obtain ⟨⟨c0, c1, c2, c3⟩, _⟩ := H.out.laid j hlt
      unfold mkM at c0 c1 c2 c3
      dsimp only at c0 c1 c2 c3
      rw [← HY.out] at c0 c1 c2 c3
      have y0 : 0 ≤ y := by omega
      have y1 : y ≤ 71303168 := by omega
      have w1 : IntKind.i64.wrap (y + 1) = y + 1 := by rw [IntKind.wrap_i64]; omega
      have w2 : IntKind.i64.wrap (y + 1 + 1) = y + 1 + 1 := by rw [IntKind.wrap_i64]; omega
      have w3 : IntKind.i64.wrap (y + 1 + 1 + 1) = y + 1 + 1 + 1 := by rw [IntKind.wrap_i64]; omega
      have w4 : IntKind.i64.wrap (y + 1 + 1 + 1 + 1) = y + 1 + 1 + 1 + 1 := by rw [IntKind.wrap_i64]; omega
      have NY := hide (show y + 1 + 1 + 1 + 1 = k + 4 * ((j + 1 : Nat) : Int) by omega)
      have n0 : (y != y) = false := by simp
      have n1 : (y + 1 != y + 1) = false := by simp
      have n2 : (y + 1 + 1 != y + 1 + 1) = false := by simp
      have n3 : (y + 1 + 1 + 1 != y + 1 + 1 + 1) = false := by simp
      clear hy
      go_wp2_with fail
      go_roundw
      all_goals first
        | (simp only [intOf]; omega)
        | (simp [intOf]; omega)
        | exact ⟨j + 1, _, by omega, rfl, by go_num, NY.out, trivial⟩
    · obtain rfl : j = n := by omega
      clear hy
      go_wp2_with fail
      go_ret
      exact ⟨by rw [← HY.out]; rfl, rfl⟩
end Vo
end Go.Proofs.Ytgmjijjckedmcaa
