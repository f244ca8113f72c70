/- The model's l3Order, l4Get, l4With, l4Axis, l4Line. -/
import Derived.Test.YtpmkjifpoikdjaaTf
import Derived.Lib.QuietBelow
namespace Go.Proofs.Ytpmkjifpoikdjaa
namespace Vo
open Go.ChangeShapes Go.WideShapes Go.ChangeAt Go.RowKit Go.Joins Go.Sort
open Vl Vp Vr
set_option linter.unusedVariables false
set_option linter.unusedSimpArgs false

theorem od_le {D I : Nat → Int} {r : Nat} (h : dok r D = true) (hi : ∀ j, j < r → 0 ≤ I j ∧ I j < D j) {m : Nat} (hm : m ≤ r) : 0 ≤ od D I m ∧ od D I m < 4096 := by
  have q := od_rng D I m (fun j hj => hi j (by omega))
  have := (dok_iff.1 h).2
  have h1 : szR D m ≠ 0 := fun e => by have := szR_zero e hm; omega
  rcases szR_cases D m with e | ⟨_, e, _, e4⟩
  · exact absurd e h1
  · omega
theorem l3Order (B : Nat) (a c : Option Addr) (r cap q cap' : Nat) (D I : Nat → Int) (w : World) (hB : B ≤ w.heap.size) (h : Ints B w a r D) (h' : Ints B w c q I) (hq : r ≤ q) (hd : dok r D = true) (hi : ∀ j, j < r → 0 ≤ I j ∧ I j < D j) :
    Calls Try.prog 65 #[.slice a r cap, .slice c q cap'] w fun e w' => e = .returned (.int .i64 (od D I r)) ∧ Below w.heap.size w w' := by
  have r6 : r ≤ 6 := (dok_iff.1 hd).1
  have H := hide h
  have H' := hide h'
  have HD := hide hd
  have HI := hide hi
  clear h h' hd hi
  go_enter Try.func65, Try.ntmps65
  go_wp2_with fail
  go_loopw [5, 6] (fun v i wx => ∃ m : Nat, m ≤ r ∧ i = .int .i64 m ∧ v = .int .i64 (od D I m) ∧ Below w.heap.size w wx) (fun _ i _ => r - (intOf i).toNat)
  case atStart => exact ⟨0, Nat.zero_le _, rfl, rfl, Below.refl _ _⟩
  case round =>
    obtain ⟨m, hm, rfl, rfl, hb⟩ := hrel
    have HB := hide hb
    clear hb
    by_cases hlt : m < r
    · have mI : (m : Int) < r := by omega
      have mQ : (m : Int) < q := by omega
      rcases H.out.below (HB.out.mono hB) with h0 | ⟨b1, o1, rfl, hb1, hc1⟩
      · omega
      rcases H'.out.below (HB.out.mono hB) with h0 | ⟨b2, o2, rfl, hb2, hc2⟩
      · omega
      have c1 := (hc1 m hlt).1
      have c2 := (hc2 m (by omega)).1
      have i1 := HI.out m hlt
      have o1' := od_le HD.out HI.out (m := m) (by omega)
      have o2' := od_le HD.out HI.out (m := m + 1) (by omega)
      have dl := dok_len HD.out hlt
      have es : od D I (m + 1) = od D I m * D m + I m := rfl
      obtain ⟨v, hv⟩ : ∃ v, od D I m = v := ⟨_, rfl⟩
      rw [hv] at es o1' ⊢
      obtain ⟨p, hp⟩ : ∃ p, v * D m = p := ⟨_, rfl⟩
      rw [hp] at es
      have p0 : 0 ≤ p := by rw [← hp]; exact Int.mul_nonneg (by omega) (by omega)
      have p1 : p ≤ 4096 := by omega
      have ES := hide es
      clear hc1 hc2 es
      go_wp2_with fail
      go_region
      all_goals (go_wp2_with fail)
      all_goals go_roundw
      all_goals first
        | exact ⟨m + 1, by omega, by go_num, by rw [ES.out], HB.out.drew⟩
        | (simp [intOf]; omega)
    · obtain rfl : m = r := by omega
      go_wp2_with fail
      go_ret
      exact ⟨rfl, HB.out⟩
set_option maxHeartbeats 1000000 in
theorem l4Get (B : Nat) (a b c : Option Addr) (r s cap dap q cap' : Nat) (D S I : Nat → Int) (w : World) (hB : B ≤ w.heap.size) (h : Ints B w a r D) (h1 : Ints B w b s S) (h' : Ints B w c q I) (hq : r ≤ q) (ht : tok r s D S = true) (hi : ∀ j, j < r → 0 ≤ I j ∧ I j < D j) :
    Calls Try.prog 63 #[.agg #[.slice a r cap, .slice b s dap], .slice c q cap'] w fun e w' => e = .returned (.int .i64 (S (od D I r).toNat)) ∧ Below w.heap.size w w' := by
  obtain ⟨td, ts, tw⟩ := tok_split ht
  have od1 := od_rng D I r hi
  have os : od D I r < s := by
    have := (dok_iff.1 td).2
    rcases szR_cases D r with e | ⟨_, e, _, _⟩
    · omega
    · omega
  have s4 : (s : Int) ≤ 4096 := by rw [← ts]; exact (szR_rng D r).2
  obtain ⟨W0, hW0⟩ : ∃ W0, w.alloc (.cells #[.slice a r cap, .slice b s dap] 37) = W0 := ⟨_, rfl⟩
  have bl : Below w.heap.size w W0 := by rw [← hW0]; exact (Below.refl _ _).alloc (Nat.le_refl _) _
  have n0 : Bx W0 w.heap.size (.slice a r cap) (.slice b s dap) := by rw [← hW0]; exact bx_new w _ _ _
  have OC := hide (l3Order B a c r cap q cap' D I W0 (Nat.le_trans hB bl.size) (h.below (bl.mono hB)) (h'.below (bl.mono hB)) hq td hi)
  obtain ⟨p, hp⟩ : ∃ p : Nat, od D I r = p := ⟨(od D I r).toNat, by omega⟩
  rw [hp] at OC ⊢
  rw [Int.toNat_natCast]
  have pI : (p : Int) < s := by omega
  have k0 := cell_regrown n0.1
  have k1 := cell_regrown n0.2
  rcases h1.below (bl.mono hB) with h0 | ⟨b1, o1, rfl, hb1, hc1⟩
  · omega
  have k2 := cell_regrown (hc1 p (by omega)).1
  have CF := hide (fun (q1 : Nat) (os : Array Obj) => show Calls Try.prog 65 #[.slice a r cap, .slice c q cap'] (Sort.grow (redrawn W0 q1) os) (fun e w'' => e = .returned (.int .i64 (p : Int)) ∧ ∃ p : Regrown, w'' = Sort.grow (redrawn W0 p.d) p.os) from Calls.regrown_of ((by
    have hbr : Below W0.heap.size W0 (Sort.grow (redrawn W0 q1) os) := below_regrown W0 q1 os
    have b2 : Below w.heap.size w (Sort.grow (redrawn W0 q1) os) := bl.trans (hbr.mono bl.size)
    have := l3Order B a c r cap q cap' D I (Sort.grow (redrawn W0 q1) os) (Nat.le_trans hB b2.size) (h.below (b2.mono hB)) (h'.below (b2.mono hB)) hq td hi
    rw [hp] at this
    exact this)))
  have BL := hide bl
  clear h h1 h' hi ht td ts tw od1 os hp hc1 n0 OC
  go_enter Try.func63, Try.ntmps63
  go_wp2_with fail
  clear hW0
  refine wp_region_quiet_below (by kernel_rfl) (by kernel_rfl) ?_
  repeat (quiet_step (exact CF.out _ _))
  refine wpQuiet_nil ?_
  intro _ hw'
  obtain ⟨⟨dq, osq⟩, hw''⟩ := hw'
  subst hw''
  go_wp2_with fail
  go_ret
  exact ⟨rfl, BL.out.trans ((below_regrown W0 dq osq).mono BL.out.size)⟩
theorem l4With (B : Nat) (a : Option Addr) (r cap k : Nat) (D : Nat → Int) (n : Int) (w : World) (hB : B ≤ w.heap.size) (h : Ints B w a r D) (hr : (r : Int) ≤ 1048576) (hk : k < r) (hn : bd n) :
    Calls Try.prog 40 #[.slice a r cap, .int .i64 k, .int .i64 n] w fun e w' => ∃ g c, e = .returned (.slice (some ⟨g, 0, none⟩) r c) ∧ Rw w' g r (up1 D k n) ∧ w.heap.size ≤ g ∧ g < w'.heap.size ∧ Below w.heap.size w w' := by
  have h0 := h
  rcases h with h | ⟨b1, o1, rfl, hb1, hc1⟩
  · omega
  have H := hide h0
  have kI : (k : Int) < r := by omega
  clear h0 hc1
  go_enter Try.func40, Try.ntmps40
  go_wp2_with fail
  refine (l3Ints B _ r cap D _ H.out hB hr).mono ?_
  rintro e w1 ⟨v, rfl, rv, b1⟩
  obtain ⟨va, vc, rfl, ov⟩ := rv.own
  rcases ov with q | ⟨g, rfl, hg, rw1⟩
  · omega
  have lt := rw1.lt (by omega)
  have B1 := hide b1
  have R1 := hide rw1
  have HN := hide hn
  obtain ⟨c1, f1, _⟩ := rw1 k hk
  clear rv b1 rw1 hn
  go_wp2_with fail
  go_ret
  exact ⟨g, vc, rfl, R1.out.set k n HN.out, hg, by simpa [World.setCell] using lt, B1.out.setCell (p := ⟨g, k, none⟩) hg _⟩
theorem l4Axis (B : Nat) (a b : Option Addr) (r s cap dap : Nat) (D S : Nat → Int) (x : Int) (w : World) (hB : B ≤ w.heap.size) (h : Ints B w a r D) (h' : Ints B w b s S) (hr : (r : Int) ≤ 1048576) (hs : (s : Int) ≤ 1048576) :
    Calls Try.prog 35 #[.agg #[.slice a r cap, .slice b s dap], .int .i64 x] w fun e w' => e = .returned (.bool (decide (tok r s D S = true ∧ 0 ≤ x ∧ x < r))) ∧ Below w.heap.size w w' := by
  have BL := hide (show Below w.heap.size w (w.alloc (.cells #[.slice a r cap, .slice b s dap] 37)) from (Below.refl _ _).alloc (Nat.le_refl _) _)
  have NV := hide (bx_new w (.slice a r cap) (.slice b s dap) 37)
  have H := hide (h.below (BL.out.mono hB))
  have H' := hide (h'.below (BL.out.mono hB))
  clear h h'
  go_enter Try.func35, Try.ntmps35
  go_wp2_with fail
  refine (specTensorOk B a b r s cap dap D S _ (by simp; omega) H.out H'.out hr hs).mono ?_
  rintro e w1 ⟨rfl, b1⟩
  have B1 := hide (BL.out.trans (b1.mono (by simp)))
  have N1 := hide (NV.out.below b1 (by simp))
  obtain ⟨x0, x1⟩ := N1.out
  clear b1
  cases ht : tok r s D S with
  | false =>
    have ez := hide (decide_eq_false (show ¬ (tok r s D S = true ∧ 0 ≤ x ∧ x < (r : Int)) from fun q => by rw [ht] at q; exact absurd q.1 (by decide)))
    clear ht
    go_wp2_with fail
    go_ret
    exact ⟨ret_bool ez.out.symm, B1.out⟩
  | true =>
    by_cases h0 : 0 ≤ x
    · have h0' : decide (0 ≤ x) = true := decide_eq_true h0
      by_cases h1 : x < r
      · have h1' : decide (x < (r : Int)) = true := decide_eq_true h1
        have ez := hide (decide_eq_true (show (tok r s D S = true ∧ 0 ≤ x ∧ x < (r : Int)) from ⟨ht, h0, h1⟩))
        clear ht h0 h1
        go_wp2_with fail
        go_ret
        exact ⟨ret_bool ez.out.symm, B1.out⟩
      · have h1' : decide (x < (r : Int)) = false := decide_eq_false h1
        have ez := hide (decide_eq_false (show ¬ (tok r s D S = true ∧ 0 ≤ x ∧ x < (r : Int)) from fun q => h1 q.2.2))
        clear ht h0 h1
        go_wp2_with fail
        go_ret
        exact ⟨ret_bool ez.out.symm, B1.out⟩
    · have h0' : decide (0 ≤ x) = false := decide_eq_false h0
      have ez := hide (decide_eq_false (show ¬ (tok r s D S = true ∧ 0 ≤ x ∧ x < (r : Int)) from fun q => h0 q.2.1))
      clear ht h0
      go_wp2_with fail
      go_ret
      exact ⟨ret_bool ez.out.symm, B1.out⟩
set_option maxRecDepth 100000 in
set_option maxHeartbeats 3200000 in
theorem l4Line (B : Nat) (a b ci : Option Addr) (r s cap dap k cap' len : Nat) (D S I : Nat → Int) (w : World) (hB : B ≤ w.heap.size) (h : Ints B w a r D) (h1 : Ints B w b s S) (h' : Ints B w ci r I) (ht : tok r s D S = true) (hi : ∀ j, j < r → 0 ≤ I j ∧ I j < D j) (hk : k < r) (hl : D k = len) :
    Calls Try.prog 38 #[.agg #[.slice a r cap, .slice b s dap], .int .i64 k, .slice ci r cap'] w fun e w' => ∃ g c, e = .returned (.slice (some ⟨g, 0, none⟩) len c) ∧ w.heap.size ≤ g ∧ g < w'.heap.size ∧ Rw w' g len (fun u => S (od D (up1 I k u) r).toNat) ∧ Below w.heap.size w w' := by
  obtain ⟨i0, hi0, hz0, hz1, hz2⟩ := info_parts infoInt
  obtain ⟨F, hF⟩ : ∃ F : Nat → Int, (fun u => S (od D (up1 I k u) r).toNat : Nat → Int) = F := ⟨_, rfl⟩
  obtain ⟨td, ts, tw⟩ := tok_split ht
  have l4 := dok_len td hk
  have r6 : r ≤ 6 := (dok_iff.1 td).1
  have len4 : len ≤ 4096 := by omega
  have hiu : ∀ u : Nat, u < len → ∀ j, j < r → 0 ≤ up1 I k u j ∧ up1 I k u j < D j := fun u hu j hj => by
    by_cases c : j = k
    · subst c; rw [up1_at]; omega
    · rw [up1_ne _ _ c]; exact hi j hj
  have hbF : ∀ u, u < len → bd (F u) := fun u hu => by
    rw [← hF]
    have o := od_rng D (up1 I k u) r (hiu u hu)
    have e := (dok_iff.1 td).2
    have := tw (od D (up1 I k u) r).toNat (by
      rcases szR_cases D r with e | ⟨_, e, _, _⟩ <;> omega)
    show bd (S (od D (up1 I k u) r).toNat)
    unfold bd; omega
  rw [hF]
  have bl : Below w.heap.size w (w.alloc (.cells #[.slice a r cap, .slice b s dap] 37)) := (Below.refl _ _).alloc (Nat.le_refl _) _
  have nv := bx_new w (.slice a r cap) (.slice b s dap) 37
  have bl2 : Below w.heap.size w ((w.alloc (.cells #[.slice a r cap, .slice b s dap] 37)).alloc (.cells #[] 3)) := bl.alloc (by simp) _
  have bl3 : Below (w.heap.size + 1) (w.alloc (.cells #[.slice a r cap, .slice b s dap] 37)) ((w.alloc (.cells #[.slice a r cap, .slice b s dap] 37)).alloc (.cells #[] 3)) := (Below.refl _ _).alloc (by simp) _
  have NV2 := hide (nv.below bl3 (by omega))
  have BL2 := hide bl2
  have H0 := hide h
  have H1 := hide h1
  have H2 := hide h'
  have HT := hide ht
  have HIU := hide hiu
  have HBF := hide hbF
  have HFF := hide hF
  have HI := hide hi
  have HL := hide hl
  clear h h1 h' bl nv bl2 bl3 ht hi hiu hbF hF td ts tw hl
  go_enter Try.func38, Try.ntmps38
  go_wp2_with fail
  go_loopw [7, 8] (fun v i wx => ∃ (m g c : Nat), m ≤ len ∧ v = .slice (some ⟨g, 0, none⟩) m c ∧ i = .int .i64 m ∧ wx.ownsRow (w.heap.size + 1) 3 1 (.slice (some ⟨g, 0, none⟩) m c) m (ints m F) ∧ Bx wx w.heap.size (.slice a r cap) (.slice b s dap) ∧ Below w.heap.size w wx) (fun _ i _ => len - (intOf i).toNat)
  case atStart =>
    refine ⟨0, w.heap.size + 1, 0, Nat.zero_le _, rfl, rfl, ?_, NV2.out, BL2.out⟩
    refine ⟨rfl, .inr ⟨w.heap.size + 1, 0, #[], rfl, Nat.le_refl _, ?_, Nat.le_refl _, by simp [maxLen], rfl, rfl⟩⟩
    have := heap_alloc_new (w.alloc (.cells #[.slice a r cap, .slice b s dap] 37)) (.cells #[] 3)
    rwa [World.size_alloc] at this
  case round =>
    obtain ⟨m, g, c, hm, rfl, rfl, hown, hbx, bb⟩ := hrel
    have HX := hide hbx
    have BB := hide bb
    have HO := hide hown
    obtain ⟨x0, x1⟩ := hbx
    clear bb hown
    have hBw := Nat.le_trans hB BB.out.size
    have HA := hide (H0.out.below (BB.out.mono hB))
    have HB := hide (H1.out.below (BB.out.mono hB))
    have HC := hide (H2.out.below (BB.out.mono hB))
    rcases HA.out with h0 | ⟨ab, ao, rfl, hab, hac⟩
    · omega
    have ca := (hac k hk).1
    rw [HL.out] at ca
    have kI : (k : Int) < r := by omega
    clear hac
    by_cases hlt : m < len
    · have mI : (m : Int) < len := by omega
      have hgl := (HO.out.lt g rfl).1
      have hgn : w.heap.size ≠ g := by omega
      have HG := hide (show ∀ (w1 : World) (gi gc : Nat), Below wr.heap.size wr.drew w1 → Rw w1 gi r (up1 I k m) → wr.heap.size ≤ gi → gi < w1.heap.size →
          Calls Try.prog 63 #[.agg #[.slice (some ⟨ab, ao, none⟩) r cap, .slice b s dap], .slice (some ⟨gi, 0, none⟩) r gc] w1 fun e w' => e = .returned (.int .i64 (F m)) ∧ Below w1.heap.size w1 w' from by
        intro w1 gi gc b1 q1 s0 s1
        rw [← HFF.out]
        exact l4Get w1.heap.size _ b _ r s cap dap r gc D S _ w1 (Nat.le_refl _) (Ints.mono (Ints.below (w := wr.drew) HA.out (b1.mono hBw)) (by have := b1.size; simp at this; omega)) (Ints.mono (Ints.below (w := wr.drew) HB.out (b1.mono hBw)) (by have := b1.size; simp at this; omega)) (q1.ints s1) (Nat.le_refl _) HT.out (HIU.out m hlt))
      go_wp2_with fail
      go_region_held3 (fun w' => w'.cell? ⟨w.heap.size, 0, none⟩ = some (.slice (some ⟨ab, ao, none⟩) r cap) ∧ w'.cell? ⟨w.heap.size, 1, none⟩ = some (.slice b s dap))
        ((try dsimp only) <;> (repeat' apply And.intro) <;> (repeat (first | with_reducible assumption | with_reducible apply drew_old | with_reducible apply alloc_old | (with_reducible apply below_old; (focus (with_reducible assumption))) | (with_reducible apply grown_old; (focus (with_reducible assumption)); (focus (dsimp only; with_reducible assumption))))))
        (first
          | (go_at_call 40
             refine (l4With B ci r cap' k I m wr.drew (by exact hBw) (by exact HC.out) (by omega) hk (by unfold bd; omega)).mono ?_
             rintro e1 w1 ⟨gi, gc, rfl, q1, s0, s1, b1⟩)
          | (go_at_call 63
             refine (HG.out _ gi gc b1 q1 s0 s1).mono ?_
             rintro e2 w2 ⟨rfl, b2⟩
             have hown2 := own_below (own_below (w := wr.drew) HO.out b1) b2
             have hsz2 : w.heap.size ≤ w2.heap.size := Nat.le_trans BB.out.size (Nat.le_trans b1.size b2.size))
          | (refine step_append_lies _ (by rfl) _ _ _ (by rfl) (w.heap.size + 1) 3 i0 _ 1 8 Try.underlying24 hi0 hz0 hz1 hz2 rfl (by omega) (.slice (some ⟨g, 0, none⟩) m c) m (ints m F) (by rfl) (hown2.alloc _)
              ⟨w2.heap.size, 0, none⟩ 1 1 [.int .i64 (F m)] (by rfl) (by rfl) (World.news_of_block (cs := #[.int .i64 (F m)]) (t := 3) (fr := (0, 0)) (heap_alloc_new w2 _)) (by simp [Value.oneCell'])
              (by omega) (by unfold maxLen; omega) (by omega) (by simp; omega) (w2.heap.size + 1) (by simp) ?_
             intro g' c' w3 hown3 hgrow0 hat hlt3
             have hgrow : World.grownBy _ w3 (some g) := hgrow0
             clear hgrow0))
      go_wp2_with fail
      go_roundw
      case rel =>
        rw [ints_succ m F] at hown3
        have b4 : Below w2.heap.size w2 (w2.alloc (.cells #[.int .i64 (F m)] 3)) := (Below.refl _ _).alloc (Nat.le_refl _) _
        have b5 : Below w.heap.size w w2 := (BB.out.drew.trans (b1.mono BB.out.size)).trans (b2.mono (Nat.le_trans BB.out.size b1.size))
        have b6 : Below w.heap.size w w3 := (b5.trans (b4.mono hsz2)).grown hgrow (by simp; omega) (by rintro q ⟨⟩; omega)
        exact ⟨m + 1, g', c', by omega, rfl, by go_num, hown3, ⟨grown_old hgrow hgn (alloc_old (below_old b2 (below_old (w := wr.drew) b1 x0))), grown_old hgrow hgn (alloc_old (below_old b2 (below_old (w := wr.drew) b1 x1)))⟩, b6⟩
      case measure => simp [intOf]; omega
    · obtain rfl : m = len := by omega
      go_wp2_with fail
      go_ret
      have hl := HO.out.lt g rfl
      exact ⟨g, c, rfl, by omega, hl.2, rw_of_row HO.out HBF.out, BB.out⟩
end Vo
end Go.Proofs.Ytpmkjifpoikdjaa
