/- Lemmas for the proof of the law. -/
import Derived.Test.YtejfodkobfdelaaMgac
/- All places, the model's side. -/
namespace Go.Proofs.Ytejfodkobfdelaa
namespace Vo
open Go.ChangeShapes Go.WideShapes Go.ChangeAt Go.RowKit Go.Joins
open Vl Vp
set_option linter.unusedVariables false
theorem infoInt : (Try.prog.info? 3).map (fun i => (i.zero, i.size, i.bytes)) = some (some (.int .i64 0), 1, 8) := by kernel_rfl
def ints (n : Nat) (f : Nat → Int) : List Value := (List.range n).map (fun t => .int .i64 (f t))
theorem ints_succ (n : Nat) (f : Nat → Int) : ints n f ++ [.int .i64 (f n)] = ints (n + 1) f := by unfold ints; rw [List.range_succ, List.map_append]; rfl
theorem ints_get (n : Nat) (f : Nat → Int) (t : Nat) (ht : t < n) : (ints n f)[t]? = some (.int .i64 (f t)) := by unfold ints; simp [ht]
theorem rw_of_row {w : World} {base g n cap : Nat} {f : Nat → Int} (h : w.ownsRow base 3 1 (.slice (some ⟨g, 0, none⟩) n cap) n (ints n f)) (hb : ∀ t, t < n → bd (f t)) : Rw w g n f := by
  intro t ht
  refine ⟨?_, h.frozenAt t, hb t ht⟩
  rw [h.cellAt t (by omega), ints_get n f t ht]

theorem drew_old {w : World} {a : Addr} {v : Value} (h : w.cell? a = some v) : w.drew.cell? a = some v := h
theorem alloc_old {w : World} {o : Obj} {a : Addr} {v : Value} (h : w.cell? a = some v) : (w.alloc o).cell? a = some v := by
  rw [World.cell?_of_block (w := w) (Below.heap_alloc w o a.block (block_lt_of_cell h))]; exact h
theorem below_old {w w' : World} {a : Addr} {v : Value} (b : Below w.heap.size w w') (h : w.cell? a = some v) : w'.cell? a = some v := (b.cell (block_lt_of_cell h)).trans h
theorem grown_old {w w' : World} {g : Nat} {a : Addr} {v : Value} (hg : w.grownBy w' (some g)) (hn : a.block ≠ g) (h : w.cell? a = some v) : w'.cell? a = some v :=
  (World.cell?_of_block (w := w) (hg.block a.block (block_lt_of_cell h) (by intro e; injection e with e; exact hn e))).trans h
theorem own_below {w w' : World} {base : Nat} {e : TypeId} {z : Nat} {v : Value} {n : Nat} {xs : List Value} (h : w.ownsRow base e z v n xs) (b : Below w.heap.size w w') : w'.ownsRow base e z v n xs := by
  cases hv : v.ownBlock with
  | none => exact h.kept (row := none) ⟨b.os, b.tape, b.output, b.size, fun k hk _ => b.block k hk⟩ (.inl hv)
  | some q => exact h.kept (row := none) ⟨b.os, b.tape, b.output, b.size, fun k hk _ => b.block k hk⟩ (.inr (by rw [hv]; simp))

set_option maxRecDepth 100000 in
set_option maxHeartbeats 3200000 in
theorem l3All (B : Nat) (a b : Option Addr) (r cap dap N : Nat) (D S : Nat → Int) (o n : Int) (w : World) (hB : B ≤ w.heap.size) (h : Ints B w a r D) (h' : Ints B w b r S)
    (hd : dok r D = true) (hs : ∀ j, j < r → -4096 ≤ S j ∧ S j ≤ 4096) (o0 : 0 ≤ o) (o1 : o ≤ 4096) (hN : (N : Int) = szR D r) :
    Calls Try.prog 26 #[.agg #[.slice a r cap, .slice b r dap, .int .i64 o, .int .i64 n]] w fun e w' => ∃ g c, e = .returned (.slice (some ⟨g, 0, none⟩) N c) ∧ w.heap.size ≤ g ∧ g < w'.heap.size ∧ Rw w' g N (fun k => o + rel D S r k) ∧ Below w.heap.size w w' := by
  obtain ⟨i0, hi0, hz0, hz1, hz2⟩ := info_parts infoInt
  have bl : Below w.heap.size w (w.alloc (.cells #[.slice a r cap, .slice b r dap, .int .i64 o, .int .i64 n] 26)) := (Below.refl _ _).alloc (Nat.le_refl _) _
  have nv := box_new w (.slice a r cap) (.slice b r dap) (.int .i64 o) (.int .i64 n) 26
  have H0 := hide h
  have H0' := hide h'
  have H := hide (h.below (bl.mono hB))
  have H' := hide (h'.below (bl.mono hB))
  have BL := hide bl
  have HS := hide hs
  have NV := hide nv
  have HD := hide (fun j hj => dok_len hd (j := j) hj)
  have r6 : (r : Int) ≤ 6 := by have := (dok_iff.1 hd).1; omega
  have n4 : (N : Int) ≤ 4096 := by have := (szR_rng D r).2; omega
  have HN := hide hN
  clear h h' bl hs nv hd hN
  go_enter Try.func26, Try.ntmps26
  go_wp2_with fail
  have bl2 : Below w.heap.size w ((w.alloc (.cells #[.slice a r cap, .slice b r dap, .int .i64 o, .int .i64 n] 26)).alloc (.cells #[] 3)) := BL.out.alloc (by simp) _
  have bl3 : Below (w.heap.size + 1) (w.alloc (.cells #[.slice a r cap, .slice b r dap, .int .i64 o, .int .i64 n] 26)) ((w.alloc (.cells #[.slice a r cap, .slice b r dap, .int .i64 o, .int .i64 n] 26)).alloc (.cells #[] 3)) := (Below.refl _ _).alloc (by simp) _
  have H2 := hide (H.out.below (bl3.mono (by omega)))
  have H2' := hide (H'.out.below (bl3.mono (by omega)))
  have NV2 := hide (NV.out.below bl3 (by omega))
  have BL2 := hide bl2
  clear bl2 bl3
  refine (Vs.l3Size B a r cap D _ H2.out (by omega)).mono ?_; rintro e1 w1 ⟨rfl, rfl⟩
  rw [← HN.out]
  go_wp2_with fail
  go_loopw [3, 5] (fun v i wx => ∃ (k g c : Nat), k ≤ N ∧ v = .slice (some ⟨g, 0, none⟩) k c ∧ i = .int .i64 k ∧ wx.ownsRow (w.heap.size + 1) 3 1 (.slice (some ⟨g, 0, none⟩) k c) k (ints k (fun t => o + rel D S r t)) ∧ Box wx w.heap.size (.slice a r cap) (.slice b r dap) (.int .i64 o) (.int .i64 n) ∧ Ints B wx a r D ∧ Ints B wx b r S ∧ Below w.heap.size w wx) (fun _ i _ => N - (intOf i).toNat)
  case atStart =>
    refine ⟨0, w.heap.size + 1, 0, Nat.zero_le _, rfl, rfl, ?_, NV2.out, H2.out, H2'.out, BL2.out⟩
    refine ⟨rfl, .inr ⟨w.heap.size + 1, 0, #[], rfl, Nat.le_refl _, ?_, Nat.le_refl _, by simp [maxLen], rfl, rfl⟩⟩
    have := heap_alloc_new (w.alloc (.cells #[.slice a r cap, .slice b r dap, .int .i64 o, .int .i64 n] 26)) (.cells #[] 3)
    rwa [World.size_alloc] at this
  case round =>
    obtain ⟨k, g, c, hk, rfl, rfl, hown, hbx, ha, hb, bb⟩ := hrel
    have HA := hide ha
    have HB := hide hb
    have HX := hide hbx
    have BB := hide bb
    have HO := hide hown
    obtain ⟨x0, x1, x2, x3⟩ := hbx
    clear ha hb bb hown
    by_cases hlt : k < N
    · have kI : (k : Int) < N := by omega
      have hBw := Nat.le_trans hB BB.out.size
      have hgl := (HO.out.lt g rfl).1
      have hgn : w.heap.size ≠ g := by omega
      have HP := hide (show ∀ w1 : World, Below wr.heap.size wr.drew w1 → Rw w1 wr.heap.size r (dg D r k) → wr.heap.size < w1.heap.size →
          Calls Try.prog 43 #[.agg #[.slice a r cap, .slice b r dap, .int .i64 o, .int .i64 n], .slice (some ⟨wr.heap.size, 0, none⟩) r r] w1 fun e w' => e = .returned (.int .i64 (o + sm (dg D r k) S r)) ∧ Below w1.heap.size w1 w' from by
        intro w1 b1 q1 s1
        refine l3Place w1.heap.size a b _ r r r cap dap r D S (dg D r k) o n _ (Nat.le_refl _) (Ints.mono (Ints.below (w := wr.drew) HB.out (b1.mono hBw)) (by omega)) (q1.ints s1) (Nat.le_refl _) r6 (fun j hj => ?_) HS.out o0 o1
        have := dg_rng D r (fun j hj => (HD.out j hj).1) k j hj
        have := (HD.out j hj).2
        omega)
      go_wp2_with fail
      go_region_held3 (fun w' => w'.cell? ⟨w.heap.size, 0, none⟩ = some (.slice a r cap) ∧ w'.cell? ⟨w.heap.size, 1, none⟩ = some (.slice b r dap) ∧ w'.cell? ⟨w.heap.size, 2, none⟩ = some (.int .i64 o) ∧ w'.cell? ⟨w.heap.size, 3, none⟩ = some (.int .i64 n))
        ((try dsimp only) <;> (repeat' apply And.intro) <;> (repeat (first | with_reducible assumption | with_reducible apply drew_old | with_reducible apply alloc_old | (with_reducible apply below_old; (focus (with_reducible assumption))) | (with_reducible apply grown_old; (focus (with_reducible assumption)); (focus (dsimp only; with_reducible assumption))))))
        (first
          | (go_at_call 34
             refine (l3Index B a r cap D k _ (by exact HA.out) (by exact Nat.le_trans hB BB.out.size) r6 HD.out (by omega) (by omega)).mono ?_
             rintro e1 w1 ⟨rfl, q1, s1, b1⟩)
          | (go_at_call 43
             refine (HP.out _ b1 q1 s1).mono ?_
             rintro e2 w2 ⟨rfl, b2⟩
             have hown2 := own_below (own_below (w := wr.drew) HO.out b1) b2
             have hsz2 : w.heap.size ≤ w2.heap.size := Nat.le_trans BB.out.size (Nat.le_trans b1.size b2.size))
          | (refine step_append_lies _ (by rfl) _ _ _ (by rfl) (w.heap.size + 1) 3 i0 _ 1 8 Try.underlying22 hi0 hz0 hz1 hz2 rfl (by omega) (.slice (some ⟨g, 0, none⟩) k c) k (ints k (fun t => o + rel D S r t)) (by rfl) (hown2.alloc _)
              ⟨w2.heap.size, 0, none⟩ 1 1 [.int .i64 (o + sm (dg D r k) S r)] (by rfl) (by rfl) (World.news_of_block (cs := #[.int .i64 (o + sm (dg D r k) S r)]) (t := 3) (fr := (0, 0)) (heap_alloc_new w2 _)) (by simp [Value.oneCell'])
              (by omega) (by unfold maxLen; omega) (by omega) (by simp; omega) (w2.heap.size + 1) (by simp) ?_
             intro g' c' w3 hown3 hgrow0 hat hlt3
             have hgrow : World.grownBy _ w3 (some g) := hgrow0
             clear hgrow0))
      go_wp2_with fail
      go_roundw
      case rel =>
        rw [sm_dg, ints_succ k (fun t => o + rel D S r t)] at hown3
        have b4 : Below w2.heap.size w2 (w2.alloc (.cells #[.int .i64 (o + sm (dg D r k) S r)] 3)) := (Below.refl _ _).alloc (Nat.le_refl _) _
        have b5 : Below w.heap.size w w2 := (BB.out.drew.trans (b1.mono BB.out.size)).trans (b2.mono (Nat.le_trans BB.out.size b1.size))
        have b6 : Below w.heap.size w w3 := (b5.trans (b4.mono hsz2)).grown hgrow (by simp; omega) (by rintro q ⟨⟩; omega)
        exact ⟨k + 1, g', c', by omega, rfl, by go_num, hown3, ⟨grown_old hgrow hgn (alloc_old (below_old b2 (below_old (w := wr.drew) b1 x0))), grown_old hgrow hgn (alloc_old (below_old b2 (below_old (w := wr.drew) b1 x1))), grown_old hgrow hgn (alloc_old (below_old b2 (below_old (w := wr.drew) b1 x2))), grown_old hgrow hgn (alloc_old (below_old b2 (below_old (w := wr.drew) b1 x3)))⟩, H0.out.below (b6.mono hB), H0'.out.below (b6.mono hB), b6⟩
      case measure => simp [intOf]; omega
    · obtain rfl : k = N := by omega
      go_wp2_with fail
      go_ret
      have hl := HO.out.lt g rfl
      refine ⟨g, c, rfl, by omega, hl.2, rw_of_row HO.out (fun t ht => ?_), BB.out⟩
      have := lohi_bd r HD.out HS.out
      have := rel_bd (S := S) r (fun j hj => (HD.out j hj).1) (t : Int)
      unfold bd
      omega
end Vo
end Go.Proofs.Ytejfodkobfdelaa

/- ViewOk, the model's side; Place on both sides. -/
namespace Go.Proofs.Ytejfodkobfdelaa
namespace Vo
open Go.ChangeShapes Go.WideShapes Go.ChangeAt Go.RowKit Go.Joins
open Vl Vp
set_option linter.unusedVariables false

set_option maxHeartbeats 2000000 in
theorem specViewOk (B : Nat) (a b : Option Addr) (r s cap dap : Nat) (D S : Nat → Int) (o n : Int) (w : World) (hB : B ≤ w.heap.size) (h : Ints B w a r D) (h' : Ints B w b s S) (hr : (r : Int) ≤ 1048576) (hs : (s : Int) ≤ 1048576) :
    Calls Try.prog 23 #[.agg #[.slice a r cap, .slice b s dap, .int .i64 o, .int .i64 n]] w fun e w' => e = .returned (.bool (vok r s D S o n)) ∧ Below w.heap.size w w' := by
  have bl : Below w.heap.size w (w.alloc (.cells #[.slice a r cap, .slice b s dap, .int .i64 o, .int .i64 n] 26)) := (Below.refl _ _).alloc (Nat.le_refl _) _
  have H0 := hide h
  have H0' := hide h'
  have H := hide (h.below (bl.mono hB))
  have H' := hide (h'.below (bl.mono hB))
  clear h h'
  have BL := hide bl
  clear bl
  by_cases hd0 : dok r D = false
  · have hd' := hd0
    have e := hide (vok_no (r := r) (s := s) (D := D) (S := S) (o := o) (n := n) (fun v => by have := v.1; rw [hd'] at this; exact absurd this (by decide)))
    clear hd0
    go_enter Try.func23, Try.ntmps23
    go_wp2_with fail
    refine (Vs.specDimsOk B a r cap D _ H.out hr).mono ?_; rintro e1 w1 ⟨rfl, rfl⟩
    rw [hd']
    go_wp2_with fail
    go_ret
    exact ⟨ret_bool e.out.symm, BL.out⟩
  have hd : dok r D = true := by simpa using hd0
  clear hd0
  have HD := hide hd
  by_cases hsr : s ≠ r
  · have hsr' : ((s : Int) != (r : Int)) = true := by rw [bne_iff_ne]; omega
    have e := hide (vok_no (r := r) (s := s) (D := D) (S := S) (o := o) (n := n) (fun v => hsr v.2.1))
    clear hsr
    go_enter Try.func23, Try.ntmps23
    go_wp2_with fail
    refine (Vs.specDimsOk B a r cap D _ H.out hr).mono ?_; rintro e1 w1 ⟨rfl, rfl⟩
    rw [hd]
    clear hd
    go_wp2_with fail
    go_ret
    exact ⟨ret_bool e.out.symm, BL.out⟩
  obtain rfl : s = r := by omega
  clear hsr
  by_cases hn1 : n < 1
  · have e := hide (vok_no (r := s) (s := s) (D := D) (S := S) (o := o) (n := n) (fun v => by have := v.2.2.1; omega))
    go_enter Try.func23, Try.ntmps23
    go_wp2_with fail
    refine (Vs.specDimsOk B a s cap D _ H.out hr).mono ?_; rintro e1 w1 ⟨rfl, rfl⟩
    rw [hd]
    clear hd
    go_wp2_with fail
    go_ret
    exact ⟨ret_bool e.out.symm, BL.out⟩
  have hn1' : decide (n < 1) = false := by rw [decide_eq_false_iff_not]; exact hn1
  by_cases hn2 : 4096 < n
  · have e := hide (vok_no (r := s) (s := s) (D := D) (S := S) (o := o) (n := n) (fun v => by have := v.2.2.2.1; omega))
    clear hn1
    go_enter Try.func23, Try.ntmps23
    go_wp2_with fail
    refine (Vs.specDimsOk B a s cap D _ H.out hr).mono ?_; rintro e1 w1 ⟨rfl, rfl⟩
    rw [hd]
    clear hd
    go_wp2_with fail
    go_ret
    exact ⟨ret_bool e.out.symm, BL.out⟩
  have hn2' : decide (4096 < n) = false := by rw [decide_eq_false_iff_not]; exact hn2
  by_cases ho1 : o < 0
  · have e := hide (vok_no (r := s) (s := s) (D := D) (S := S) (o := o) (n := n) (fun v => by have := v.2.2.2.2.1; omega))
    clear hn1 hn2
    go_enter Try.func23, Try.ntmps23
    go_wp2_with fail
    refine (Vs.specDimsOk B a s cap D _ H.out hr).mono ?_; rintro e1 w1 ⟨rfl, rfl⟩
    rw [hd]
    clear hd
    go_wp2_with fail
    go_ret
    exact ⟨ret_bool e.out.symm, BL.out⟩
  have ho1' : decide (o < 0) = false := by rw [decide_eq_false_iff_not]; exact ho1
  by_cases ho2 : n ≤ o
  · have e := hide (vok_no (r := s) (s := s) (D := D) (S := S) (o := o) (n := n) (fun v => by have := v.2.2.2.2.2.1; omega))
    clear hn1 hn2 ho1
    go_enter Try.func23, Try.ntmps23
    go_wp2_with fail
    refine (Vs.specDimsOk B a s cap D _ H.out hr).mono ?_; rintro e1 w1 ⟨rfl, rfl⟩
    rw [hd]
    clear hd
    go_wp2_with fail
    go_ret
    exact ⟨ret_bool e.out.symm, BL.out⟩
  have ho2' : decide (n ≤ o) = false := by rw [decide_eq_false_iff_not]; exact ho2
  have n1 : 1 ≤ n := by omega
  have n2 : n ≤ 4096 := by omega
  have o1 : 0 ≤ o := by omega
  have o2 : o < n := by omega
  have r6 : (s : Int) ≤ 6 := by have := (dok_iff.1 hd).1; omega
  have nv := box_new w (.slice a s cap) (.slice b s dap) (.int .i64 o) (.int .i64 n) 26
  have NV := hide nv
  clear hn1 hn2 ho1 ho2
  obtain ⟨N, hN⟩ : ∃ N : Nat, (N : Int) = szR D s := ⟨(szR D s).toNat, by have := (szR_rng D s).1; omega⟩
  have n4 : (N : Int) ≤ 4096 := by have := (szR_rng D s).2; omega
  have HN := hide hN
  clear hN
  go_enter Try.func23, Try.ntmps23
  go_wp2_with fail
  refine (Vs.specDimsOk B a s cap D _ H.out hr).mono ?_; rintro e1 w1 ⟨rfl, rfl⟩
  rw [hd]
  clear hd
  go_wp2_with fail
  go_loop [3] (fun i => ∃ k : Nat, k ≤ s ∧ i = .int .i64 k ∧ (∀ j, j < k → -4096 ≤ S j ∧ S j ≤ 4096)) (fun i => s - (intOf i).toNat)
  case atStart => exact ⟨0, Nat.zero_le _, rfl, fun _ h => by omega⟩
  case round =>
    obtain ⟨k, hk, rfl, hst⟩ := hrel
    have HT := hide hst
    clear hst
    by_cases hlt : k < s
    · rcases H'.out with h0 | ⟨bb', offb, rfl, hbB', hc'⟩
      · omega
      have c2 := (hc' k hlt).1
      clear hc'
      have kI : (k : Int) < s := by omega
      by_cases q1 : S k < -4096
      · have e := hide (vok_no (r := s) (s := s) (D := D) (S := S) (o := o) (n := n) (fun v => by have := (v.2.2.2.2.2.2.1 k hlt).1; omega))
        go_wp2_with fail
        go_ret
        exact ⟨ret_bool e.out.symm, BL.out⟩
      · have q1' : decide (S k < -4096) = false := by rw [decide_eq_false_iff_not]; exact q1
        by_cases q2 : 4096 < S k
        · have e := hide (vok_no (r := s) (s := s) (D := D) (S := S) (o := o) (n := n) (fun v => by have := (v.2.2.2.2.2.2.1 k hlt).2; omega))
          clear q1
          go_wp2_with fail
          go_ret
          exact ⟨ret_bool e.out.symm, BL.out⟩
        · have q2' : decide (4096 < S k) = false := by rw [decide_eq_false_iff_not]; exact q2
          have s1 : -4096 ≤ S k := by omega
          have s2 : S k ≤ 4096 := by omega
          clear q1 q2
          go_wp2_with fail
          go_round
          case rel =>
            refine ⟨k + 1, by omega, by go_num, fun j hj => ?_⟩
            by_cases e : j = k
            · rw [e]; exact ⟨s1, s2⟩
            · exact HT.out j (by omega)
          case measure => simp [intOf]; omega
    · obtain rfl : k = s := by omega
      have bl2 : Below (w.heap.size + 1) (w.alloc (.cells #[.slice a k cap, .slice b k dap, .int .i64 o, .int .i64 n] 26)) (w.alloc (.cells #[.slice a k cap, .slice b k dap, .int .i64 o, .int .i64 n] 26)) := Below.refl _ _
      go_wp2_with fail
      refine (l3All B a b k cap dap N D S o n _ (by simp; omega) H.out H'.out HD.out HT.out o1 (by omega) HN.out).mono ?_
      rintro e1 w1 ⟨g, c, rfl, hg1, hg2, hrw, b1⟩
      have nv1 := NV.out.below b1 (by simp)
      have BB := hide (BL.out.trans (b1.mono (by simp)))
      have HR := hide hrw
      have HX := hide nv1
      obtain ⟨x0, x1, x2, x3⟩ := nv1
      clear b1 hrw nv
      go_wp2_with fail
      go_loopw [5] (fun i wx => ∃ m : Nat, m ≤ N ∧ i = .int .i64 m ∧ (∀ j : Nat, j < m → 0 ≤ o + rel D S k j ∧ o + rel D S k j < n) ∧ ∃ q, wx = w1.drewN q) (fun i _ => N - (intOf i).toNat)
      case atStart => exact ⟨0, Nat.zero_le _, rfl, fun _ h => by omega, 0, rfl⟩
      case round =>
        obtain ⟨m, hm, rfl, hall, q, rfl⟩ := hrel
        have HAll := hide hall
        clear hall
        by_cases hlt2 : m < N
        · obtain ⟨c1, _, _⟩ := HR.out m hlt2
          have mI : (m : Int) < N := by omega
          by_cases q1 : o + rel D S k m < 0
          · have q1' : decide (o + rel D S k m < 0) = true := by rw [decide_eq_true_iff]; exact q1
            have e := hide (vok_no (r := k) (s := k) (D := D) (S := S) (o := o) (n := n) (fun v => by have := (v.place m).1; omega))
            clear q1
            go_wp2_with fail
            go_quiet (fail)
            go_wp2_with fail
            go_ret
            exact ⟨ret_bool e.out.symm, below_drewN (below_drewN BB.out _) _⟩
          · have q1' : decide (o + rel D S k m < 0) = false := by rw [decide_eq_false_iff_not]; exact q1
            by_cases q2 : n ≤ o + rel D S k m
            · have q2' : decide (n ≤ o + rel D S k m) = true := by rw [decide_eq_true_iff]; exact q2
              have e := hide (vok_no (r := k) (s := k) (D := D) (S := S) (o := o) (n := n) (fun v => by have := (v.place m).2; omega))
              clear q1 q2
              go_wp2_with fail
              go_quiet (fail)
              go_wp2_with fail
              go_ret
              exact ⟨ret_bool e.out.symm, below_drewN (below_drewN BB.out _) _⟩
            · have q2' : decide (n ≤ o + rel D S k m) = false := by rw [decide_eq_false_iff_not]; exact q2
              have hq := hide (show 0 ≤ o + rel D S k m ∧ o + rel D S k m < n by omega)
              clear q1 q2
              go_wp2_with fail
              go_quiet (fail)
              go_wp2_with fail
              go_roundw
              case rel =>
                refine ⟨m + 1, by omega, by go_num, fun j hj => ?_, _, rfl⟩
                by_cases e : j = m
                · rw [e]; exact hq.out
                · exact HAll.out j (by omega)
              case measure => simp [intOf]; omega
        · obtain rfl : m = N := by omega
          have e := hide (show vok k k D S o n = true from vok_iff.2 (VOk.of HD.out n1 n2 o1 o2 HT.out (fun j j0 j1 => by
            have := HAll.out j.toNat (by have := HN.out; omega)
            rwa [Int.toNat_of_nonneg j0] at this)))
          go_wp2_with fail
          go_ret
          exact ⟨ret_bool e.out.symm, below_drewN BB.out _⟩
end Vo
end Go.Proofs.Ytejfodkobfdelaa
