/- Round of the model; both sides meet. -/
import Derived.Test.YtcnopdonnjemmabWn
namespace Go.Proofs.Ytcnopdonnjemmab
namespace Wj
open Go.ChangeShapes Go.WideShapes Go.ChangeAt Go.RowKit Go.Joins
open Vl Vo
set_option linter.unusedVariables false
set_option linter.unusedSimpArgs false
set_option maxHeartbeats 2000000 in
theorem specRound (a : Option Addr) (n cap m : Nat) (L : Nat → LV) (w : World) (h : LL w.heap.size w a n L) (hs : lsum L n ≤ 1048576) (hn : n ≤ 1048576) (m1 : rdOk n L → m = lsum L n) (m0 : ¬ rdOk n L → m = 0) :
    Calls Try.prog 11 #[.slice a n cap] w fun e w' => ∃ a' c, e = .returned (.slice a' m c) ∧ OwnL w.heap.size w' a' m (rdG n L) ∧ Below w.heap.size w w' := by
  obtain ⟨i0, hi0, hz0, hz1, hz2⟩ := info_parts infoInt
  have M1 := hide m1
  have M0 := hide m0
  have HS := hide hs
  have hown0 : (w.alloc (.cells #[] 3)).ownsRow w.heap.size 3 1 (.slice (some ⟨w.heap.size, 0, none⟩) 0 0) 0 [] :=
    ⟨rfl, .inr ⟨w.heap.size, 0, #[], rfl, Nat.le_refl _, heap_alloc_new w _, Nat.le_refl _, by simp [maxLen], rfl, rfl⟩⟩
  obtain ⟨W1, hW1⟩ : ∃ W1, w.alloc (.cells #[] 3) = W1 := ⟨_, rfl⟩
  have B1 := hide (show Below w.heap.size w W1 from hW1 ▸ (Below.refl _ _).alloc (Nat.le_refl _) _)
  have H1 := hide (h.below B1.out)
  rw [hW1] at hown0
  have O1 := hide hown0
  have HL := hide h
  have nI : (n : Int) ≤ 1048576 := by omega
  clear h hs m1 m0 hown0
  go_enter Try.func11, Try.ntmps11
  go_wp2_with fail
  clear hW1
  go_loopw [4, 5] (fun c i wx => ∃ k : Nat, k ≤ n ∧ i = .int .i64 (k : Int) ∧ c = .int .i64 (lsum L k : Int) ∧ wx = W1) (fun _ i _ => n - (intOf i).toNat)
  case atStart => exact ⟨0, Nat.zero_le _, rfl, rfl, rfl⟩
  case round =>
    obtain ⟨k, hk, rfl, rfl, rfl⟩ := hrel
    by_cases c : k < n
    · have kI : (k : Int) < (n : Int) := by omega
      have up := lsum_up (L := L) c
      obtain ⟨blk, off, rfl, -, ck, -⟩ := ll_at H1.out c
      obtain ⟨x, hx⟩ : ∃ x, (L k).r = x := ⟨_, rfl⟩
      obtain ⟨y, hy⟩ : ∃ y, lsum L k = y := ⟨_, rfl⟩
      have NX := hide (show lsum L (k + 1) = y + x by show lsum L k + (L k).r = _; rw [hy, hx])
      rw [hx] at ck up
      rw [hy] at up ⊢
      have yx : (y : Int) + (x : Int) ≤ 1048576 := by have := HS.out; omega
      have y0 : (0 : Int) ≤ (y : Int) + (x : Int) := by omega
      clear up hx hy
      go_wp2_with fail
      go_roundw
      case rel => exact ⟨k + 1, by omega, by go_num, by rw [NX.out]; go_num, trivial⟩
      case measure => simp [intOf]; omega
    · obtain rfl : k = n := by omega
      have cF : decide ((k : Int) < (k : Int)) = false := by simp
      clear c
      obtain ⟨A, hA⟩ : ∃ A, lsum L k = A := ⟨_, rfl⟩
      have HA := hide hA
      rw [hA] at HS M1 ⊢
      clear hA
      by_cases g0 : k = 0
      · subst g0
        obtain rfl : m = 0 := by
          have := M1.out ⟨by omega, by show 0 ≤ 4096; omega, fun q hq => by omega⟩
          rw [this, ← HA.out]; rfl
        have e0 : (((0 : Nat) : Int) == 0) = true := by decide
        go_wp2_with fail
        go_ret
        first | exact ⟨_, ⟨_, rfl⟩, .inl rfl, B1.out⟩ | exact ⟨_, _, rfl, .inl rfl, B1.out⟩
      have k1 : 0 < k := by omega
      have f0 : ((k : Int) == 0) = false := beq_eq_false_iff_ne.2 (by omega)
      have f0' : (k == 0) = false := beq_eq_false_iff_ne.2 (by omega)
      have f0'' : ¬ ((k : Int) = 0) := by omega
      by_cases g1 : 64 < k
      · have g1' : (64 : Int) < (k : Int) := by omega
        obtain rfl : m = 0 := M0.out (fun q => by have := q.1; omega)
        go_wp2_with fail
        go_ret
        first | exact ⟨_, ⟨_, rfl⟩, .inl rfl, B1.out⟩ | exact ⟨_, _, rfl, .inl rfl, B1.out⟩
      have f1 : decide ((64 : Int) < (k : Int)) = false := decide_eq_false (by omega)
      have f1' : decide (64 < k) = false := decide_eq_false (by omega)
      by_cases g2 : 4096 < A
      · have g2' : (4096 : Int) < (A : Int) := by omega
        obtain rfl : m = 0 := M0.out (fun q => by have := q.2.1; rw [HA.out] at this; omega)
        go_wp2_with fail
        go_ret
        first | exact ⟨_, ⟨_, rfl⟩, .inl rfl, B1.out⟩ | exact ⟨_, _, rfl, .inl rfl, B1.out⟩
      have f2 : decide ((4096 : Int) < (A : Int)) = false := decide_eq_false (by omega)
      have f2' : decide (4096 < A) = false := decide_eq_false (by omega)
      have k64 := hide (show k ≤ 64 by omega)
      have A4 := hide (show A ≤ 4096 by omega)
      clear hn nI
      clear g1 g2 g0
      go_wp2_with fail
      clear f1 f1' f2 f2' f0 f0' f0''
      go_loopw [6] (fun i wx => ∃ j : Nat, j ≤ k ∧ i = .int .i64 (j : Int) ∧ (∀ t, t < j → (L t).r = shr A k t) ∧ wx.ownsRow w.heap.size 3 1 (.slice (some ⟨w.heap.size, 0, none⟩) 0 0) 0 [] ∧ Below w.heap.size w wx) (fun i _ => k - (intOf i).toNat)
      case atStart => exact ⟨0, Nat.zero_le _, rfl, fun t ht => by omega, O1.out, B1.out⟩
      case round =>
        obtain ⟨j, hj, rfl, hall, hown, hbl⟩ := hrel
        have ALL := hide hall
        have OW := hide hown
        have BL := hide hbl
        have H2 := hide (HL.out.below hbl)
        clear hall hown hbl O1 B1 H1
        by_cases cj : j < k
        · have jI : (j : Int) < (k : Int) := by omega
          obtain ⟨blk, off, rfl, -, ck, -⟩ := ll_at H2.out cj
          obtain ⟨x, hx⟩ : ∃ x, (L j).r = x := ⟨_, rfl⟩
          obtain ⟨y, hy⟩ : ∃ y, shr A k j = y := ⟨_, rfl⟩
          have E := hide (shr_int (A := A) cj)
          rw [hy] at E
          have e3 := E.out
          have y5 : y ≤ 5000 := by rw [← hy]; unfold shr; exact Nat.le_trans (Nat.div_le_self _ _) (by have := A4.out; have := k64.out; omega)
          have wy : wrap64 (y : Int) = (y : Int) := by unfold wrap64; omega
          rw [hx] at ck
          have XY := hide (show (L j).r = x ∧ shr A k j = y from ⟨hx, hy⟩)
          have p0 : (0 : Int) ≤ (A : Int) + (k : Int) - 1 - (j : Int) := by omega
          have n1 : (1 : Int) ≤ k := by omega
          have nz : ((k : Int) == 0) = false := beq_eq_false_iff_ne.2 (by omega)
          have hnI : (k : Int) ≤ 64 := by have := k64.out; omega
          have hAI : (A : Int) ≤ 4096 := by have := A4.out; omega
          have kc := cell_regrown ck
          clear hx hy ck
          by_cases e : x = y
          · subst e
            have N := hide (show ∀ t, t < j + 1 → (L t).r = shr A k t from fun t ht => by
              by_cases q : t = j
              · subst q; rw [XY.out.1, XY.out.2]
              · exact ALL.out t (by omega))
            go_wp2_with fail
            refine wp_region_quiet_below (by kernel_rfl) (by kernel_rfl) ?_
            repeat (go_big_quiet_step (fail))
            refine wpQuiet_nil ?_
            intro w9 hw'
            have q3 : Below wr.heap.size wr w9 := by obtain ⟨⟨dq, osq⟩, hw''⟩ := hw'; rw [hw'']; exact below_regrown _ dq osq
            clear hw' kc
            go_wp2_with fail
            go_roundw
            case rel => exact ⟨j + 1, by omega, by go_num, N.out, own_below OW.out q3, BL.out.trans (q3.mono BL.out.size)⟩
            case measure => simp [intOf]; omega
          · have e2 : ¬ ((x : Int) = (y : Int)) := by omega
            have e4 : ((x : Int) != (y : Int)) = true := bne_iff_ne.2 e2
            obtain rfl : m = 0 := M0.out (fun q => by have := q.2.2 j cj; rw [HA.out, XY.out.1, XY.out.2] at this; exact e this)
            go_wp2_with fail
            refine wp_region_quiet_below (by kernel_rfl) (by kernel_rfl) ?_
            repeat (go_big_quiet_step (fail))
            refine wpQuiet_nil ?_
            intro w9 hw'
            have q3 : Below wr.heap.size wr w9 := by obtain ⟨⟨dq, osq⟩, hw''⟩ := hw'; rw [hw'']; exact below_regrown _ dq osq
            clear hw' kc
            go_wp2_with fail
            go_ret
            first | exact ⟨_, ⟨_, rfl⟩, .inl rfl, BL.out.trans (q3.mono BL.out.size)⟩ | exact ⟨_, _, rfl, .inl rfl, BL.out.trans (q3.mono BL.out.size)⟩
        · obtain rfl : j = k := by omega
          have ok := hide (show rdOk j L from ⟨k64.out, by rw [HA.out]; exact A4.out, fun t ht => by rw [HA.out]; exact ALL.out t ht⟩)
          obtain rfl : m = A := M1.out ok.out
          have cF : decide ((j : Int) < (j : Int)) = false := by simp
          clear cj
          go_wp2_with fail
          go_loopw [3, 7] (fun o i wx => ∃ k g c : Nat, k ≤ m ∧ i = .int .i64 (k : Int) ∧ o = .slice (some ⟨g, 0, none⟩) k c ∧ wx.ownsRow w.heap.size 3 1 (.slice (some ⟨g, 0, none⟩) k c) k (ints k (rdG j L)) ∧ Below w.heap.size w wx) (fun _ i _ => m - (intOf i).toNat)
          case atStart => exact ⟨0, w.heap.size, 0, by omega, rfl, rfl, OW.out, BL.out⟩
          case round =>
            obtain ⟨k, g, c, hk, rfl, rfl, hown, bb⟩ := hrel
            have BB := hide bb
            have HO := hide hown
            have H3 := hide (HL.out.below bb)
            clear bb hown OW BL H2
            by_cases hlt : k < m
            · have kI : (k : Int) < m := by omega
              obtain ⟨n0, m0, d0⟩ := rd_at ok.out (by rw [HA.out]; exact hlt)
              obtain ⟨blk, off, rfl, hb1, c0, hi⟩ := ll_at H3.out m0
              have HB1 := hide (Nat.lt_of_lt_of_le hb1 (HO.out.lt g rfl).1)
              clear hb1
              obtain ⟨q, hq⟩ : ∃ q, k % j = q := ⟨_, rfl⟩
              obtain ⟨d, hd⟩ : ∃ d, k / j = d := ⟨_, rfl⟩
              have E := hide (show rdG j L k = (L q).D d by unfold rdG; rw [hq, hd])
              have kq : (k : Int) % (j : Int) = (q : Int) := by rw [← hq]; rfl
              have kd : (k : Int) / (j : Int) = (d : Int) := by rw [← hd]; rfl
              rw [hq] at c0 hi m0 d0
              rw [hd] at d0
              have dk : d ≤ k := by rw [← hd]; exact Nat.div_le_self _ _
              have kA : k < 4096 := by have := A4.out; omega
              have wd : wrap64 (d : Int) = (d : Int) := by unfold wrap64; omega
              obtain ⟨X, hX⟩ : ∃ X, L q = X := ⟨_, rfl⟩
              rw [hX] at c0 hi d0 E
              obtain ⟨xa, xr, xc, xD⟩ := X
              dsimp only at c0 hi d0 E
              rcases hi with hz | ⟨b, o, rfl, hb2, hc⟩
              · omega
              have HB2 := hide (Nat.lt_of_lt_of_le hb2 (HO.out.lt g rfl).1)
              clear hb2
              obtain ⟨c1, bx⟩ := hc d d0
              obtain ⟨x, hx⟩ : ∃ x, xD d = x := ⟨_, rfl⟩
              rw [hx] at c1 bx E
              have BX := hide bx
              have qI : (q : Int) < (j : Int) := by omega
              have dI : (d : Int) < (xr : Int) := by omega
              have n1 : (1 : Int) ≤ j := by omega
              have nz : ((j : Int) == 0) = false := beq_eq_false_iff_ne.2 (by omega)
              have nz2 : ¬ ((j : Int) = 0) := by omega
              have nz3 : ¬ (j = 0) := by omega
              have nz4 : (j == 0) = false := beq_eq_false_iff_ne.2 nz3
              have kt : (k : Int).tmod (j : Int) = (q : Int) := by rw [Int.tmod_eq_emod_of_nonneg (by omega)]; exact kq
              have kv : (k : Int).tdiv (j : Int) = (d : Int) := by rw [Int.tdiv_eq_ediv_of_nonneg (by omega)]; exact kd
              have wd2 : IntKind.i64.wrap (d : Int) = (d : Int) := wid _ (by omega)
              have hsz2 := BB.out.size
              have gl := (HO.out.lt g rfl).1
              have hg1 : blk ≠ g := Nat.ne_of_lt HB1.out
              have hg2 : b ≠ g := Nat.ne_of_lt HB2.out
              clear hc hq hd n0 hX hx bx
              go_wp2_with fail
              go_region_held3 (fun w' => w'.cell? ⟨blk, off + q, none⟩ = some (.slice (some ⟨b, o, none⟩) xr xc) ∧ w'.cell? ⟨b, o + d, none⟩ = some (.int .i64 x))
                ((try dsimp only) <;> (repeat' apply And.intro) <;> (repeat (first | with_reducible assumption | with_reducible apply drew_old | with_reducible apply alloc_old | (with_reducible apply grown_old; (focus (with_reducible assumption)); (focus (dsimp only; with_reducible assumption))))))
                (first
                  | (refine step_append_lies _ (by rfl) _ _ _ (by rfl) w.heap.size 3 i0 _ 1 8 Try.underlying32 hi0 hz0 hz1 hz2 rfl (by omega) (.slice (some ⟨g, 0, none⟩) k c) k (ints k (rdG j L)) (by rfl) ((own_below HO.out (Below.refl _ _).drew).alloc _)
                      ⟨wr.heap.size, 0, none⟩ 1 1 [.int .i64 x] (by rfl) (by rfl) (World.news_of_block (cs := #[.int .i64 x]) (t := 3) (fr := (0, 0)) (heap_alloc_new wr.drew _)) (by simp [Value.oneCell'])
                      (by omega) (by unfold maxLen; omega) (by omega) (by simp; omega) (wr.heap.size + 1) (by simp) ?_
                     intro g' c' w3 hown3 hgrow0 hat hlt3
                     have hgrow : World.grownBy _ w3 (some g) := hgrow0
                     clear hgrow0))
              go_wp2_with fail
              go_roundw
              case rel =>
                rw [← E.out, ints_succ k (rdG j L)] at hown3
                have b6 : Below w.heap.size w w3 := (BB.out.drew.alloc BB.out.size (.cells #[.int .i64 x] 3)).grown hgrow (by simp; omega) (by rintro q ⟨⟩; omega)
                exact ⟨k + 1, g', c', by omega, by go_num, rfl, hown3, b6⟩
              case measure => simp [intOf]; omega
            · obtain rfl : k = m := by omega
              have cG : decide ((k : Int) < (k : Int)) = false := by simp
              have RV : RowV w.heap.size wr (.slice (some ⟨g, 0, none⟩) k c) k (rdG j L) := ⟨HO.out, fun q hq => by
                obtain ⟨n0, m0, d0⟩ := rd_at ok.out (by rw [HA.out]; exact hq)
                obtain ⟨blk, off, -, -, -, hi⟩ := ll_at H3.out m0
                exact hi.bd _ d0⟩
              obtain ⟨a', c', e', o'⟩ := RV.own
              injection e' with e1 e2 e3
              subst e1
              have OO := hide o'
              clear o' RV e3 e2 hlt
              go_wp2_with fail
              go_ret
              exact ⟨_, _, rfl, OO.out, BB.out⟩
theorem lsum_same {n : Nat} {L M : Nat → LV} (h : LSame n L M) : ∀ k, k ≤ n → lsum M k = lsum L k := by
  intro k
  induction k with
  | zero => intro _; rfl
  | succ k ih => intro hk; show lsum M k + (M k).r = lsum L k + (L k).r; rw [ih (by omega), (h k (by omega)).1]
theorem rd_same {n : Nat} {L M : Nat → LV} (h : LSame n L M) : rdOk n M ↔ rdOk n L := by
  have e := lsum_same h n (Nat.le_refl _)
  unfold rdOk
  rw [e]
  constructor
  · rintro ⟨h1, h2, h3⟩; exact ⟨h1, h2, fun k hk => by rw [← (h k hk).1]; exact h3 k hk⟩
  · rintro ⟨h1, h2, h3⟩; exact ⟨h1, h2, fun k hk => by rw [(h k hk).1]; exact h3 k hk⟩
theorem roundBoth (n : Nat) (L : Nat → LV) (hs : lsum L n ≤ 1048576) (hn : n ≤ 1048576) : ∃ m : Nat, m ≤ 4096 ∧
    (∀ a cap M w, LL w.heap.size w a n M → LSame n L M → Calls Try.prog 11 #[.slice a n cap] w fun e w' => ∃ a' c, e = .returned (.slice a' m c) ∧ OwnL w.heap.size w' a' m (rdG n L) ∧ Below w.heap.size w w') ∧
    (∀ a cap M w, LL w.heap.size w a n M → LSame n L M → Calls Try.prog 13 #[.slice a n cap] w fun e w' => ∃ a' c, e = .returned (.slice a' m c) ∧ OwnL w.heap.size w' a' m (rdG n L) ∧ Below w.heap.size w w') := by
  by_cases ok : rdOk n L
  · have key : ∀ {M w' B a'}, LSame n L M → OwnL B w' a' (lsum L n) (rdG n M) → OwnL B w' a' (lsum L n) (rdG n L) := fun {M w' B a'} h o => o.same fun k hk => by
      obtain ⟨n0, m0, d0⟩ := rd_at ok hk
      show (L (k % n)).D (k / n) = (M (k % n)).D (k / n)
      rw [(h _ m0).2]
    refine ⟨lsum L n, ok.2.1, fun a cap M w h hh => ?_, fun a cap M w h hh => ?_⟩
    · refine (specRound a n cap (lsum L n) M w h (by rw [lsum_same hh n (Nat.le_refl _)]; exact hs) hn (fun _ => (lsum_same hh n (Nat.le_refl _)).symm) (fun q => absurd ((rd_same hh).2 ok) q)).mono ?_
      rintro e w' ⟨a', c, rfl, o, b⟩; exact ⟨a', c, rfl, key hh o, b⟩
    · refine (implRound a n cap (lsum L n) M w h (by rw [lsum_same hh n (Nat.le_refl _)]; exact hs) hn (fun _ => (lsum_same hh n (Nat.le_refl _)).symm) (fun q => absurd ((rd_same hh).2 ok) q)).mono ?_
      rintro e w' ⟨a', c, rfl, o, b⟩; exact ⟨a', c, rfl, key hh o, b⟩
  · refine ⟨0, by omega, fun a cap M w h hh => ?_, fun a cap M w h hh => ?_⟩
    · refine (specRound a n cap 0 M w h (by rw [lsum_same hh n (Nat.le_refl _)]; exact hs) hn (fun q => absurd ((rd_same hh).1 q) ok) (fun _ => rfl)).mono ?_
      rintro e w' ⟨a', c, rfl, o, b⟩; exact ⟨a', c, rfl, .inl rfl, b⟩
    · refine (implRound a n cap 0 M w h (by rw [lsum_same hh n (Nat.le_refl _)]; exact hs) hn (fun q => absurd ((rd_same hh).1 q) ok) (fun _ => rfl)).mono ?_
      rintro e w' ⟨a', c, rfl, o, b⟩; exact ⟨a', c, rfl, .inl rfl, b⟩
end Wj
end Go.Proofs.Ytcnopdonnjemmab
