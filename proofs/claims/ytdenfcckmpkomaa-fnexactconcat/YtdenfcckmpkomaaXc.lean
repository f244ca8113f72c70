/- Concat of the program. -/
import Derived.Test.YtdenfcckmpkomaaXb
import Derived.Test.YtdenfcckmpkomaaEq
import Derived.Test.YtdenfcckmpkomaaTi
namespace Go.Proofs.Ytdenfcckmpkomaa
namespace Vo
open Go.ChangeShapes Go.WideShapes Go.ChangeAt Go.RowKit Go.Joins Go.Sort
open Vl Vp
set_option linter.unusedVariables false
set_option linter.unusedSimpArgs false
/-- each of the first j is a tensor with that axis -/
def AxOk (x : Int) (T : Nat → TV) (j : Nat) : Prop := ∀ i, i < j → tok (T i).r (T i).s (T i).D (T i).S = true ∧ 0 ≤ x ∧ x < (T i).r
/-- the first j are as long as the first, but for the axis -/
def FitOk (k : Nat) (T : Nat → TV) (j : Nat) : Prop := ∀ i, i < j → (T i).r = (T 0).r ∧ ∀ t, t < (T 0).r → t ≠ k → (T i).D t = (T 0).D t
theorem ax_rng {x : Int} {T : Nat → TV} {j : Nat} (h : AxOk x T j) : 0 ≤ tot (conL x T) j ∧ tot (conL x T) j ≤ 4096 * j := by
  induction j with
  | zero => simp [tot]
  | succ j ih =>
    obtain ⟨a, b⟩ := ih (fun i hi => h i (by omega))
    obtain ⟨t, x0, x1⟩ := h j (by omega)
    have := dok_len (tok_split t).1 (j := x.toNat) (by omega)
    show 0 ≤ tot (conL x T) j + (T j).D x.toNat ∧ tot (conL x T) j + (T j).D x.toNat ≤ _
    omega
set_option maxHeartbeats 4000000 in
theorem concatF (B : Nat) (a : Option Addr) (n cap : Nat) (x : Int) (T : Nat → TV) (w : World) (hB : B ≤ w.heap.size) (h : TL B w a n T) (hn : (n : Int) ≤ 1048576) (hl : TLen n T 1048576) (hc : ∀ i, i < n → (T i).r ≤ (T i).cap ∧ (T i).s ≤ (T i).dap) :
    Calls Try.prog 23 #[.slice a n cap, .int .i64 x] w fun e w' => TensR w.heap.size (conP n x T) w e w' := by
  obtain ⟨W0, hW0⟩ : ∃ W0, w.alloc (.cells #[.slice none 0 0, .slice none 0 0] 26) = W0 := ⟨_, rfl⟩
  have hs0 : W0.heap.size = w.heap.size + 1 := by rw [← hW0]; simp
  have bl : Below w.heap.size w W0 := by rw [← hW0]; exact (Below.refl _ _).alloc (Nat.le_refl _) _
  have m0 : Bx W0 w.heap.size (.slice none 0 0) (.slice none 0 0) := by rw [← hW0]; exact bx_new w (.slice none 0 0) (.slice none 0 0) 26
  have g0 : Free W0 w.heap.size := by rw [← hW0]; exact free_new w #[.slice none 0 0, .slice none 0 0] 26
  have H := hide (h.below (bl.mono hB))
  have HL := hide hl
  have HC := hide hc
  have BL := hide bl
  have HS0 := hide hs0
  have M0 := hide m0
  have G0 := hide g0
  have NO := hide (fun (hz : conP n x T = PT.zero) (w2 : World) (hb : Below w.heap.size w w2) => show TensR w.heap.size (conP n x T) w (.returned (.agg #[.slice none 0 0, .slice none 0 0])) w2 by rw [hz]; exact tensR_zero hb)
  obtain ⟨y0, y1⟩ := m0
  have gg := g0
  unfold Free at gg
  clear h hl hc bl hs0 g0
  by_cases n1 : 1 ≤ n
  rotate_left
  · have n1' : decide ((n : Int) < 1) = true := decide_eq_true (by omega)
    have ez := hide (conP_no (n := n) (x := x) (T := T) (fun e => n1 e.1.1))
    clear n1
    go_enter Try.func23, Try.ntmps23
    go_wp2_with fail
    refine bodyPost_ret (v := .agg #[.slice none 0 0, .slice none 0 0]) (by simp [results, Try.results23, go_sem, y0, y1]) rfl (NO.out ez.out _ (by
      repeat (refine Below.setCell ?_ (by simp) _)
      exact BL.out))
  have n1' : decide ((n : Int) < 1) = false := decide_eq_false (by omega)
  by_cases n6 : n ≤ 6
  rotate_left
  · have n6' : decide ((6 : Int) < (n : Int)) = true := decide_eq_true (by omega)
    have n6'' : decide (6 < n) = true := decide_eq_true (by omega)
    have ez := hide (conP_no (n := n) (x := x) (T := T) (fun e => n6 e.1.2.1))
    clear n6
    go_enter Try.func23, Try.ntmps23
    go_wp2_with fail
    refine bodyPost_ret (v := .agg #[.slice none 0 0, .slice none 0 0]) (by simp [results, Try.results23, go_sem, y0, y1]) rfl (NO.out ez.out _ (by
      repeat (refine Below.setCell ?_ (by simp) _)
      exact BL.out))
  have n6' : decide ((6 : Int) < (n : Int)) = false := decide_eq_false (by omega)
  have n6'' : decide (6 < n) = false := decide_eq_false (by omega)
  have nI : (0 : Int) < n := by omega
  go_enter Try.func23, Try.ntmps23
  go_wp2_with fail
  clear n1' n6' n6'' y0 y1 gg hW0
  go_loopw [5, 23] (fun v i wx => ∃ j : Nat, j ≤ n ∧ i = .int .i64 j ∧ v = .int .i64 (tot (conL x T) j) ∧ AxOk x T j ∧ Below W0.heap.size W0 wx) (fun _ i _ => n - (intOf i).toNat)
  case atStart => exact ⟨0, Nat.zero_le _, rfl, rfl, fun i hi => by omega, Below.refl _ _⟩
  case round =>
    obtain ⟨X, rfl⟩ : ∃ X, X = wr := ⟨_, rfl⟩
    obtain ⟨j, hj, rfl, rfl, hax, hby⟩ := hrel
    have AX := hide hax
    have HBY := hide hby
    have zX : w.heap.size < X.heap.size := by have := hby.size; have := HS0.out; omega
    have MX := hide (M0.out.below hby (by have := HS0.out; omega))
    have GX := hide (G0.out.below hby (by have := HS0.out; omega))
    have BX := hide (BL.out.trans (hby.mono BL.out.size))
    have HX := hide (H.out.below (hby.mono (by have := HS0.out; omega)))
    obtain ⟨t0, t1⟩ := ax_rng hax
    clear hax hby
    by_cases hlt : j < n
    · have jI : (j : Int) < n := by omega
      rcases HX.out with q0 | ⟨tb, tf, rfl, htb, hct⟩
      · omega
      obtain ⟨c0, c1, ia, ib⟩ := hct j hlt
      obtain ⟨lr, ls⟩ := HL.out j hlt
      have bA : Below X.heap.size X (X.alloc (.cells #[.slice (T j).a (T j).r (T j).cap, .slice (T j).b (T j).s (T j).dap] 26)) := (Below.refl _ _).alloc (Nat.le_refl _) _
      have IA := hide (ia.below (bA.mono (by omega)))
      have IB := hide (ib.below (bA.mono (by omega)))
      have BA := hide bA
      have lg := lenA_rng (T j).r (T j).s (T j).D (T j).S x
      clear hct ia ib bA
      go_wp2_with fail
      refine (lengthAt B (T j).a (T j).b (T j).r (T j).s (T j).cap (T j).dap (T j).D (T j).S x _ (by simp; omega) IA.out IB.out lr ls).mono ?_
      rintro e w1 ⟨rfl, b1⟩
      have b2 := BA.out.trans (b1.mono (by simp))
      have M1 := hide (MX.out.below b2 zX)
      have G1 := hide (GX.out.below b2 zX)
      have B1 := hide (BX.out.trans (b2.mono BX.out.size))
      have BY1 := hide (HBY.out.trans (b2.mono HBY.out.size))
      clear b1 b2 c0 c1 IA IB BA
      by_cases hz : lenA (T j).r (T j).s (T j).D (T j).S x = 0
      · have hz' : (lenA (T j).r (T j).s (T j).D (T j).S x == 0) = true := beq_iff_eq.2 hz
        have ez := hide (conP_no (n := n) (x := x) (T := T) (fun e => lenA_zero.1 hz (e.1.2.2 j hlt).1))
        obtain ⟨y0, y1⟩ := M1.out
        have gg := G1.out
        unfold Free at gg
        clear hz
        go_wp2_with fail
        refine bodyPost_ret (v := .agg #[.slice none 0 0, .slice none 0 0]) (by simp [results, Try.results23, go_sem, y0, y1]) rfl (NO.out ez.out _ (by
          repeat (refine Below.setCell ?_ (by simp) _)
          exact B1.out))
      · have hz' : (lenA (T j).r (T j).s (T j).D (T j).S x == 0) = false := beq_eq_false_iff_ne.2 hz
        have hy : tok (T j).r (T j).s (T j).D (T j).S = true ∧ 0 ≤ x ∧ x < (T j).r := Classical.byContradiction (fun q => hz (lenA_no q))
        have el := hide (show lenA (T j).r (T j).s (T j).D (T j).S x = conL x T j from lenA_yes hy)
        have AX1 := hide (show AxOk x T (j + 1) from fun i hi => by
          by_cases c : i = j
          · subst c; exact hy
          · exact AX.out i (by omega))
        have wt : IntKind.i64.wrap (tot (conL x T) j + lenA (T j).r (T j).s (T j).D (T j).S x) = tot (conL x T) j + lenA (T j).r (T j).s (T j).D (T j).S x := by rw [IntKind.wrap_i64]; omega
        clear hz hy
        go_wp2_with fail
        go_roundw
        case rel => exact ⟨j + 1, by omega, by go_num, by rw [el.out]; rfl, AX1.out, BY1.out⟩
        case measure => simp [intOf]; omega
    · obtain rfl : j = n := by omega
      obtain ⟨_, x0, x1⟩ := AX.out 0 (by omega)
      obtain ⟨k, rfl⟩ : ∃ k : Nat, x = k := ⟨x.toNat, by omega⟩
      have k0 : k < (T 0).r := by omega
      obtain ⟨N, hN⟩ : ∃ N, tot (conL k T) j = N := ⟨_, rfl⟩
      rw [hN] at t0 t1
      have bN : bd N := ⟨by omega, by omega⟩
      have EN := hide hN
      rcases HX.out with q0 | ⟨tb, tf, rfl, htb, hct⟩
      · omega
      obtain ⟨c0, c1, ia, ib⟩ := hct 0 (by omega)
      rw [Nat.zero_mul, Nat.add_zero] at c0 c1
      have lr := (HL.out 0 (by omega)).1
      have CW := hide (withLength B (T 0).a (T 0).r (T 0).cap k (T 0).D N X (by omega) ia lr k0 bN)
      rw [hN]
      clear hct ia ib c1 hN
      go_wp2_with fail
      refine CW.out.mono ?_
      rintro e w1 ⟨g, gc, rfl, rw1, hg, hg2, b1⟩
      have B1 := hide (BX.out.trans (b1.mono BX.out.size))
      have M1 := hide (MX.out.below b1 zX)
      have G1 := hide (GX.out.below b1 zX)
      have H1 := hide (HX.out.below (b1.mono (by omega)))
      have R1 := hide rw1
      have z1 : w.heap.size < w1.heap.size := by omega
      clear b1 rw1 c0 CW HX MX GX BX HBY lr
      go_wp2_with fail
      go_loopw [46] (fun i wx => ∃ i' : Nat, i' ≤ j ∧ i = .int .i64 i' ∧ FitOk k T i' ∧ Below w1.heap.size w1 wx) (fun i _ => j - (intOf i).toNat)
      case atStart => exact ⟨0, Nat.zero_le _, rfl, fun i hi => by omega, Below.refl _ _⟩
      case round =>
        obtain ⟨Y, rfl⟩ : ∃ Y, Y = wr := ⟨_, rfl⟩
        obtain ⟨i, hi, rfl, hfit, hby⟩ := hrel
        have FT := hide hfit
        have zY : w.heap.size < Y.heap.size := by have := hby.size; omega
        have gY : g < Y.heap.size := by have := hby.size; omega
        have MY := hide (M1.out.below hby z1)
        have GY := hide (G1.out.below hby z1)
        have BY := hide (B1.out.trans (hby.mono B1.out.size))
        have HY := hide (H1.out.below (hby.mono (by omega)))
        have RY := hide (R1.out.below hby hg2)
        have HBY := hide hby
        clear hfit hby
        by_cases hlt2 : i < j
        · have iI : (i : Int) < j := by omega
          rcases HY.out with q0 | ⟨tb2, tf2, et, htb2, hct⟩
          · omega
          injection et with et
          injection et with et1 et2
          subst et1 et2
          obtain ⟨c0, c1, ia, ib⟩ := hct i hlt2
          have lr := (HL.out i hlt2).1
          have kr : k < (T i).r := by have := (AX.out i hlt2).2.2; omega
          have bA : Below Y.heap.size Y (Y.alloc (.cells #[.slice (T i).a (T i).r (T i).cap, .slice (T i).b (T i).s (T i).dap] 26)) := (Below.refl _ _).alloc (Nat.le_refl _) _
          have IA := hide (ia.below (bA.mono (by omega)))
          have BA := hide bA
          clear hct ia ib bA
          go_wp2_with fail
          refine (withLength B (T i).a (T i).r (T i).cap k (T i).D N _ (by simp; omega) IA.out lr kr bN).mono ?_
          rintro e w2 ⟨g2, gc2, rfl, rw2, hg3, hg4, b2⟩
          have b3 := BA.out.trans (b2.mono (by simp))
          have B2 := hide (BY.out.trans (b3.mono BY.out.size))
          have BY2 := hide (HBY.out.trans (b3.mono HBY.out.size))
          have M2 := hide (MY.out.below b3 zY)
          have G2 := hide (GY.out.below b3 zY)
          have R2 := hide (RY.out.below b3 gY)
          have Q2 := hide rw2
          have z2 : w.heap.size < w2.heap.size := by have := b3.size; omega
          have gY2 : g < w2.heap.size := by have := b3.size; omega
          clear b2 b3 rw2 c0 c1 BA IA
          have l0 := (HL.out 0 (by omega)).1
          go_wp2_with fail
          refine (equalI w2.heap.size (some ⟨g2, 0, none⟩) (some ⟨g, 0, none⟩) (T i).r (T 0).r gc2 gc (up1 (T i).D k N) (up1 (T 0).D k N) _ (Nat.le_refl _) (Q2.out.ints hg4) (R2.out.ints gY2) lr l0).mono ?_
          rintro e w3 ⟨⟨q, rfl, hq⟩, b3⟩
          have B3 := hide (B2.out.trans (b3.mono B2.out.size))
          have BY3 := hide (BY2.out.trans (b3.mono BY2.out.size))
          have M3 := hide (M2.out.below b3 z2)
          have G3 := hide (G2.out.below b3 z2)
          have HQ := hide hq
          clear b3 hq
          cases q with
          | false =>
            have ez := hide (conP_no (n := j) (x := k) (T := T) (fun e => by
              obtain ⟨_, e1, e2⟩ := e.1.2.2 i hlt2
              have := HQ.out.2 ⟨e1, fun t ht => by
                by_cases c : t = k
                · subst c; rw [up1_at, up1_at]
                · rw [up1_ne _ _ c, up1_ne _ _ c]; exact e2 t (by omega) (by simpa using c)⟩
              exact Bool.noConfusion this))
            obtain ⟨y0, y1⟩ := M3.out
            have gg := G3.out
            unfold Free at gg
            go_wp2_with fail
            refine bodyPost_ret (v := .agg #[.slice none 0 0, .slice none 0 0]) (by simp [results, Try.results23, go_sem, y0, y1]) rfl (NO.out ez.out _ (by
              repeat (refine Below.setCell ?_ (by simp) _)
              exact B3.out))
          | true =>
            have FT1 := hide (show FitOk k T (i + 1) from fun t ht => by
              by_cases c : t = i
              · subst c
                obtain ⟨e1, e2⟩ := HQ.out.1 rfl
                refine ⟨e1, fun u hu hn => ?_⟩
                have := e2 u (by omega)
                rwa [up1_ne _ _ hn, up1_ne _ _ hn] at this
              · exact FT.out t (by omega))
            go_wp2_with fail
            go_roundw
            case rel => exact ⟨i + 1, by omega, by go_num, FT1.out, BY3.out⟩
            case measure => simp [intOf]; omega
        · obtain rfl : i = j := by omega
          have CO := hide (show ConOk i k T from ⟨n1, n6, fun t ht => ⟨AX.out t ht, (FT.out t ht).1, fun u hu hn => (FT.out t ht).2 u hu (by simpa using hn)⟩⟩)
          have eD := hide (show up1 (T 0).D k N = conD i k T by unfold conD; rw [EN.out]; rfl)
          have RD := hide (show Rw Y g (T 0).r (conD i k T) by rw [← eD.out]; exact RY.out)
          have l0 := (HL.out 0 (by omega)).1
          have CD := hide (Vs.dimsOk Y.heap.size (some ⟨g, 0, none⟩) (T 0).r gc (conD i k T) Y (RD.out.ints gY) l0)
          go_wp2_with fail
          refine CD.out.mono ?_
          rintro e w2 ⟨rfl, hw⟩
          have hw := hw.symm
          subst hw
          clear CD
          cases hd : dok (T 0).r (conD i k T) with
          | false =>
            have ez := hide (conP_no (n := i) (x := k) (T := T) (fun e => by rw [hd] at e; exact absurd e.2 (by decide)))
            obtain ⟨y0, y1⟩ := MY.out
            have gg := GY.out
            unfold Free at gg
            clear hd
            go_wp2_with fail
            refine bodyPost_ret (v := .agg #[.slice none 0 0, .slice none 0 0]) (by simp [results, Try.results23, go_sem, y0, y1]) rfl (NO.out ez.out _ (by
              repeat (refine Below.setCell ?_ (by simp) _)
              exact BY.out))
          | true =>
            have ez := hide (conP_yes CO.out hd)
            have CJ := hide (joinedF B _ i cap k T Y (by omega) HY.out HL.out HC.out CO.out hd)
            clear hd
            go_wp2_with fail
            refine CJ.out.mono ?_
            rintro e w3 ⟨v, rfl, rv, b3⟩
            obtain ⟨va, vc, rfl, ov⟩ := rv.own
            have R3 := RD.out.below b3 gY
            have VO : VOwn (w.heap.size + 1) w3 (some ⟨g, 0, none⟩) va (conP i k T).r (conP i k T).s (conP i k T).D (conP i k T).S := by
              rw [ez.out]
              refine ⟨.inr ⟨g, rfl, by omega, R3⟩, ov.mono (by omega), ?_⟩
              rintro y ⟨_, ad, e1, rfl⟩ hy
              have := (ov.blk hy).1
              injection e1 with e1
              subst e1
              have this : Y.heap.size ≤ g := this
              omega
            have E1 := hide (show (conP i k T).r = (T 0).r by rw [ez.out])
            have E2 := hide (show (conP i k T).s = cntT (T 0).r (conD i k T) by rw [ez.out])
            have VO' := hide VO
            have B3 := hide (BY.out.trans (b3.mono BY.out.size))
            have M3 := hide (MY.out.below b3 zY)
            have G3 := hide (GY.out.below b3 zY)
            obtain ⟨y0, y1⟩ := M3.out
            have gg := G3.out
            unfold Free at gg
            clear rv b3 ov R3 VO
            go_wp2_with fail
            have fin := tens_end (c := gc) (d := vc) VO'.out (show w.heap.size < w.heap.size + 1 by omega) (Nat.le_refl _) B3.out
            rw [E1.out, E2.out] at fin
            refine bodyPost_ret (v := .agg #[.slice (some ⟨g, 0, none⟩) (T 0).r gc, .slice va (cntT (T 0).r (conD i k T)) vc]) (by simp [results, Try.results23, go_sem, y0, y1]) rfl ?_
            exact fin
end Vo
end Go.Proofs.Ytdenfcckmpkomaa
