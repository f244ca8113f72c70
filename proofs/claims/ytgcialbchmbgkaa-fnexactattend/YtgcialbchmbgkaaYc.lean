/- Attention: which tensors go together, the program's side. -/
import Derived.Test.YtgcialbchmbgkaaYb
import Derived.Test.YtgcialbchmbgkaaTza
import Derived.BigQuiet
namespace Go.Proofs.Ytgcialbchmbgkaa
namespace Vo
open Go.ChangeShapes Go.WideShapes Go.ChangeAt Go.RowKit Go.Joins Go.Sort
open Vl Vp Vr
set_option linter.unusedVariables false
set_option linter.unusedSimpArgs false
def TV.ok (t : TV) : Bool := tok t.r t.s t.D t.S
/-- a tensor in a variable or in a list -/
def TV.val (t : TV) : Array Value := #[.slice t.a t.r t.cap, .slice t.b t.s t.dap]
/-- what can be read of a tensor -/
def TV.read (B : Nat) (w : World) (t : TV) : Prop := Ints B w t.a t.r t.D ∧ Ints B w t.b t.s t.S
theorem TV.read.below {B : Nat} {w w' : World} {t : TV} (h : t.read B w) (hb : Below B w w') : t.read B w' := ⟨h.1.below hb, h.2.below hb⟩
/-- the three go together -/
def AttOk (q k v : TV) : Prop := (q.ok = true ∧ q.r = 2) ∧ (k.ok = true ∧ k.r = 2) ∧ (v.ok = true ∧ v.r = 2) ∧ q.D 1 = k.D 1 ∧ k.D 0 = v.D 0 ∧ q.D 0 ≤ k.D 0 ∧ q.D 0 * k.D 0 * (k.D 1 + v.D 1) ≤ 65536
def three (q k v : TV) (i : Nat) : TV := if i = 0 then q else if i = 1 then k else v
set_option maxRecDepth 100000 in
set_option maxHeartbeats 4000000 in
theorem attendOkF (B : Nat) (q k v : TV) (w : World) (hB : B ≤ w.heap.size) (hq : q.read B w) (hk : k.read B w) (hv : v.read B w) (lq : (q.r : Int) ≤ 1048576 ∧ (q.s : Int) ≤ 1048576) (lk : (k.r : Int) ≤ 1048576 ∧ (k.s : Int) ≤ 1048576) (lv : (v.r : Int) ≤ 1048576 ∧ (v.s : Int) ≤ 1048576) (r : Bool) (hr : r = true ↔ AttOk q k v) :
    Calls Try.prog 45 #[.agg #[.slice q.a q.r q.cap, .slice q.b q.s q.dap], .agg #[.slice k.a k.r k.cap, .slice k.b k.s k.dap], .agg #[.slice v.a v.r v.cap, .slice v.b v.s v.dap]] w fun e w' => e = .returned (.bool r) ∧ Below w.heap.size w w' := by
  obtain ⟨W0, hW0⟩ : ∃ W0, (((w.alloc (.cells #[.slice q.a q.r q.cap, .slice q.b q.s q.dap] 26)).alloc (.cells #[.slice k.a k.r k.cap, .slice k.b k.s k.dap] 26)).alloc (.cells #[.slice v.a v.r v.cap, .slice v.b v.s v.dap] 26)).alloc (.cells #[.slice q.a q.r q.cap, .slice q.b q.s q.dap, .slice k.a k.r k.cap, .slice k.b k.s k.dap, .slice v.a v.r v.cap, .slice v.b v.s v.dap] 26) = W0 := ⟨_, rfl⟩
  have s0 : W0.heap.size = w.heap.size + 1 + 1 + 1 + 1 := by rw [← hW0]; simp
  have bl : Below w.heap.size w W0 := by rw [← hW0]; exact ((((Below.refl _ _).alloc (Nat.le_refl _) _).alloc (by simp) _).alloc (by simp; omega) _).alloc (by simp; omega) _
  have n0 : Bx W0 w.heap.size (.slice q.a q.r q.cap) (.slice q.b q.s q.dap) := by rw [← hW0]; exact ⟨by simp [go_sem], by simp [go_sem]⟩
  have n1 : Bx W0 (w.heap.size + 1) (.slice k.a k.r k.cap) (.slice k.b k.s k.dap) := by rw [← hW0]; exact ⟨by simp [go_sem], by simp [go_sem]⟩
  have n2 : Bx W0 (w.heap.size + 1 + 1) (.slice v.a v.r v.cap) (.slice v.b v.s v.dap) := by rw [← hW0]; exact ⟨by simp [go_sem], by simp [go_sem]⟩
  have tc : ∀ i, i < 3 → W0.cell? ⟨w.heap.size + 1 + 1 + 1, i * 2, none⟩ = some (.slice (three q k v i).a (three q k v i).r (three q k v i).cap) ∧ W0.cell? ⟨w.heap.size + 1 + 1 + 1, i * 2 + 1, none⟩ = some (.slice (three q k v i).b (three q k v i).s (three q k v i).dap) := by
    intro i hi
    have : i = 0 ∨ i = 1 ∨ i = 2 := by omega
    rw [← hW0]
    rcases this with rfl | rfl | rfl
    · exact ⟨by simp [go_sem, three], by simp [go_sem, three]⟩
    · exact ⟨by simp [go_sem, three], by simp [go_sem, three]⟩
    · exact ⟨by simp [go_sem, three], by simp [go_sem, three]⟩
  have tr : ∀ i, i < 3 → (three q k v i).read B W0 ∧ ((three q k v i).r : Int) ≤ 1048576 ∧ ((three q k v i).s : Int) ≤ 1048576 := by
    intro i hi
    have : i = 0 ∨ i = 1 ∨ i = 2 := by omega
    rcases this with rfl | rfl | rfl
    · exact ⟨hq.below (bl.mono hB), lq⟩
    · exact ⟨hk.below (bl.mono hB), lk⟩
    · exact ⟨hv.below (bl.mono hB), lv⟩
  have HR := hide hr
  have N0 := hide n0
  have N1 := hide n1
  have N2 := hide n2
  have TC := hide tc
  have TR := hide tr
  have BL := hide bl
  have S0 := hide s0
  have RQ := hide (hq.below (bl.mono hB))
  have RK := hide (hk.below (bl.mono hB))
  have RV := hide (hv.below (bl.mono hB))
  clear n0 n1 n2 tc tr bl s0 hr hq hk hv
  go_enter Try.func45, Try.ntmps45
  go_wp2_with fail
  go_loopw [14] (fun i wx => ∃ j : Nat, j ≤ 3 ∧ i = .int .i64 (j : Int) ∧ (∀ i, i < j → (three q k v i).ok = true ∧ (three q k v i).r = 2) ∧ Below W0.heap.size W0 wx) (fun i _ => 3 - (intOf i).toNat)
  case atStart => exact ⟨0, by omega, rfl, fun i hi => by omega, Below.refl _ _⟩
  case round =>
    clear hW0
    obtain ⟨j, hj, rfl, hok, bb⟩ := hrel
    have HOK := hide hok
    have BB := hide bb
    clear hok bb
    by_cases hlt : j < 3
    · have jI : (j : Int) < 3 := by omega
      obtain ⟨c0, c1⟩ := TC.out j hlt
      obtain ⟨⟨i0, i1⟩, l0, l1⟩ := TR.out j hlt
      have z0 := S0.out
      have hBW : B ≤ W0.heap.size := by omega
      have c0' := (BB.out.cell (p := ⟨w.heap.size + 1 + 1 + 1, j * 2, none⟩) (by show w.heap.size + 1 + 1 + 1 < W0.heap.size; omega)).trans c0
      have c1' := (BB.out.cell (p := ⟨w.heap.size + 1 + 1 + 1, j * 2 + 1, none⟩) (by show w.heap.size + 1 + 1 + 1 < W0.heap.size; omega)).trans c1
      have HN := hide (fun h => show r = false by
        have := HR.out
        cases r
        · rfl
        · have h2 := this.1 rfl
          have : j = 0 ∨ j = 1 ∨ j = 2 := by omega
          rcases this with rfl | rfl | rfl
          · exact absurd h2.1 h
          · exact absurd h2.2.1 h
          · exact absurd h2.2.2.1 h : ¬ ((three q k v j).ok = true ∧ (three q k v j).r = 2) → r = false)
      have C1 := hide (fun (X : World) (hX : Below W0.heap.size W0 X) => tensorOk B (three q k v j).a (three q k v j).b (three q k v j).r (three q k v j).s (three q k v j).cap (three q k v j).dap (three q k v j).D (three q k v j).S X (Nat.le_trans hBW hX.size) (i0.below (hX.mono hBW)) (i1.below (hX.mono hBW)) l0 l1)
      obtain ⟨t, ht⟩ : ∃ t, three q k v j = t := ⟨_, rfl⟩
      have HT := hide ht
      rw [ht] at c0' c1' C1 HN l0
      have eok : t.ok = tok t.r t.s t.D t.S := rfl
      have EOK := hide eok
      have bA := hide (show ∀ o, Below W0.heap.size W0 (wr.alloc o) from fun o => BB.out.alloc BB.out.size o)
      have sw := BB.out.size
      clear c0 c1 i0 i1 ht eok
      go_wp2_with fail
      refine (C1.out _ (bA.out _)).mono ?_; rintro e w1 ⟨rfl, b1⟩
      have B1 := hide ((bA.out (.cells #[.slice t.a t.r t.cap, .slice t.b t.s t.dap] 26)).trans (b1.mono (bA.out _).size))
      have k0 := (b1.cell (p := ⟨wr.heap.size, 0, none⟩) (by simp)).trans (show (wr.alloc (.cells #[.slice t.a t.r t.cap, .slice t.b t.s t.dap] 26)).cell? ⟨wr.heap.size, 0, none⟩ = some (.slice t.a t.r t.cap) by simp [go_sem])
      clear b1 C1 c0' c1'
      cases hto : tok t.r t.s t.D t.S
      · have hrf := HN.out (fun h => by rw [EOK.out, hto] at h; exact absurd h.1 (by decide))
        subst hrf
        go_wp2_with fail
        go_ret
        exact ⟨rfl, BL.out.trans (B1.out.mono BL.out.size)⟩
      · by_cases h2 : t.r = 2
        · have h2' : ((t.r : Int) == 2) = true := by rw [beq_iff_eq]; omega
          go_wp2_with fail
          go_roundw
          case rel =>
            refine ⟨j + 1, by omega, by go_num, fun i hi => ?_, B1.out⟩
            by_cases c : i = j
            · subst c; rw [HT.out]; exact ⟨EOK.out.trans hto, h2⟩
            · exact HOK.out i (by omega)
          case measure => simp [intOf]; omega
        · have h2' : ((t.r : Int) == 2) = false := by rw [beq_eq_false_iff_ne]; omega
          have hrf := HN.out (fun h => h2 h.2)
          subst hrf
          clear h2
          go_wp2_with fail
          go_ret
          exact ⟨rfl, BL.out.trans (B1.out.mono BL.out.size)⟩
    · obtain rfl : j = 3 := by omega
      have z0 := S0.out
      have oq := HOK.out 0 (by decide)
      have ok' := HOK.out 1 (by decide)
      have ov := HOK.out 2 (by decide)
      have hBW : B ≤ W0.heap.size := by omega
      obtain ⟨x0, x1⟩ := N0.out.below BB.out (by omega)
      obtain ⟨y0, y1⟩ := N1.out.below BB.out (by omega)
      obtain ⟨z0', z1⟩ := N2.out.below BB.out (by omega)
      have three0 : three q k v 0 = q := rfl
      have three1 : three q k v 1 = k := rfl
      have three2 : three q k v 2 = v := rfl
      rw [three0] at oq
      rw [three1] at ok'
      rw [three2] at ov
      have rq := (RQ.out.below (BB.out.mono hBW)).1
      have rk := (RK.out.below (BB.out.mono hBW)).1
      have rv := (RV.out.below (BB.out.mono hBW)).1
      rw [oq.2] at rq x0
      rw [ok'.2] at rk y0
      rw [ov.2] at rv z0'
      obtain ⟨dq, tq, _⟩ := tok_split (show tok 2 q.s q.D q.S = true by rw [← oq.2]; exact oq.1)
      obtain ⟨dk, tk, _⟩ := tok_split (show tok 2 k.s k.D k.S = true by rw [← ok'.2]; exact ok'.1)
      obtain ⟨dv, tv, _⟩ := tok_split (show tok 2 v.s v.D v.S = true by rw [← ov.2]; exact ov.1)
      have q0b := dok_len dq (j := 0) (by decide)
      have q1b := dok_len dq (j := 1) (by decide)
      have k0b := dok_len dk (j := 0) (by decide)
      have k1b := dok_len dk (j := 1) (by decide)
      have v0b := dok_len dv (j := 0) (by decide)
      have v1b := dok_len dv (j := 1) (by decide)
      rcases rq with h | ⟨bq, oq', eq, _, hcq⟩
      · omega
      rcases rk with h | ⟨bk, ok'', ek, _, hck⟩
      · omega
      rcases rv with h | ⟨bv, ov', ev, _, hcv⟩
      · omega
      rw [eq] at x0
      rw [ek] at y0
      rw [ev] at z0'
      have cq0 := (hcq 0 (by decide)).1
      have cq1 := (hcq 1 (by decide)).1
      have ck0 := (hck 0 (by decide)).1
      have ck1 := (hck 1 (by decide)).1
      have cv0 := (hcv 0 (by decide)).1
      have cv1 := (hcv 1 (by decide)).1
      rw [Nat.add_zero] at cq0 ck0 cv0
      have BE := hide (BL.out.trans (BB.out.mono BL.out.size))
      have HA := hide (show AttOk q k v ↔ (q.D 1 = k.D 1 ∧ k.D 0 = v.D 0 ∧ q.D 0 ≤ k.D 0 ∧ q.D 0 * k.D 0 * (k.D 1 + v.D 1) ≤ 65536) from ⟨fun h => h.2.2.2, fun h => ⟨oq, ok', ov, h⟩⟩)
      have HRR := hide (HR.out.trans HA.out)
      clear hcq hck hcv dq dk dv tq tk tv oq ok' ov HOK HA HR TC TR RQ RK RV N0 N1 N2 BB hlt three0 three1 three2
      obtain ⟨e0, h0⟩ : ∃ x, q.D 0 = x := ⟨_, rfl⟩
      obtain ⟨e1, h1⟩ : ∃ x, q.D 1 = x := ⟨_, rfl⟩
      obtain ⟨f0, h2⟩ : ∃ x, k.D 0 = x := ⟨_, rfl⟩
      obtain ⟨f1, h3⟩ : ∃ x, k.D 1 = x := ⟨_, rfl⟩
      obtain ⟨g0, h4⟩ : ∃ x, v.D 0 = x := ⟨_, rfl⟩
      obtain ⟨g1, h5⟩ : ∃ x, v.D 1 = x := ⟨_, rfl⟩
      rw [h0, h1, h2, h3, h4, h5] at HRR
      rw [h0] at cq0 q0b
      rw [h1] at cq1 q1b
      rw [h2] at ck0 k0b
      rw [h3] at ck1 k1b
      rw [h4] at cv0 v0b
      rw [h5] at cv1 v1b
      clear h0 h1 h2 h3 h4 h5
      by_cases a1 : e1 = f1
      rotate_left
      · have b1 : (e1 != f1) = true := bne_iff_ne.2 a1
        have hrf : r = false := by cases r; rfl; exact absurd (HRR.out.1 rfl).1 a1
        subst hrf
        clear a1
        go_wp2_with fail
        go_quiet (fail)
        go_wp2_with fail
        go_ret
        exact ⟨rfl, BE.out.trans ((below_draws _ _ _).mono BE.out.size)⟩
      have b1 : (e1 != f1) = false := by rw [a1]; simp
      by_cases a2 : f0 = g0
      rotate_left
      · have b2 : (f0 != g0) = true := bne_iff_ne.2 a2
        have hrf : r = false := by cases r; rfl; exact absurd (HRR.out.1 rfl).2.1 a2
        subst hrf
        clear a2 a1
        go_wp2_with fail
        go_quiet (fail)
        go_wp2_with fail
        go_ret
        exact ⟨rfl, BE.out.trans ((below_draws _ _ _).mono BE.out.size)⟩
      have b2 : (f0 != g0) = false := by rw [a2]; simp
      by_cases a3 : e0 ≤ f0
      rotate_left
      · have b3 : decide (f0 < e0) = true := decide_eq_true (by omega)
        have b3' : decide (e0 > f0) = true := decide_eq_true (by omega)
        have hrf : r = false := by cases r; rfl; exact absurd (HRR.out.1 rfl).2.2.1 a3
        subst hrf
        clear a2 a1 a3
        go_wp2_with fail
        go_quiet (fail)
        go_wp2_with fail
        go_ret
        exact ⟨rfl, BE.out.trans ((below_draws _ _ _).mono BE.out.size)⟩
      have b3 : decide (f0 < e0) = false := decide_eq_false (by omega)
      have b3' : decide (e0 > f0) = false := decide_eq_false (by omega)
      have hrr : r = decide (e0 * f0 * (f1 + g1) ≤ 65536) := by
        rw [Bool.eq_iff_iff, HRR.out, decide_eq_true_eq]
        exact ⟨fun h => h.2.2.2, fun h => ⟨a1, a2, a3, h⟩⟩
      obtain ⟨p, hp⟩ : ∃ p, e0 * f0 = p := ⟨_, rfl⟩
      have p0 : 0 ≤ p := by rw [← hp]; exact Int.mul_nonneg (by omega) (by omega)
      have p1 : p ≤ 4096 * 4096 := by rw [← hp]; exact Int.mul_le_mul (by omega) (by omega) (by omega) (by omega)
      obtain ⟨u, hu⟩ : ∃ u, p * (f1 + g1) = u := ⟨_, rfl⟩
      have u0 : 0 ≤ u := by rw [← hu]; exact Int.mul_nonneg (by omega) (by omega)
      have u1 : u ≤ (4096 * 4096) * 8192 := by rw [← hu]; exact Int.mul_le_mul (by omega) (by omega) (by omega) (by omega)
      have w1 : IntKind.i64.wrap p = p := by rw [IntKind.wrap_i64]; omega
      have w2 : IntKind.i64.wrap (f1 + g1) = f1 + g1 := by rw [IntKind.wrap_i64]; omega
      have w3 : IntKind.i64.wrap u = u := by rw [IntKind.wrap_i64]; omega
      rw [hp, hu] at hrr
      subst hrr
      clear a1 a2 a3 HRR
      go_wp2_with fail
      go_quiet (fail)
      go_wp2_with fail
      go_quiet (fail)
      go_wp2_with fail
      go_ret
      exact ⟨rfl, BE.out.trans ((below_draws _ _ _).trans (below_draws _ _ _))⟩
end Vo
end Go.Proofs.Ytgcialbchmbgkaa
