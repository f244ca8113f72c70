/- Lemmas for the proof of the law. -/
import Derived.Test.YtjlmbeachanlfaaMgas
import Derived.Test.YtjlmbeachanlfaaMgak
import Derived.Test.YtjlmbeachanlfaaMgba
import Derived.Test.YtjlmbeachanlfaaMgbb
import Derived.Deep.RegionHeld3
/- Concat: the program's blocks. -/
namespace Go.Proofs.Ytjlmbeachanlfaa
namespace Vo
open Go.ChangeShapes Go.WideShapes Go.ChangeAt Go.RowKit Go.Joins Go.Sort
open Vl Vp
set_option linter.unusedVariables false
set_option linter.unusedSimpArgs false
/-- how much the first j lay in a block -/
def cum (z : Nat → Nat) : Nat → Nat | 0 => 0 | j + 1 => cum z j + z j
theorem cum_le {z : Nat → Nat} {i j : Nat} (h : i ≤ j) : cum z i ≤ cum z j := by
  induction j with
  | zero => obtain rfl : i = 0 := by omega
            exact Nat.le_refl _
  | succ j ih =>
    by_cases c : i = j + 1
    · subst c; exact Nat.le_refl _
    · have := ih (by omega)
      show _ ≤ cum z j + z j
      omega
theorem ints_more (n m : Nat) (f g : Nat → Int) (h : ∀ t, t < m → g t = f (n + t)) : ints n f ++ ints m g = ints (n + m) f := by
  induction m with
  | zero => simp [ints]
  | succ m ih =>
    rw [← ints_succ m g, ← List.append_assoc, ih (fun t ht => h t (by omega)), h m (by omega), ints_succ]
    rfl
end Vo
end Go.Proofs.Ytjlmbeachanlfaa

/- Attention of the program. -/
namespace Go.Proofs.Ytjlmbeachanlfaa
namespace Vo
open Go.ChangeShapes Go.WideShapes Go.ChangeAt Go.RowKit Go.Joins Go.Sort
open Vl Vp Vr
set_option linter.unusedVariables false
set_option linter.unusedSimpArgs false
/-- the rows that row i sees end below this one -/
def upA (n m i : Nat) : Nat := m - n + i + 1
/-- and begin here -/
def fromA (w : Int) (n m i : Nat) : Nat := if 0 < w then ((upA n m i : Int) - w).toNat else 0
/-- what attention gives at a place -/
def attS (q k v : TV) (w : Int) (n m c e : Nat) (p : Nat) : Int := wv (aw (fun t => q.S (p / e * c + t)) k.S c) v.S e (fromA w n m (p / e)) (upA n m (p / e)) (p % e)
def attD (q v : TV) (j : Nat) : Int := if j = 0 then q.D 0 else v.D 1
instance attDec (q k v : TV) : Decidable (AttOk q k v) := by unfold AttOk; infer_instance
def attP (q k v : TV) (w : Int) : PT := if AttOk q k v ∧ 0 ≤ w ∧ w ≤ 4096 then ⟨2, (q.D 0).toNat * (v.D 1).toNat, attD q v, attS q k v w (q.D 0).toNat (k.D 0).toNat (k.D 1).toNat (v.D 1).toNat⟩ else PT.zero
theorem attP_yes {q k v : TV} {w : Int} (h : AttOk q k v ∧ 0 ≤ w ∧ w ≤ 4096) : attP q k v w = ⟨2, (q.D 0).toNat * (v.D 1).toNat, attD q v, attS q k v w (q.D 0).toNat (k.D 0).toNat (k.D 1).toNat (v.D 1).toNat⟩ := by unfold attP; rw [if_pos h]
theorem attP_no {q k v : TV} {w : Int} (h : ¬ (AttOk q k v ∧ 0 ≤ w ∧ w ≤ 4096)) : attP q k v w = PT.zero := by unfold attP; rw [if_neg h]
/-- a tensor of two lengths: how many numbers it has -/
theorem two_len {s : Nat} {D S : Nat → Int} (h : tok 2 s D S = true) : ∃ n e : Nat, D 0 = (n : Int) ∧ D 1 = (e : Int) ∧ 1 ≤ n ∧ 1 ≤ e ∧ n * e = s ∧ (s : Int) ≤ 4096 := by
  obtain ⟨d, hs, _⟩ := tok_split h
  have b0 := dok_len d (j := 0) (by decide)
  have b1 := dok_len d (j := 1) (by decide)
  obtain ⟨n, hn⟩ := Int.eq_ofNat_of_zero_le (show 0 ≤ D 0 by omega)
  obtain ⟨e, he⟩ := Int.eq_ofNat_of_zero_le (show 0 ≤ D 1 by omega)
  have hp : szR D 2 = pr D 2 ∧ szR D 2 ≤ 4096 := by
    rcases szR_cases D 2 with q | q
    · have := (dok_iff.1 d).2; omega
    · exact ⟨q.2.1, q.2.2.2⟩
  have h2 : pr D 2 = D 0 * D 1 := by show 1 * D 0 * D 1 = _; rw [Int.one_mul]
  refine ⟨n, e, hn, he, by omega, by omega, ?_, by omega⟩
  have : ((n * e : Nat) : Int) = (s : Int) := by rw [Int.natCast_mul, ← hn, ← he, ← h2, ← hp.1]; exact hs
  exact Int.ofNat.inj this
theorem att_sizes {q k v : TV} (h : AttOk q k v) : ∃ n m c e : Nat, q.D 0 = (n : Int) ∧ q.D 1 = (c : Int) ∧ k.D 0 = (m : Int) ∧ k.D 1 = (c : Int) ∧ v.D 0 = (m : Int) ∧ v.D 1 = (e : Int) ∧ 1 ≤ n ∧ n ≤ m ∧ 1 ≤ c ∧ 1 ≤ e ∧ n * c = q.s ∧ m * c = k.s ∧ m * e = v.s ∧ (q.s : Int) ≤ 4096 ∧ (k.s : Int) ≤ 4096 ∧ (v.s : Int) ≤ 4096 := by
  obtain ⟨⟨q1, q2⟩, ⟨k1, k2⟩, ⟨v1, v2⟩, e1, e2, e3, _⟩ := h
  obtain ⟨n, c, a1, a2, a3, a4, a5, a6⟩ := two_len (show tok 2 q.s q.D q.S = true by rw [← q2]; exact q1)
  obtain ⟨m, c', b1, b2, b3, b4, b5, b6⟩ := two_len (show tok 2 k.s k.D k.S = true by rw [← k2]; exact k1)
  obtain ⟨m', e, d1, d2, d3, d4, d5, d6⟩ := two_len (show tok 2 v.s v.D v.S = true by rw [← v2]; exact v1)
  obtain rfl : c = c' := by omega
  obtain rfl : m = m' := by omega
  exact ⟨n, m, c, e, a1, a2, b1, b2, d1, d2, a3, by omega, a4, d4, a5, b5, d5, a6, b6, d6⟩
set_option maxRecDepth 100000 in
set_option maxHeartbeats 4000000 in
theorem attendF (B : Nat) (q k v : TV) (win : Int) (w : World) (hB : B ≤ w.heap.size) (hq : q.read B w) (hk : k.read B w) (hv : v.read B w) (lq : (q.r : Int) ≤ 1048576 ∧ (q.s : Int) ≤ 1048576) (lk : (k.r : Int) ≤ 1048576 ∧ (k.s : Int) ≤ 1048576) (lv : (v.r : Int) ≤ 1048576 ∧ (v.s : Int) ≤ 1048576)
    (cq : q.r ≤ q.cap ∧ q.s ≤ q.dap) (ck : k.r ≤ k.cap ∧ k.s ≤ k.dap) (cv : v.r ≤ v.cap ∧ v.s ≤ v.dap) (hw : bd win) :
    Calls Try.prog 27 #[.agg #[.slice q.a q.r q.cap, .slice q.b q.s q.dap], .agg #[.slice k.a k.r k.cap, .slice k.b k.s k.dap], .agg #[.slice v.a v.r v.cap, .slice v.b v.s v.dap], .int .i64 win] w fun e w' => TensR w.heap.size (attP q k v win) w e w' := by
  obtain ⟨W0, hW0⟩ : ∃ W0, (((w.alloc (.cells #[.slice q.a q.r q.cap, .slice q.b q.s q.dap] 43)).alloc (.cells #[.slice k.a k.r k.cap, .slice k.b k.s k.dap] 43)).alloc (.cells #[.slice v.a v.r v.cap, .slice v.b v.s v.dap] 43)).alloc (.cells #[.slice none 0 0, .slice none 0 0] 43) = W0 := ⟨_, rfl⟩
  have s0 : W0.heap.size = w.heap.size + 1 + 1 + 1 + 1 := by rw [← hW0]; simp
  have bl : Below w.heap.size w W0 := by rw [← hW0]; exact ((((Below.refl _ _).alloc (Nat.le_refl _) _).alloc (by simp) _).alloc (by simp; omega) _).alloc (by simp; omega) _
  have n0 : Bx W0 w.heap.size (.slice q.a q.r q.cap) (.slice q.b q.s q.dap) := by rw [← hW0]; exact ⟨by simp [go_sem], by simp [go_sem]⟩
  have n1 : Bx W0 (w.heap.size + 1) (.slice k.a k.r k.cap) (.slice k.b k.s k.dap) := by rw [← hW0]; exact ⟨by simp [go_sem], by simp [go_sem]⟩
  have n2 : Bx W0 (w.heap.size + 1 + 1) (.slice v.a v.r v.cap) (.slice v.b v.s v.dap) := by rw [← hW0]; exact ⟨by simp [go_sem], by simp [go_sem]⟩
  have m0 : Bx W0 (w.heap.size + 1 + 1 + 1) (.slice none 0 0) (.slice none 0 0) := by rw [← hW0]; exact ⟨by simp [go_sem], by simp [go_sem]⟩
  have g0 : Free W0 (w.heap.size + 1 + 1 + 1) := by rw [← hW0]; intro i; simp [go_sem]
  obtain ⟨r, hr⟩ : ∃ r : Bool, r = true ↔ AttOk q k v := by
    by_cases h : AttOk q k v
    · exact ⟨true, by simp [h]⟩
    · exact ⟨false, by simp [h]⟩
  have RQ := hide (hq.below (bl.mono hB))
  have RK := hide (hk.below (bl.mono hB))
  have RV := hide (hv.below (bl.mono hB))
  have CA := hide (attendOkF B q k v W0 (by omega) (hq.below (bl.mono hB)) (hk.below (bl.mono hB)) (hv.below (bl.mono hB)) lq lk lv r hr)
  have HR := hide hr
  have BL := hide bl
  have S0 := hide s0
  have N0 := hide n0
  have N1 := hide n1
  have N2 := hide n2
  have M0 := hide m0
  have G0 := hide g0
  have NO := hide (fun (hz : ¬ (AttOk q k v ∧ 0 ≤ win ∧ win ≤ 4096)) (w2 : World) (hb : Below w.heap.size w w2) => show TensR w.heap.size (attP q k v win) w (.returned (.agg #[.slice none 0 0, .slice none 0 0])) w2 by rw [attP_no hz]; exact tensR_zero hb)
  obtain ⟨x0, x1⟩ := n0
  obtain ⟨y0, y1⟩ := n1
  obtain ⟨z0, z1⟩ := n2
  clear m0 g0 bl s0 hr hq hk hv
  go_enter Try.func27, Try.ntmps27
  go_wp2_with fail
  refine CA.out.mono ?_; rintro e w1 ⟨rfl, b1⟩
  clear hW0 CA x0 x1 y0 y1 z0 z1
  have zz := S0.out
  have N01 := hide (N0.out.below b1 (by omega))
  have N11 := hide (N1.out.below b1 (by omega))
  have N21 := hide (N2.out.below b1 (by omega))
  have M01 := hide (M0.out.below b1 (by omega))
  have G01 := hide (G0.out.below b1 (by omega))
  have B1 := hide (BL.out.trans (b1.mono BL.out.size))
  have RQ1 := hide (RQ.out.below (b1.mono (by omega)))
  have RK1 := hide (RK.out.below (b1.mono (by omega)))
  have RV1 := hide (RV.out.below (b1.mono (by omega)))
  have s1 : w.heap.size + 1 + 1 + 1 < w1.heap.size := by have := b1.size; omega
  clear N0 N1 N2 M0 G0 RQ RK RV b1 zz S0 BL
  obtain ⟨x0, x1⟩ := N01.out
  obtain ⟨y0, y1⟩ := N11.out
  obtain ⟨z0, z1⟩ := N21.out
  obtain ⟨u0, u1⟩ := M01.out
  have gg := G01.out
  unfold Free at gg
  cases r
  · have NN := hide (show ¬ (AttOk q k v ∧ 0 ≤ win ∧ win ≤ 4096) from fun h => by have := HR.out.2 h.1; cases this)
    go_wp2_with fail
    refine bodyPost_ret (v := .agg #[.slice none 0 0, .slice none 0 0]) (by simp [results, Try.results27, go_sem, u0, u1]) rfl (NO.out NN.out _ (by
      repeat (refine Below.setCell ?_ (by simp; omega) _)
      exact B1.out))
  have hA := HR.out.1 rfl
  by_cases w0 : win < 0
  · have NN := hide (show ¬ (AttOk q k v ∧ 0 ≤ win ∧ win ≤ 4096) from fun h => by omega)
    go_wp2_with fail
    refine bodyPost_ret (v := .agg #[.slice none 0 0, .slice none 0 0]) (by simp [results, Try.results27, go_sem, u0, u1]) rfl (NO.out NN.out _ (by
      repeat (refine Below.setCell ?_ (by simp; omega) _)
      exact B1.out))
  have w0' : decide (win < 0) = false := decide_eq_false w0
  by_cases w4 : 4096 < win
  · have NN := hide (show ¬ (AttOk q k v ∧ 0 ≤ win ∧ win ≤ 4096) from fun h => by omega)
    clear w0
    go_wp2_with fail
    refine bodyPost_ret (v := .agg #[.slice none 0 0, .slice none 0 0]) (by simp [results, Try.results27, go_sem, u0, u1]) rfl (NO.out NN.out _ (by
      repeat (refine Below.setCell ?_ (by simp; omega) _)
      exact B1.out))
  have w4' : decide (4096 < win) = false := decide_eq_false w4
  have WIN := hide (show 0 ≤ win ∧ win ≤ 4096 by omega)
  have EZ := hide (attP_yes ⟨hA, by omega, by omega⟩ : attP q k v win = _)
  obtain ⟨n, m, c, e, d1, d2, d3, d4, d5, d6, n1, nm, c1, e1, hsq, hsk, hsv, l1, l2, l3⟩ := att_sizes hA
  have q2 := hA.1.2
  have k2 := hA.2.1.2
  have v2 := hA.2.2.1.2
  rw [d1, d3, d4, d6, Int.toNat_natCast, Int.toNat_natCast, Int.toNat_natCast, Int.toNat_natCast] at EZ
  have ne : n * e ≤ m * e := Nat.mul_le_mul_right _ nm
  have nI : (n : Int) ≤ 4096 := by have : n * 1 ≤ n * c := Nat.mul_le_mul_left _ c1; omega
  have mI : (m : Int) ≤ 4096 := by have : m * 1 ≤ m * c := Nat.mul_le_mul_left _ c1; omega
  have eI : (e : Int) ≤ 4096 := by have : 1 * e ≤ m * e := Nat.mul_le_mul_right _ (by omega); omega
  have rq := RQ1.out.1
  have rk := RK1.out.1
  have rv := RV1.out.1
  rw [q2] at rq x0
  rw [k2] at rk y0
  rw [v2] at rv z0
  rcases rq with h | ⟨bq, oq, eqa, gq, hcq⟩
  · omega
  rcases rk with h | ⟨bk, ok', eka, gk, hck⟩
  · omega
  rcases rv with h | ⟨bv, ov, eva, gv, hcv⟩
  · omega
  have cq0 := (hcq 0 (by decide)).1
  have ck0 := (hck 0 (by decide)).1
  have cv1 := (hcv 1 (by decide)).1
  rw [d1, Nat.add_zero] at cq0
  rw [d3, Nat.add_zero] at ck0
  rw [d6] at cv1
  rw [eqa] at x0
  rw [eka] at y0
  rw [eva] at z0
  have wah : IntKind.i64.wrap ((m : Int) - (n : Int)) = (m : Int) - (n : Int) := by rw [IntKind.wrap_i64]; omega
  have CQ0 := hide cq0
  have CV1 := hide cv1
  have HA := hide hA
  clear hcq hck hcv hA w0 w4 HR NO u0 u1 gg
  go_wp2_with fail
  go_quiet (fail)
  generalize hX : World.drewN w1 _ = X
  have bX : Below w1.heap.size w1 X := hX ▸ below_draws _ _ _
  clear hX x0 x1 y0 y1 z0 z1 cq0 ck0 cv1
  obtain ⟨i0, hi0, hz0, hz1, hz2⟩ := info_parts infoInt
  have NX0 := hide (N01.out.below bX (by omega))
  have NX1 := hide (N11.out.below bX (by omega))
  have NX2 := hide (N21.out.below bX (by omega))
  have MX := hide (M01.out.below bX (by omega))
  have GX := hide (G01.out.below bX (by omega))
  have BX := hide (B1.out.trans (bX.mono B1.out.size))
  have RQX := hide (RQ1.out.below (bX.mono (Nat.le_trans hB B1.out.size)))
  have RKX := hide (RK1.out.below (bX.mono (Nat.le_trans hB B1.out.size)))
  have RVX := hide (RV1.out.below (bX.mono (Nat.le_trans hB B1.out.size)))
  have sX : w.heap.size + 1 + 1 + 1 < X.heap.size := Nat.lt_of_lt_of_le s1 bX.size
  have bq1 : bq < w1.heap.size := by have := B1.out.size; omega
  have cq0 := (bX.cell (p := ⟨bq, oq, none⟩) bq1).trans CQ0.out
  have CQX := hide cq0
  have CVX := hide ((bX.cell (p := ⟨bv, ov + 1, none⟩) (by show bv < w1.heap.size; have := B1.out.size; omega)).trans CV1.out)
  clear N01 N11 N21 M01 G01 B1 RQ1 RK1 RV1 bX s1 CQ0 CV1
  obtain ⟨x0, x1⟩ := NX0.out
  rw [q2, eqa] at x0
  have xA : ∀ o, (X.alloc o).cell? ⟨w.heap.size, 0, none⟩ = some (.slice (some ⟨bq, oq, none⟩) 2 q.cap) := fun o => alloc_old x0
  have cA : ∀ o, (X.alloc o).cell? ⟨bq, oq, none⟩ = some (.int .i64 (n : Int)) := fun o => alloc_old cq0
  go_wp2_with fail
  go_loopw [10, 42] (fun d i wx => ∃ (t g cc : Nat), t ≤ n ∧ d = .slice (some ⟨g, 0, none⟩) (t * e) cc ∧ i = .int .i64 (t : Int) ∧ wx.ownsRow X.heap.size 3 1 (.slice (some ⟨g, 0, none⟩) (t * e) cc) (t * e) (ints (t * e) (attS q k v win n m c e)) ∧ X.heap.size < wx.heap.size ∧ Below X.heap.size X wx) (fun _ i _ => n - (intOf i).toNat)
  case atStart =>
    refine ⟨0, X.heap.size, 0, Nat.zero_le _, by rw [Nat.zero_mul], rfl, ?_, by simp, (Below.refl _ _).alloc (Nat.le_refl _) _⟩
    rw [Nat.zero_mul]
    exact ⟨rfl, .inr ⟨X.heap.size, 0, #[], rfl, Nat.le_refl _, heap_alloc_new X _, Nat.le_refl _, by simp [maxLen], rfl, rfl⟩⟩
  case round =>
    obtain ⟨t, g, cc, ht, rfl, rfl, hown, hsx, bb⟩ := hrel
    have HO := hide hown
    have BB := hide bb
    clear hown bb x0 x1 cq0 xA cA
    by_cases hlt : t < n
    · have tI : (t : Int) < (n : Int) := by omega
      obtain ⟨u, hu⟩ : ∃ u, upA n m t = u := ⟨_, rfl⟩
      obtain ⟨f, hf⟩ : ∃ f, fromA win n m t = f := ⟨_, rfl⟩
      have uI : (u : Int) = (m : Int) - (n : Int) + (t : Int) + 1 := by rw [← hu]; unfold upA; omega
      have um : u ≤ m := by omega
      have fu : f ≤ u := by rw [← hf]; unfold fromA; rw [hu]; split <;> omega
      have hBX : B ≤ X.heap.size := Nat.le_trans hB BX.out.size
      have htc : t * c + c ≤ q.s := by
        have : (t + 1) * c ≤ n * c := Nat.mul_le_mul_right _ (by omega)
        rw [Nat.add_mul, Nat.one_mul] at this; omega
      have te : t * e + e ≤ 4096 := by
        have : (t + 1) * e ≤ n * e := Nat.mul_le_mul_right _ (by omega)
        rw [Nat.add_mul, Nat.one_mul] at this; omega
      have IQ := RQX.out
      have IK := RKX.out
      have IV := RVX.out
      unfold TV.read at IQ IK IV
      rw [q2, eqa] at IQ
      rw [k2, eka] at IK
      rw [v2, eva] at IV
      have CR := hide (fun (Y : World) (hY : Below X.heap.size X Y) => rowF B (some ⟨bq, oq, none⟩) q.b q.s q.cap q.dap t c q.D q.S Y (Nat.le_trans hBX hY.size) (IQ.1.below (hY.mono hBX)) (IQ.2.below (hY.mono hBX)) d2 (by omega) cq.2 c1 htc)
      have CW := hide (fun (Y : World) (a1 : Option Addr) (cap1 : Nat) (hY : Below X.heap.size X Y) (hi : Ints B Y a1 c (fun s => q.S (t * c + s))) => weightedF B a1 (some ⟨bk, ok', none⟩) k.b (some ⟨bv, ov, none⟩) v.b cap1 k.s k.cap k.dap v.s v.cap v.dap c e m f u (fun s => q.S (t * c + s)) k.D k.S v.D v.S Y (Nat.le_trans hBX hY.size) hi (IK.1.below (hY.mono hBX)) (IK.2.below (hY.mono hBX)) (IV.1.below (hY.mono hBX)) (IV.2.below (hY.mono hBX)) d4 d6 c1 e1 hsk hsv l2 l3 ck.2 cv.2 um fu (by omega))
      obtain ⟨WV, hWV⟩ : ∃ WV, wv (aw (fun s => q.S (t * c + s)) k.S c) v.S e f u = WV := ⟨_, rfl⟩
      have HWV := hide hWV
      rw [hWV] at CW
      obtain ⟨x0, x1⟩ := NX0.out.below BB.out (by omega)
      obtain ⟨y0, y1⟩ := NX1.out.below BB.out (by omega)
      obtain ⟨z0, z1⟩ := NX2.out.below BB.out (by omega)
      rw [q2, eqa] at x0
      rw [k2, eka] at y0
      rw [v2, eva] at z0
      have F0 := hide (fun (Y : World) (hY : Below X.heap.size X Y) => show Y.cell? ⟨w.heap.size, 0, none⟩ = some (.slice (some ⟨bq, oq, none⟩) 2 q.cap) ∧ Y.cell? ⟨w.heap.size, 1, none⟩ = some (.slice q.b q.s q.dap) by
        obtain ⟨h1, h2⟩ := NX0.out.below hY (by omega)
        rw [q2, eqa] at h1
        exact ⟨h1, h2⟩)
      have F1 := hide (fun (Y : World) (hY : Below X.heap.size X Y) => show Y.cell? ⟨w.heap.size + 1, 0, none⟩ = some (.slice (some ⟨bk, ok', none⟩) 2 k.cap) ∧ Y.cell? ⟨w.heap.size + 1, 1, none⟩ = some (.slice k.b k.s k.dap) by
        obtain ⟨h1, h2⟩ := NX1.out.below hY (by omega)
        rw [k2, eka] at h1
        exact ⟨h1, h2⟩)
      have F2 := hide (fun (Y : World) (hY : Below X.heap.size X Y) => show Y.cell? ⟨w.heap.size + 1 + 1, 0, none⟩ = some (.slice (some ⟨bv, ov, none⟩) 2 v.cap) ∧ Y.cell? ⟨w.heap.size + 1 + 1, 1, none⟩ = some (.slice v.b v.s v.dap) by
        obtain ⟨h1, h2⟩ := NX2.out.below hY (by omega)
        rw [v2, eva] at h1
        exact ⟨h1, h2⟩)
      have BBd := hide (show Below X.heap.size X wr.drew from BB.out.drew)
      have gX := (HO.out.lt g rfl).1
      have hgn0 : w.heap.size ≠ g := by omega
      have hgn1 : w.heap.size + 1 ≠ g := by omega
      have hgn2 : w.heap.size + 1 + 1 ≠ g := by omega
      have HUE := hide hu
      have HFE := hide hf
      clear IQ IK IV hWV hu
      by_cases hwin : 0 < win
      · have fI : (if wrap64 ((u : Int) - win) < 0 then 0 else wrap64 ((u : Int) - win)) = (f : Int) := by
          have e : wrap64 ((u : Int) - win) = (u : Int) - win := by have := WIN.out; simp only [wrap64]; omega
          rw [e, ← hf]; unfold fromA; rw [if_pos hwin, HUE.out]; split <;> omega
        have uI' := uI.symm
        clear hf uI
        go_upto_region 11 with fail
        clear fI uI' hwin
        go_region_held3 (fun w' => w'.cell? ⟨w.heap.size, 0, none⟩ = some (.slice (some ⟨bq, oq, none⟩) 2 q.cap) ∧ w'.cell? ⟨w.heap.size, 1, none⟩ = some (.slice q.b q.s q.dap) ∧ w'.cell? ⟨w.heap.size + 1, 0, none⟩ = some (.slice (some ⟨bk, ok', none⟩) 2 k.cap) ∧ w'.cell? ⟨w.heap.size + 1, 1, none⟩ = some (.slice k.b k.s k.dap) ∧ w'.cell? ⟨w.heap.size + 1 + 1, 0, none⟩ = some (.slice (some ⟨bv, ov, none⟩) 2 v.cap) ∧ w'.cell? ⟨w.heap.size + 1 + 1, 1, none⟩ = some (.slice v.b v.s v.dap))
          ((try dsimp only) <;> (repeat' apply And.intro) <;> (repeat (first | with_reducible assumption | with_reducible apply drew_old | with_reducible apply alloc_old | (with_reducible apply below_old; (focus (with_reducible assumption))) | (with_reducible apply grown_old; (focus (with_reducible assumption)); (focus (dsimp only; with_reducible assumption))))))
          (first
            | (go_at_call 51
               refine (CR.out _ BBd.out).mono ?_
               rintro e1' w2 ⟨a1, cap1, rfl, i1, b1⟩
               have I1 := hide i1
               have B2 := hide (BBd.out.trans (b1.mono BBd.out.size))
               obtain ⟨x02, x12⟩ := F0.out _ B2.out
               obtain ⟨y02, y12⟩ := F1.out _ B2.out
               obtain ⟨z02, z12⟩ := F2.out _ B2.out
               clear i1)
            | (go_at_call 50
               refine (CW.out _ _ _ B2.out I1.out).mono ?_
               rintro e2' w3 ⟨g2, rfl, hg2, hg2', rw2, b2⟩
               have RW2 := hide rw2
               have HO3 := hide (own_below (own_below (w := wr.drew) HO.out b1) b2)
               have B3 := hide (B2.out.trans (b2.mono B2.out.size))
               obtain ⟨x03, x13⟩ := F0.out _ B3.out
               obtain ⟨y03, y13⟩ := F1.out _ B3.out
               obtain ⟨z03, z13⟩ := F2.out _ B3.out
               have hg3 : g ≠ g2 := by have h1 := (HO.out.lt g rfl).2; have h2 := b1.size; have h3 : wr.drew.heap.size = wr.heap.size := rfl; omega
               have hs3 : wr.heap.size ≤ w3.heap.size := by have h2 := b1.size; have h4 := b2.size; have h3 : wr.drew.heap.size = wr.heap.size := rfl; omega
               clear rw2)
            | (refine step_append_lies _ (by rfl) _ _ _ (by rfl) X.heap.size 3 i0 _ 1 8 Try.underlying25 hi0 hz0 hz1 hz2 rfl (by omega) (.slice (some ⟨g, 0, none⟩) (t * e) cc) (t * e) (ints (t * e) (attS q k v win n m c e)) (by rfl) HO3.out
                ⟨g2, 0, none⟩ e e (ints e WV) (by rfl) (by rw [ints_len, Nat.mul_one]) (ints_of (RW2.out.ints hg2') rfl) (ints_one _ _)
                (by omega) (by unfold maxLen; omega) (by omega) B3.out.size w3.heap.size rfl ?_
               intro g' c' w4 hown4 hgrow0 hat hlt4
               have hgrow : World.grownBy _ w4 (some g) := hgrow0
               clear hgrow0))
        go_wp2_with fail
        go_roundw
        case rel =>
          have eg : ∀ s, s < e → WV s = attS q k v win n m c e (t * e + s) := by
            intro s hs
            have h1 : (t * e + s) / e = t := by rw [Nat.mul_comm, Nat.mul_add_div (by omega), Nat.div_eq_of_lt hs]; rfl
            have h2 : (t * e + s) % e = s := by rw [Nat.mul_comm, Nat.mul_add_mod, Nat.mod_eq_of_lt hs]
            unfold attS
            rw [h1, h2, HUE.out, HFE.out, HWV.out]
          rw [ints_more _ _ _ _ eg] at hown4
          have bE : Below X.heap.size X w4 := B3.out.grown hgrow (by have := B3.out.size; omega) (by rintro y ⟨⟩; exact (HO.out.lt g rfl).1)
          exact ⟨t + 1, g', c', by omega, by rw [Nat.add_mul, Nat.one_mul], by go_num, by rw [Nat.add_mul, Nat.one_mul]; exact hown4, by have h4 := hgrow.size; omega, bE⟩
        case measure => simp [intOf]; omega
      · have hwin' : decide (0 < win) = false := decide_eq_false hwin
        have fI : f = 0 := by rw [← hf]; unfold fromA; rw [if_neg hwin]
        subst fI
        have uI' := uI.symm
        clear hf uI hwin
        go_upto_region 11 with fail
        clear uI'
        go_region_held3 (fun w' => w'.cell? ⟨w.heap.size, 0, none⟩ = some (.slice (some ⟨bq, oq, none⟩) 2 q.cap) ∧ w'.cell? ⟨w.heap.size, 1, none⟩ = some (.slice q.b q.s q.dap) ∧ w'.cell? ⟨w.heap.size + 1, 0, none⟩ = some (.slice (some ⟨bk, ok', none⟩) 2 k.cap) ∧ w'.cell? ⟨w.heap.size + 1, 1, none⟩ = some (.slice k.b k.s k.dap) ∧ w'.cell? ⟨w.heap.size + 1 + 1, 0, none⟩ = some (.slice (some ⟨bv, ov, none⟩) 2 v.cap) ∧ w'.cell? ⟨w.heap.size + 1 + 1, 1, none⟩ = some (.slice v.b v.s v.dap))
          ((try dsimp only) <;> (repeat' apply And.intro) <;> (repeat (first | with_reducible assumption | with_reducible apply drew_old | with_reducible apply alloc_old | (with_reducible apply below_old; (focus (with_reducible assumption))) | (with_reducible apply grown_old; (focus (with_reducible assumption)); (focus (dsimp only; with_reducible assumption))))))
          (first
            | (go_at_call 51
               refine (CR.out _ BBd.out).mono ?_
               rintro e1' w2 ⟨a1, cap1, rfl, i1, b1⟩
               have I1 := hide i1
               have B2 := hide (BBd.out.trans (b1.mono BBd.out.size))
               obtain ⟨x02, x12⟩ := F0.out _ B2.out
               obtain ⟨y02, y12⟩ := F1.out _ B2.out
               obtain ⟨z02, z12⟩ := F2.out _ B2.out
               clear i1)
            | (go_at_call 50
               refine (CW.out _ _ _ B2.out I1.out).mono ?_
               rintro e2' w3 ⟨g2, rfl, hg2, hg2', rw2, b2⟩
               have RW2 := hide rw2
               have HO3 := hide (own_below (own_below (w := wr.drew) HO.out b1) b2)
               have B3 := hide (B2.out.trans (b2.mono B2.out.size))
               obtain ⟨x03, x13⟩ := F0.out _ B3.out
               obtain ⟨y03, y13⟩ := F1.out _ B3.out
               obtain ⟨z03, z13⟩ := F2.out _ B3.out
               have hg3 : g ≠ g2 := by have h1 := (HO.out.lt g rfl).2; have h2 := b1.size; have h3 : wr.drew.heap.size = wr.heap.size := rfl; omega
               have hs3 : wr.heap.size ≤ w3.heap.size := by have h2 := b1.size; have h4 := b2.size; have h3 : wr.drew.heap.size = wr.heap.size := rfl; omega
               clear rw2)
            | (refine step_append_lies _ (by rfl) _ _ _ (by rfl) X.heap.size 3 i0 _ 1 8 Try.underlying25 hi0 hz0 hz1 hz2 rfl (by omega) (.slice (some ⟨g, 0, none⟩) (t * e) cc) (t * e) (ints (t * e) (attS q k v win n m c e)) (by rfl) HO3.out
                ⟨g2, 0, none⟩ e e (ints e WV) (by rfl) (by rw [ints_len, Nat.mul_one]) (ints_of (RW2.out.ints hg2') rfl) (ints_one _ _)
                (by omega) (by unfold maxLen; omega) (by omega) B3.out.size w3.heap.size rfl ?_
               intro g' c' w4 hown4 hgrow0 hat hlt4
               have hgrow : World.grownBy _ w4 (some g) := hgrow0
               clear hgrow0))
        go_wp2_with fail
        go_roundw
        case rel =>
          have eg : ∀ s, s < e → WV s = attS q k v win n m c e (t * e + s) := by
            intro s hs
            have h1 : (t * e + s) / e = t := by rw [Nat.mul_comm, Nat.mul_add_div (by omega), Nat.div_eq_of_lt hs]; rfl
            have h2 : (t * e + s) % e = s := by rw [Nat.mul_comm, Nat.mul_add_mod, Nat.mod_eq_of_lt hs]
            unfold attS
            rw [h1, h2, HUE.out, HFE.out, HWV.out]
          rw [ints_more _ _ _ _ eg] at hown4
          have bE : Below X.heap.size X w4 := B3.out.grown hgrow (by have := B3.out.size; omega) (by rintro y ⟨⟩; exact (HO.out.lt g rfl).1)
          exact ⟨t + 1, g', c', by omega, by rw [Nat.add_mul, Nat.one_mul], by go_num, by rw [Nat.add_mul, Nat.one_mul]; exact hown4, by have h4 := hgrow.size; omega, bE⟩
        case measure => simp [intOf]; omega
    · obtain rfl : t = n := by omega
      have hlt' : decide ((t : Int) < (t : Int)) = false := decide_eq_false (by omega)
      obtain ⟨x0, x1⟩ := NX0.out.below BB.out (by omega)
      obtain ⟨z0, z1⟩ := NX2.out.below BB.out (by omega)
      obtain ⟨u0, u1⟩ := MX.out.below BB.out (by omega)
      have gg := GX.out.below BB.out (by omega)
      unfold Free at gg
      rw [q2, eqa] at x0
      rw [v2, eva] at z0
      have bqX : bq < X.heap.size := by have := BX.out.size; omega
      have bvX : bv < X.heap.size := by have := BX.out.size; omega
      have cq0 := (BB.out.cell (p := ⟨bq, oq, none⟩) bqX).trans CQX.out
      have cv1 := (BB.out.cell (p := ⟨bv, ov + 1, none⟩) bvX).trans CVX.out
      have nq3 : bq ≠ w.heap.size + 1 + 1 + 1 := by omega
      have nv3 : bv ≠ w.heap.size + 1 + 1 + 1 := by omega
      have gl := HO.out.lt g rfl
      have RD := hide (rw_of_row HO.out (fun j hj => (show bd (attS q k v win t m c e j) from bd_of (ti_rng _ _))))
      obtain ⟨W3, hW3⟩ : ∃ W3, wr.drew.alloc (.cells #[.int .i64 (t : Int), .int .i64 (e : Int)] 3) = W3 := ⟨_, rfl⟩
      have b3 : Below wr.heap.size wr W3 := by rw [← hW3]; exact (Below.refl _ _).drew.alloc (Nat.le_refl _) _
      have rd3 : Rw W3 wr.heap.size 2 (attD q v) := by
        intro j hj
        have : j = 0 ∨ j = 1 := by omega
        rw [← hW3]
        rcases this with rfl | rfl
        · exact ⟨by simp [go_sem, attD, d1], by simp [go_sem], by unfold bd attD; simp [d1]; omega⟩
        · exact ⟨by simp [go_sem, attD, d6], by simp [go_sem], by unfold bd attD; simp [d6]; omega⟩
      have VO := hide (show VOwn X.heap.size W3 (some ⟨wr.heap.size, 0, none⟩) (some ⟨g, 0, none⟩) 2 (t * e) (attD q v) (attS q k v win t m c e) from
        ⟨.inr ⟨_, rfl, by have := BB.out.size; omega, rd3⟩, .inr ⟨_, rfl, gl.1, RD.out.below b3 gl.2⟩, fun j h1 h2 => by
          obtain ⟨_, a1, e1', e2'⟩ := h1
          obtain ⟨_, a2, e3', e4'⟩ := h2
          injection e1' with e1'
          injection e3' with e3'
          subst e1' e3'
          have h1 : wr.heap.size = j := e2'
          have h2 : g = j := e4'
          omega⟩)
      have BE := hide (show Below w.heap.size w W3 from (BX.out.trans (BB.out.mono BX.out.size)).trans (b3.mono (BX.out.trans (BB.out.mono BX.out.size)).size))
      have szr := BB.out.size
      have x0W := (b3.cell (p := ⟨w.heap.size, 0, none⟩) (by show w.heap.size < wr.heap.size; omega)).trans x0
      have cq0W := (b3.cell (p := ⟨bq, oq, none⟩) (by show bq < wr.heap.size; omega)).trans cq0
      have z0W := (b3.cell (p := ⟨w.heap.size + 1 + 1, 0, none⟩) (by show w.heap.size + 1 + 1 < wr.heap.size; omega)).trans z0
      have cv1W := (b3.cell (p := ⟨bv, ov + 1, none⟩) (by show bv < wr.heap.size; omega)).trans cv1
      obtain ⟨u0W, u1W⟩ := (MX.out.below BB.out (by omega)).below b3 (by omega)
      have ggW := (GX.out.below BB.out (by omega)).below b3 (by omega)
      unfold Free at ggW
      clear b3 rd3 NX0 NX1 NX2 MX GX RQX RKX RVX
      go_wp2_with fail
      go_region_held3 (fun w' => w'.cell? ⟨w.heap.size, 0, none⟩ = some (.slice (some ⟨bq, oq, none⟩) 2 q.cap) ∧ w'.cell? ⟨bq, oq, none⟩ = some (.int .i64 (t : Int)) ∧ w'.cell? ⟨w.heap.size + 1 + 1, 0, none⟩ = some (.slice (some ⟨bv, ov, none⟩) 2 v.cap) ∧ w'.cell? ⟨bv, ov + 1, none⟩ = some (.int .i64 (e : Int)))
        ((try dsimp only) <;> (repeat' apply And.intro) <;> (repeat (first | with_reducible assumption | with_reducible apply drew_old | with_reducible apply alloc_old | (with_reducible apply set_other; (focus (first | (dsimp only; omega) | (simp; done) | (simp; omega)))) | assumption)))
        (fail)
      all_goals (go_wp2_with fail)
      refine bodyPost_ret (v := .agg #[.slice (some ⟨wr.heap.size, 0, none⟩) 2 2, .slice (some ⟨g, 0, none⟩) (t * e) cc]) (by simp [results, Try.results27, go_sem, u0W, u1W]) rfl ?_
      rw [EZ.out]
      have fin := tens_end (v := ⟨2, t * e, attD q v, attS q k v win t m c e⟩) (P := w.heap.size + 1 + 1 + 1) (c := 2) (d := cc) VO.out (by omega) (by omega) BE.out
      exact fin
end Vo
end Go.Proofs.Ytjlmbeachanlfaa
