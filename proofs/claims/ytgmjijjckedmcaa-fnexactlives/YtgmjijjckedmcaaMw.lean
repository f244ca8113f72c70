/- Kernels and nests that are written over; copies have shapes of their own. -/
import Derived.Test.YtgmjijjckedmcaaMv
namespace Go.Proofs.Ytgmjijjckedmcaa
namespace Vo
open Go.ChangeShapes Go.WideShapes Go.ChangeAt Go.RowKit Go.Joins Go.Sort
open Vl Vp
set_option linter.unusedVariables false
set_option linter.unusedSimpArgs false
def ShK1 (lo hi : Nat) (w : World) (g o : Nat) (k : KV) : Prop :=
  (w.cell? ⟨g, o, none⟩ = some (.slice k.la k.lr k.lcap) ∧ ShI lo hi w k.la k.lr) ∧ (w.cell? ⟨g, o + 1, none⟩ = some (.slice k.aa k.an k.acap) ∧ ShA lo hi w k.aa k.an k.AA) ∧ (NumAt w g (o + 2) ∧ NumAt w g (o + 3)) ∧ (w.cell? ⟨g, o + 4, none⟩ = some (.slice k.st.a k.st.r k.st.cap) ∧ ShI lo hi w k.st.a k.st.r) ∧ ((∃ b, w.cell? ⟨g, o + 5, none⟩ = some (.bool b)) ∧ w.frozen? ⟨g, o + 5, none⟩ = false) ∧ (w.cell? ⟨g, o + 6, none⟩ = some (.slice k.ca k.cn k.ccap) ∧ ShC lo hi w k.ca k.cn)
theorem ShK1.mk {lo hi g o : Nat} {w w' : World} {k : KV} (h : ShK1 lo hi w g o k) (m : Mk lo hi w w') : ShK1 lo hi w' g o k := by
  obtain ⟨⟨a1, a2⟩, ⟨b1, b2⟩, ⟨c1, c2⟩, ⟨d1, d2⟩, ⟨⟨b, e1⟩, e2⟩, f1, f2⟩ := h
  exact ⟨⟨m.slice _ _ _ _ a1, a2.mk m⟩, ⟨m.slice _ _ _ _ b1, b2.mk m⟩, ⟨c1.mk m, c2.mk m⟩, ⟨m.slice _ _ _ _ d1, d2.mk m⟩, ⟨m.bool _ _ e1, (m.frz _ (World.block_lt_of_cell? _ _ e1)).trans e2⟩, m.slice _ _ _ _ f1, f2.mk m⟩
def ShK (lo hi : Nat) (w : World) (a : Option Addr) (n : Nat) (K : Nat → KV) : Prop := n = 0 ∨ ∃ g o, a = some ⟨g, o, none⟩ ∧ (lo ≤ g ∧ g < hi) ∧ ∀ i, i < n → ShK1 lo hi w g (o + i * 7) (K i)
theorem ShK.mk {lo hi : Nat} {w w' : World} {a : Option Addr} {n : Nat} {K : Nat → KV} (h : ShK lo hi w a n K) (m : Mk lo hi w w') : ShK lo hi w' a n K := by
  rcases h with h | ⟨g, o, e, hg, hc⟩
  · exact .inl h
  · exact .inr ⟨g, o, e, hg, fun i hi => (hc i hi).mk m⟩
def kct1 (k : KV) : Nat := k.lr + (2 * k.an + asum k.AA k.an) + 2 + k.st.r + 1 + 3 * k.cn
def kct (K : Nat → KV) : Nat → Nat | 0 => 0 | n + 1 => kct K n + kct1 (K n)
theorem kct_mono {K : Nat → KV} {n m : Nat} (h : n ≤ m) : kct K n ≤ kct K m := by
  induction m with
  | zero => have : n = 0 := by omega
            subst this; exact Nat.le_refl _
  | succ m ih =>
    by_cases c : n = m + 1
    · subst c; exact Nat.le_refl _
    · exact Nat.le_trans (ih (by omega)) (Nat.le_add_right _ _)
theorem kct_ge (K : Nat → KV) : ∀ n, n ≤ kct K n
  | 0 => Nat.le_refl _
  | n + 1 => by
    have ih := kct_ge K n
    show n + 1 ≤ kct K n + kct1 (K n)
    unfold kct1
    omega
theorem kct_le (K : Nat → KV) : ∀ n, kct K n ≤ 3 * kss K n + 3 * n
  | 0 => Nat.le_refl _
  | n + 1 => by
    have ih := kct_le K n
    show kct K n + kct1 (K n) ≤ 3 * (kss K n + ksz (K n)) + 3 * (n + 1)
    unfold kct1 ksz
    omega
set_option maxRecDepth 100000 in
set_option maxHeartbeats 4000000 in
theorem mkKerS (lo hi : Nat) (a : Option Addr) (n cap : Nat) (K : Nat → KV) (k : Int) (w : World) (h : ShK lo hi w a n K) (k0 : 0 ≤ k) (k1 : k + (kct K n : Int) ≤ 1099511627776) :
    Calls Try.prog 35 #[.slice a n cap, .int .i64 k] w fun e w' => e = .returned (.int .i64 (k + (kct K n : Int))) ∧ Mk lo hi w w' := by
  have H := hide h
  have MO := hide (fun (i : Nat) (hi : i ≤ n) => kct_mono (K := K) hi)
  have nk := kct_ge K n
  have nb : (n : Int) ≤ 1099511627776 := by omega
  clear h
  go_enter Try.func35, Try.ntmps35
  go_wp2_with fail
  go_loopw [1, 5] (fun c i wx => ∃ (j : Nat) (x : Int), j ≤ n ∧ c = .int .i64 x ∧ i = .int .i64 j ∧ x = k + (kct K j : Int) ∧ Mk lo hi w wx) (fun _ i _ => n - (intOf i).toNat)
  case atStart => exact ⟨0, k, Nat.zero_le _, rfl, rfl, by show k = k + ((0 : Nat) : Int); omega, Mk.refl _ _ _⟩
  case round =>
    obtain ⟨X, rfl⟩ : ∃ X, X = wr := ⟨_, rfl⟩
    obtain ⟨j, x, hj, rfl, rfl, hx, hk⟩ := hrel
    have HK := hide hk
    have HX := hide hx
    clear hk hx
    by_cases hlt : j < n
    case neg =>
      obtain rfl : j = n := by omega
      go_wp2_with fail
      go_ret
      exact ⟨by rw [← HX.out]; rfl, HK.out⟩
    rcases H.out.mk HK.out with h0 | ⟨g, o, rfl, hg, hc⟩
    · omega
    have S0 := hide (hc j hlt)
    have jI : (j : Int) < n := by omega
    have m1 := MO.out (j + 1) (by omega)
    have e1 : kct K (j + 1) = kct K j + kct1 (K j) := rfl
    obtain ⟨q, hq⟩ : ∃ q, K j = q := ⟨_, rfl⟩
    rw [hq] at S0 e1
    unfold kct1 at e1
    have hx := HX.out
    have x0 : 0 ≤ x := by omega
    have NX := hide (show x + q.lr + ((2 * q.an + asum q.AA q.an : Nat) : Int) + 1 + 1 + q.st.r + 1 + ((3 * q.cn : Nat) : Int) = k + (kct K (j + 1) : Int) by omega)
    have xb : x + q.lr + ((2 * q.an + asum q.AA q.an : Nat) : Int) + 1 + 1 + q.st.r + 1 + ((3 * q.cn : Nat) : Int) ≤ 1099511627776 := by omega
    clear hc hq hx m1 e1
    obtain ⟨c0, s0⟩ := S0.out.1
    have C1 := hide (mkInts lo hi q.la q.lr q.lcap x X s0 x0 (by omega))
    go_wp2_with fail
    refine C1.out.mono ?_
    rintro e X1 ⟨rfl, m1⟩
    have M1 := hide (HK.out.trans m1)
    have S1 := hide (S0.out.mk m1)
    clear m1 C1 c0 s0
    obtain ⟨y, hy⟩ : ∃ y, x + (q.lr : Int) = y := ⟨_, rfl⟩
    rw [hy] at NX xb ⊢
    have y0 : 0 ≤ y := by omega
    clear hy
    obtain ⟨c1, s1⟩ := S1.out.2.1
    have C2 := hide (mkAccS lo hi q.aa q.an q.acap q.AA y X1 s1 y0 (by omega))
    go_wp2_with fail
    refine C2.out.mono ?_
    rintro e X2 ⟨rfl, m2⟩
    have M2 := hide (M1.out.trans m2)
    have S2 := hide (S1.out.mk m2)
    clear m2 C2 c1 s1
    obtain ⟨t, ht⟩ : ∃ t, y + ((2 * q.an + asum q.AA q.an : Nat) : Int) = t := ⟨_, rfl⟩
    rw [ht] at NX xb ⊢
    have t0 : 0 ≤ t := by omega
    clear ht
    obtain ⟨⟨⟨z2, cz2⟩, fz2⟩, n3⟩ := S2.out.2.2.1
    have wt1 : IntKind.i64.wrap (t + 1) = t + 1 := by rw [IntKind.wrap_i64]; omega
    have wt2 : IntKind.i64.wrap (t + 1 + 1) = t + 1 + 1 := by rw [IntKind.wrap_i64]; omega
    have MS := hide (Mk.setI cz2 hg t)
    obtain ⟨X3, hX3⟩ : ∃ X3, X2.setCell ⟨g, o + j * 7 + 2, none⟩ (.int .i64 t) = X3 := ⟨_, rfl⟩
    rw [hX3] at MS
    obtain ⟨⟨z3, cz3⟩, fz3⟩ := n3.mk MS.out
    have MS2 := hide (Mk.setI cz3 hg (t + 1))
    obtain ⟨X4, hX4⟩ : ∃ X4, X3.setCell ⟨g, o + j * 7 + 3, none⟩ (.int .i64 (t + 1)) = X4 := ⟨_, rfl⟩
    rw [hX4] at MS2
    have M4 := hide ((M2.out.trans MS.out).trans MS2.out)
    have S4 := hide ((S2.out.mk MS.out).mk MS2.out)
    obtain ⟨c4, s4⟩ := S4.out.2.2.2.1
    have C3 := hide (mkInts lo hi q.st.a q.st.r q.st.cap (t + 1 + 1) X4 s4 (by omega) (by omega))
    clear n3
    go_wp2_with fail
    refine C3.out.mono ?_
    rintro e X5 ⟨rfl, m5⟩
    have M5 := hide (M4.out.trans m5)
    have S5 := hide (S4.out.mk m5)
    clear m5 C3 c4 s4 hX3 hX4 cz2 cz3 fz2 fz3
    obtain ⟨u, hu⟩ : ∃ u, t + 1 + 1 + (q.st.r : Int) = u := ⟨_, rfl⟩
    rw [hu] at NX xb ⊢
    have u0 : 0 ≤ u := by omega
    have wu : IntKind.i64.wrap (u + 1) = u + 1 := by rw [IntKind.wrap_i64]; omega
    clear hu
    obtain ⟨⟨bb, cb⟩, fb⟩ := S5.out.2.2.2.2.1
    obtain ⟨c6, s6⟩ := S5.out.2.2.2.2.2
    have MB := hide (fun (z : Bool) => Mk.setB (lo := lo) (hi := hi) cb hg z)
    have SS := hide s6
    clear s6
    go_wp2_with fail
    refine (mkCalcS lo hi q.ca q.cn q.ccap (u + 1) _ (SS.out.mk (MB.out _)) (by omega) (by omega)).mono ?_
    rintro e X6 ⟨rfl, m6⟩
    have M6 := hide ((M5.out.trans (MB.out _)).trans m6)
    clear m6 cb fb c6
    go_wp2_with fail
    go_roundw
    all_goals first
      | (simp only [intOf]; omega)
      | (simp [intOf]; omega)
      | exact ⟨j + 1, _, by omega, rfl, by go_num, NX.out, M6.out⟩
/-- a nest of one's own, whatever its numbers -/
def NShape (lo hi : Nat) (w : World) (u : NV) : Prop := ShI lo hi w u.sa u.sn ∧ ShI lo hi w u.ia u.i ∧ ShF lo hi w u.fa u.fn u.FF ∧ ShK lo hi w u.ka u.kn u.KK ∧ ShI lo hi w u.oa u.on
theorem NShape.mk {lo hi : Nat} {w w' : World} {u : NV} (h : NShape lo hi w u) (m : Mk lo hi w w') : NShape lo hi w' u := ⟨h.1.mk m, h.2.1.mk m, h.2.2.1.mk m, h.2.2.2.1.mk m, h.2.2.2.2.mk m⟩
def nct (v : NV) : Nat := v.sn + v.i + (v.fn + fsum v.FF v.fn) + kct v.KK v.kn + v.on
theorem nct_le (v : NV) : nct v ≤ 3 * nsz v := by
  have := kct_le v.KK v.kn
  unfold nct nsz
  omega
set_option maxHeartbeats 2000000 in
theorem mkNest (lo hi : Nat) (u : NV) (k : Int) (w : World) (h : NShape lo hi w u) (hlo : lo ≤ w.heap.size) (k0 : 0 ≤ k) (k1 : k + (nct u : Int) ≤ 1099511627776) :
    Calls Try.prog 11 #[u.val, .int .i64 k] w fun e w' => e = .returned (.int .i64 (k + (nct u : Int))) ∧ Kept (fun q => lo ≤ q ∧ q < hi) w w' := by
  obtain ⟨W1, hW1⟩ : ∃ W1, w.alloc (.cells #[.slice u.sa u.sn u.scap, .slice u.ia u.i u.icap, .slice u.fa u.fn u.fcap, .slice u.ka u.kn u.kcap, .slice u.oa u.on u.ocap] 33) = W1 := ⟨_, rfl⟩
  have b1 : Below w.heap.size w W1 := by rw [← hW1]; exact (Below.refl _ _).alloc (Nat.le_refl _) _
  have c5 := Cells5.new w (.slice u.sa u.sn u.scap) (.slice u.ia u.i u.icap) (.slice u.fa u.fn u.fcap) (.slice u.ka u.kn u.kcap) (.slice u.oa u.on u.ocap) 33
  rw [hW1] at c5
  have C1 := hide c5
  have KB := hide (show Kept (fun q => lo ≤ q ∧ q < hi) w W1 from Kept.of_below b1)
  have SH := hide (show NShape lo hi W1 u by
    exact h.mk ⟨KB.out, fun p hp => b1.frozen hp, fun p k z e => ⟨z, (b1.cell (World.block_lt_of_cell? _ _ e)).trans e⟩, fun p b e => ⟨b, (b1.cell (World.block_lt_of_cell? _ _ e)).trans e⟩, fun p a n c e => (b1.cell (World.block_lt_of_cell? _ _ e)).trans e⟩)
  unfold nct at k1 ⊢
  have hk : ∀ (X : World), Mk lo hi W1 X → Cells5 X w.heap.size (.slice u.sa u.sn u.scap) (.slice u.ia u.i u.icap) (.slice u.fa u.fn u.fcap) (.slice u.ka u.kn u.kcap) (.slice u.oa u.on u.ocap) := fun X m => ⟨m.slice _ _ _ _ C1.out.1, m.slice _ _ _ _ C1.out.2.1, m.slice _ _ _ _ C1.out.2.2.1, m.slice _ _ _ _ C1.out.2.2.2.1, m.slice _ _ _ _ C1.out.2.2.2.2⟩
  have HK := hide hk
  unfold NV.val
  obtain ⟨p0, p1, p2, p3, p4⟩ := c5
  have D1 := hide (mkInts lo hi u.sa u.sn u.scap k W1 SH.out.1 k0 (by omega))
  clear h hk b1
  go_enter Try.func11, Try.ntmps11
  go_wp2_with fail
  refine D1.out.mono ?_
  rintro e X1 ⟨rfl, m1⟩
  have M1 := hide m1
  clear m1 p0 p1 p2 p3 p4 hW1 D1
  obtain ⟨p0, p1, p2, p3, p4⟩ := HK.out X1 M1.out
  have D2 := hide (mkInts lo hi u.ia u.i u.icap (k + u.sn) X1 (SH.out.2.1.mk M1.out) (by omega) (by omega))
  go_wp2_with fail
  refine D2.out.mono ?_
  rintro e X2 ⟨rfl, m2⟩
  have M2 := hide (M1.out.trans m2)
  clear m2 p0 p1 p2 p3 p4 D2
  obtain ⟨p0, p1, p2, p3, p4⟩ := HK.out X2 M2.out
  have D3 := hide (mkFixS lo hi u.fa u.fn u.fcap u.FF (k + u.sn + u.i) X2 (SH.out.2.2.1.mk M2.out) (by omega) (by omega))
  go_wp2_with fail
  refine D3.out.mono ?_
  rintro e X3 ⟨rfl, m3⟩
  have M3 := hide (M2.out.trans m3)
  clear m3 p0 p1 p2 p3 p4 D3
  obtain ⟨p0, p1, p2, p3, p4⟩ := HK.out X3 M3.out
  have D4 := hide (mkKerS lo hi u.ka u.kn u.kcap u.KK (k + u.sn + u.i + ((u.fn + fsum u.FF u.fn : Nat) : Int)) X3 (SH.out.2.2.2.1.mk M3.out) (by omega) (by omega))
  go_wp2_with fail
  refine D4.out.mono ?_
  rintro e X4 ⟨rfl, m4⟩
  have M4 := hide (M3.out.trans m4)
  clear m4 p0 p1 p2 p3 p4 D4
  obtain ⟨p0, p1, p2, p3, p4⟩ := HK.out X4 M4.out
  have D5 := hide (mkInts lo hi u.oa u.on u.ocap (k + u.sn + u.i + ((u.fn + fsum u.FF u.fn : Nat) : Int) + (kct u.KK u.kn : Int)) X4 (SH.out.2.2.2.2.mk M4.out) (by omega) (by omega))
  go_wp2_with fail
  refine D5.out.mono ?_
  rintro e X5 ⟨rfl, m5⟩
  have M5 := hide (M4.out.trans m5)
  clear m5 p0 p1 p2 p3 p4 D5
  go_wp2_with fail
  go_ret
  refine ⟨?_, KB.out.trans M5.out.kept⟩
  show Ending.returned (.int .i64 _) = .returned (.int .i64 _)
  congr 2
  omega
theorem shI_rw {lo hi g r : Nat} {w : World} {D : Nat → Int} (h : Rw w g r D) (hg : lo ≤ g ∧ g < hi) : ShI lo hi w (some ⟨g, 0, none⟩) r := .inr ⟨g, 0, rfl, hg, fun j hj => by rw [Nat.zero_add]; exact ⟨⟨_, (h j hj).1⟩, (h j hj).2.1⟩⟩
theorem shI_own {lo r : Nat} {w : World} {a : Option Addr} {D : Nat → Int} (h : OwnL lo w a r D) : ShI lo w.heap.size w a r := by
  rcases h with h | ⟨g, e, hg, hr⟩
  · exact .inl h
  · by_cases c : r = 0
    · exact .inl c
    · rw [e]; exact shI_rw hr ⟨hg, hr.lt c⟩
theorem ShI.low {lo lo' hi r : Nat} {w : World} {a : Option Addr} (h : ShI lo hi w a r) (hl : lo' ≤ lo) : ShI lo' hi w a r := by
  rcases h with h | ⟨g, o, e, hg, hc⟩
  · exact .inl h
  · exact .inr ⟨g, o, e, by omega, hc⟩
theorem limF_le {B g n : Nat} {w : World} {A : Nat → FV} {lim : Nat → Nat} (h : OFL B w g n n A lim) : ∀ i, i ≤ n → lim 0 ≤ lim i
  | 0, _ => Nat.le_refl _
  | i + 1, hi => Nat.le_trans (limF_le h i (by omega)) (h.mono i (by omega))
theorem shF_of {lo B g n : Nat} {w : World} {A : Nat → FV} {lim : Nat → Nat} (h : OFL B w g n n A lim) (hg : lo ≤ g) : ShF lo w.heap.size w (some ⟨g, 0, none⟩) n A := by
  refine .inr ⟨g, 0, rfl, ⟨hg, h.lt⟩, fun i hi => ?_⟩
  obtain ⟨c0, c1, _⟩ := h.laid i hi
  have l0 := h.low
  have li := limF_le h i (by omega)
  rw [Nat.zero_add]
  exact ⟨⟨⟨_, c0⟩, h.free _⟩, c1, (shI_own (h.own i hi)).low (by omega)⟩
theorem shA_of {lo B g n : Nat} {w : World} {A : Nat → AV} {lim : Nat → Nat} (h : OAL B w g n n A lim) (hg : lo ≤ g) : ShA lo w.heap.size w (some ⟨g, 0, none⟩) n A := by
  refine .inr ⟨g, 0, rfl, ⟨hg, h.lt⟩, fun i hi => ?_⟩
  obtain ⟨c0, c1, c2, _⟩ := h.laid i hi
  have l0 := h.low
  have li := lim_leA h.mono (Nat.zero_le i) (by omega)
  rw [Nat.zero_add]
  exact ⟨⟨⟨_, c0⟩, h.free _⟩, ⟨⟨_, c1⟩, h.free _⟩, c2, (shI_own (h.own i hi)).low (by omega)⟩
theorem shC_of {lo B g n : Nat} {w : World} {C : Nat → CV} (h : OCL B w g n n C) (hg : lo ≤ g) : ShC lo w.heap.size w (some ⟨g, 0, none⟩) n := by
  refine .inr ⟨g, 0, rfl, ⟨hg, h.lt⟩, fun i hi => ?_⟩
  obtain ⟨c0, c1, c2, _⟩ := h.laid i hi
  rw [Nat.zero_add]
  exact ⟨⟨⟨_, c0⟩, h.free _⟩, ⟨⟨_, c1⟩, h.free _⟩, ⟨_, c2⟩, h.free _⟩
theorem shK_of {lo g n : Nat} {w : World} {K : Nat → KV} (h : OKL w g n n K) (hg : lo ≤ g) : ShK lo w.heap.size w (some ⟨g, 0, none⟩) n K := by
  refine .inr ⟨g, 0, rfl, ⟨hg, h.lt⟩, fun i hi => ?_⟩
  obtain ⟨c0, c1, c2, c3, c4, c5, c6⟩ := h.laid i hi
  obtain ⟨o1, ⟨p, lim, ea, o2⟩, ⟨o3, _⟩, p', ec, o4⟩ := h.own i hi
  rw [Nat.zero_add]
  have q2 : ShA lo w.heap.size w (K i).aa (K i).an (K i).AA := by rw [ea]; exact shA_of o2 (by have := o2.lo; omega)
  have q4 : ShC lo w.heap.size w (K i).ca (K i).cn := by rw [ec]; exact shC_of o4 (by have := o4.lo; omega)
  exact ⟨⟨c0, (shI_own o1).low (by omega)⟩, ⟨c1, q2⟩, ⟨⟨⟨_, c2⟩, h.free _⟩, ⟨⟨_, c3⟩, h.free _⟩⟩, ⟨c4, (shI_own o3).low (by omega)⟩, ⟨⟨_, c5⟩, h.free _⟩, c6, q4⟩
def NCopyS (v : NV) (w : World) (e : Ending) (w' : World) : Prop := ∃ u : NV, e = .returned u.val ∧ (∀ W', Kept (fun q => q < w.heap.size) w' W' → u.read W'.heap.size W') ∧ NShape w.heap.size w'.heap.size w' u ∧ NSame v u ∧ Below w.heap.size w w'
set_option maxRecDepth 100000 in
set_option maxHeartbeats 2000000 in
theorem toNestS (B : Nat) (v : NV) (w : World) (hB : B ≤ w.heap.size) (h : v.read B w) (hl : v.len 1048576) :
    Calls Try.prog 7 #[v.val] w (NCopyS v w) := by
  obtain ⟨sa, sn, scap, SD, ia, i, icap, ID, fa, fn, fcap, FF, ka, kn, kcap, KK, oa, on, ocap, OD⟩ := v
  obtain ⟨h1, h2, h3, h4, h5⟩ := h
  obtain ⟨l2, l3, ⟨l4, l5⟩, ⟨l6, l7⟩, l8⟩ := hl
  have H1 := hide h1
  have H2 := hide h2
  have H3 := hide h3
  have H4 := hide h4
  have H5 := hide h5
  have L5 := hide l5
  have L7 := hide l7
  clear h1 h2 h3 h4 h5 l5 l7
  unfold NV.val
  dsimp only at *
  obtain ⟨W0, hW0⟩ : ∃ W0, ((w.alloc (.cells #[.slice sa sn scap, .slice ia i icap, .slice fa fn fcap, .slice ka kn kcap, .slice oa on ocap] 26)).alloc (.cells #[.slice none 0 0, .slice none 0 0, .slice none 0 0, .slice none 0 0, .slice none 0 0] 33)).alloc (.cells #[.slice none 0 0, .slice none 0 0, .slice none 0 0, .slice none 0 0, .slice none 0 0] 33) = W0 := ⟨_, rfl⟩
  have k0 := TN.new w (.slice sa sn scap) (.slice ia i icap) (.slice fa fn fcap) (.slice ka kn kcap) (.slice oa on ocap) (.slice none 0 0) (.slice none 0 0) (.slice none 0 0) (.slice none 0 0) (.slice none 0 0) 26 33
  rw [hW0] at k0
  have K0 := hide k0
  obtain ⟨p0, p1, p2, p3, p4⟩ := k0.x
  clear k0
  go_enter Try.func7, Try.ntmps7
  go_wp2_with fail
  clear hW0 p0 p1 p2 p3 p4
  have z0 := K0.out.z
  refine (toIntS B sa sn scap SD _ (H1.out.below (K0.out.b.mono hB)) (Nat.le_trans hB K0.out.b.size) l2).mono ?_
  rintro e w1 ⟨rfl, q1, s1, b1⟩
  have K1 := hide (K0.out.below b1)
  have Q1 := hide q1
  clear b1 q1
  obtain ⟨a0, a1, a2, a3, a4⟩ := K1.out.x
  obtain ⟨t0, t1, t2, t3, t4⟩ := K1.out.t
  have g0 := K1.out.g
  unfold Fr at g0
  go_wp2_with fail
  clear a0 a1 a2 a3 a4 t0 t1 t2 t3 t4 g0
  have kp := Kept.setCell w1 ⟨w.heap.size + 1 + 1, 0, none⟩ (.slice (some ⟨W0.heap.size, 0, none⟩) sn sn)
  have J1 := hide (K1.out.put 0 (.slice (some ⟨W0.heap.size, 0, none⟩) sn sn) (K1.out.t.set _).1)
  have Q1' := hide (Q1.out.kept kp (by show ¬ W0.heap.size = w.heap.size + 1 + 1; omega))
  have y1 := Nat.lt_of_lt_of_le s1 kp.size
  clear K1 Q1 s1 kp
  generalize w1.setCell ⟨w.heap.size + 1 + 1, 0, none⟩ (.slice (some ⟨W0.heap.size, 0, none⟩) sn sn) = E1 at *
  refine (toIntS B ia i icap ID _ (H2.out.below (J1.out.b.mono hB)) (Nat.le_trans hB J1.out.b.size) l3).mono ?_
  rintro e w2 ⟨rfl, q2, s2, b2⟩
  have K2 := hide (J1.out.below b2)
  have Q1 := hide (Q1'.out.below b2 y1)
  have Q2 := hide q2
  clear b2 q2 J1 Q1'
  obtain ⟨a0, a1, a2, a3, a4⟩ := K2.out.x
  obtain ⟨t0, t1, t2, t3, t4⟩ := K2.out.t
  have g0 := K2.out.g
  unfold Fr at g0
  go_wp2_with fail
  clear a0 a1 a2 a3 a4 t0 t1 t2 t3 t4 g0
  have kp := Kept.setCell w2 ⟨w.heap.size + 1 + 1, 1, none⟩ (.slice (some ⟨E1.heap.size, 0, none⟩) i i)
  have J2 := hide (K2.out.put 1 (.slice (some ⟨E1.heap.size, 0, none⟩) i i) (K2.out.t.set _).2.1)
  have Q1' := hide (Q1.out.kept kp (by show ¬ W0.heap.size = w.heap.size + 1 + 1; omega))
  have Q2' := hide (Q2.out.kept kp (by show ¬ E1.heap.size = w.heap.size + 1 + 1; omega))
  have y2 := Nat.lt_of_lt_of_le s2 kp.size
  clear K2 Q1 Q2 s2 kp
  generalize w2.setCell ⟨w.heap.size + 1 + 1, 1, none⟩ (.slice (some ⟨E1.heap.size, 0, none⟩) i i) = E2 at *
  refine (toFixS B fa fn fcap FF _ (Nat.le_trans hB J2.out.b.size) (H3.out.below (J2.out.b.mono hB)) l4 L5.out).mono ?_
  rintro e w3 ⟨U, lim, rfl, q3, s3, b3⟩
  have K3 := hide (J2.out.below b3)
  have Q1 := hide (Q1'.out.below b3 (by omega))
  have Q2 := hide (Q2'.out.below b3 y2)
  have y3 := q3.lt
  have Q3 := hide q3
  have S3 := hide s3
  clear b3 q3 s3 J2 Q1' Q2'
  obtain ⟨a0, a1, a2, a3, a4⟩ := K3.out.x
  obtain ⟨t0, t1, t2, t3, t4⟩ := K3.out.t
  have g0 := K3.out.g
  unfold Fr at g0
  go_wp2_with fail
  clear a0 a1 a2 a3 a4 t0 t1 t2 t3 t4 g0
  have kp := Kept.setCell w3 ⟨w.heap.size + 1 + 1, 2, none⟩ (.slice (some ⟨E2.heap.size, 0, none⟩) fn fn)
  have J3 := hide (K3.out.put 2 (.slice (some ⟨E2.heap.size, 0, none⟩) fn fn) (K3.out.t.set _).2.2.1)
  have Q1' := hide (Q1.out.kept kp (by show ¬ W0.heap.size = w.heap.size + 1 + 1; omega))
  have Q2' := hide (Q2.out.kept kp (by show ¬ E1.heap.size = w.heap.size + 1 + 1; omega))
  have Q3' := hide (Q3.out.kept kp (fun q c c' => by have c' : q = w.heap.size + 1 + 1 := c'; omega))
  have y4 := Nat.lt_of_lt_of_le y3 kp.size
  clear K3 Q1 Q2 Q3 y3 kp
  generalize w3.setCell ⟨w.heap.size + 1 + 1, 2, none⟩ (.slice (some ⟨E2.heap.size, 0, none⟩) fn fn) = E3 at *
  refine (toKernelS B ka kn kcap KK _ (Nat.le_trans hB J3.out.b.size) (H4.out.below (J3.out.b.mono hB)) l6 L7.out).mono ?_
  rintro e w4 ⟨V, rfl, q4, s4, b4⟩
  have K4 := hide (J3.out.below b4)
  have Q1 := hide (Q1'.out.below b4 (by omega))
  have Q2 := hide (Q2'.out.below b4 (by omega))
  have Q3 := hide (Q3'.out.below b4)
  have y5 := q4.lt
  have Q4 := hide q4
  have S4 := hide s4
  clear b4 q4 s4 J3 Q1' Q2' Q3'
  obtain ⟨a0, a1, a2, a3, a4⟩ := K4.out.x
  obtain ⟨t0, t1, t2, t3, t4⟩ := K4.out.t
  have g0 := K4.out.g
  unfold Fr at g0
  go_wp2_with fail
  clear a0 a1 a2 a3 a4 t0 t1 t2 t3 t4 g0
  have kp := Kept.setCell w4 ⟨w.heap.size + 1 + 1, 3, none⟩ (.slice (some ⟨E3.heap.size, 0, none⟩) kn kn)
  have J4 := hide (K4.out.put 3 (.slice (some ⟨E3.heap.size, 0, none⟩) kn kn) (K4.out.t.set _).2.2.2.1)
  have Q1' := hide (Q1.out.kept kp (by show ¬ W0.heap.size = w.heap.size + 1 + 1; omega))
  have Q2' := hide (Q2.out.kept kp (by show ¬ E1.heap.size = w.heap.size + 1 + 1; omega))
  have Q3' := hide (Q3.out.kept kp (fun q c c' => by have c' : q = w.heap.size + 1 + 1 := c'; omega))
  have Q4' := hide (Q4.out.kept kp (fun q c c' => by have c' : q = w.heap.size + 1 + 1 := c'; omega))
  have y6 := Nat.lt_of_lt_of_le y5 kp.size
  clear K4 Q1 Q2 Q3 Q4 y5 kp
  generalize w4.setCell ⟨w.heap.size + 1 + 1, 3, none⟩ (.slice (some ⟨E3.heap.size, 0, none⟩) kn kn) = E4 at *
  refine (toIntS B oa on ocap OD _ (H5.out.below (J4.out.b.mono hB)) (Nat.le_trans hB J4.out.b.size) l8).mono ?_
  rintro e w5 ⟨rfl, q5, s5, b5⟩
  have K5 := hide (J4.out.below b5)
  have Q1 := hide (Q1'.out.below b5 (by omega))
  have Q2 := hide (Q2'.out.below b5 (by omega))
  have Q3 := hide (Q3'.out.below b5)
  have Q4 := hide (Q4'.out.below b5)
  have Q5 := hide q5
  clear b5 q5 J4 Q1' Q2' Q3' Q4'
  obtain ⟨a0, a1, a2, a3, a4⟩ := K5.out.x
  obtain ⟨t0, t1, t2, t3, t4⟩ := K5.out.t
  obtain ⟨r0, r1, r2, r3, r4⟩ := K5.out.r
  have g0 := K5.out.g
  have f0 := K5.out.f
  have BB := hide K5.out.b
  unfold Fr at g0 f0
  clear K5
  go_wp2_with fail
  refine bodyPost_ret (v := NV.val ⟨some ⟨W0.heap.size, 0, none⟩, sn, sn, SD, some ⟨E1.heap.size, 0, none⟩, i, i, ID, some ⟨E2.heap.size, 0, none⟩, fn, fn, U, some ⟨E3.heap.size, 0, none⟩, kn, kn, V, some ⟨E4.heap.size, 0, none⟩, on, on, OD⟩) (by simp [results, Try.results7, go_sem, NV.val, r0, r1, r2, r3, r4]) rfl ?_
  have fin : ∀ F, Kept (fun q => q = w.heap.size + 1 ∨ q = w.heap.size + 1 + 1) w5 F → NCopyS ⟨sa, sn, scap, SD, ia, i, icap, ID, fa, fn, fcap, FF, ka, kn, kcap, KK, oa, on, ocap, OD⟩ w (.returned (NV.val ⟨some ⟨W0.heap.size, 0, none⟩, sn, sn, SD, some ⟨E1.heap.size, 0, none⟩, i, i, ID, some ⟨E2.heap.size, 0, none⟩, fn, fn, U, some ⟨E3.heap.size, 0, none⟩, kn, kn, V, some ⟨E4.heap.size, 0, none⟩, on, on, OD⟩)) F := by
    intro F kf
    have kz : ∀ W', Kept (fun q => q < w.heap.size) F W' → Kept (fun q => q < w.heap.size + 1 + 1 + 1) w5 W' := fun W' k' => (kf.mono (fun q _ e => by have e : q = w.heap.size + 1 ∨ q = w.heap.size + 1 + 1 := e; show q < w.heap.size + 1 + 1 + 1; omega)).trans (k'.mono (fun q _ e => by have e : q < w.heap.size := e; show q < w.heap.size + 1 + 1 + 1; omega))
    have k1 := kz F (Kept.refl _ _)
    refine ⟨_, rfl, fun W' k' => ?_, ⟨shI_rw (Q1.out.kept k1 (by omega)) (by have := k1.size; omega), shI_rw (Q2.out.kept k1 (by omega)) (by have := k1.size; omega), shF_of (Q3.out.kept k1 (fun q c c' => by omega)) (by omega), shK_of (Q4.out.kept k1 (fun q c c' => by omega)) (by omega), shI_rw (Q5.out.kept k1 (by omega)) (by have := k1.size; omega)⟩, ⟨⟨rfl, rfl⟩, ⟨rfl, rfl⟩, ⟨rfl, S3.out⟩, ⟨rfl, S4.out⟩, ⟨rfl, rfl⟩⟩, BB.out.trans (kf.below BB.out.size (fun q c => by omega))⟩
    have kk := kz W' k'
    have sz := kk.size
    exact ⟨(Q1.out.kept kk (by omega)).ints (by omega), (Q2.out.kept kk (by omega)).ints (by omega), (Q3.out.kept kk (fun q c c' => by omega)).read, (Q4.out.kept kk (fun q c c' => by omega)).read, (Q5.out.kept kk (by omega)).ints (by omega)⟩
  have big : ∀ (W : World) (p : Nat) (j : Nat) (x : Value), (p = w.heap.size + 1 ∨ p = w.heap.size + 1 + 1) → Kept (fun q => q = w.heap.size + 1 ∨ q = w.heap.size + 1 + 1) W (W.setCell ⟨p, j, none⟩ x) := fun W p j x hp => (Kept.setCell W ⟨p, j, none⟩ x).mono (fun q _ e => by have e : q = p := e; rw [e]; exact hp)
  refine fin _ ?_
  refine Vl.Kept.trans ?_ (big _ _ _ _ (.inl rfl))
  refine Vl.Kept.trans ?_ (big _ _ _ _ (.inl rfl))
  refine Vl.Kept.trans ?_ (big _ _ _ _ (.inl rfl))
  refine Vl.Kept.trans ?_ (big _ _ _ _ (.inl rfl))
  refine Vl.Kept.trans ?_ (big _ _ _ _ (.inl rfl))
  exact big _ _ _ _ (.inr rfl)
end Vo
end Go.Proofs.Ytgmjijjckedmcaa
