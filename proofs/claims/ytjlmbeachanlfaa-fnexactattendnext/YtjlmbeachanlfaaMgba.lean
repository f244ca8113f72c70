/- Lemmas for the proof of the law. -/
import Derived.Test.YtjlmbeachanlfaaMgat
import Derived.Test.YtjlmbeachanlfaaMgaz
import Derived.Test.YtjlmbeachanlfaaMgaq
import Derived.BigQuiet
/- Rows weighted: what attention makes of one query, the program's side. -/
namespace Go.Proofs.Ytjlmbeachanlfaa
namespace Vo
open Go.ChangeShapes Go.WideShapes Go.ChangeAt Go.RowKit Go.Joins Go.Sort
open Vl Vp Vr
set_option linter.unusedVariables false
set_option linter.unusedSimpArgs false
/-- a row's weight -/
def aw (A K : Nat → Int) (c s : Nat) : Int := pl 1 (ti (dotS A (fun t => K (s * c + t)) c) (dotS A (fun t => K (s * c + t)) c))
theorem aw_rng (A K : Nat → Int) (c s : Nat) : 0 ≤ aw A K c s ∧ aw A K c s < 2147483647 := pl_rng _ _
/-- the weights' sum, those below f left out -/
def totS (W : Nat → Int) (f : Nat) : Nat → Int
  | 0 => 0
  | s + 1 => if s < f then totS W f s else pl (totS W f s) (W s)
def accS (W X : Nat → Int) (f : Nat) : Nat → Int
  | 0 => 0
  | s + 1 => if s < f then accS W X f s else pl (accS W X f s) (ti (W s) (X s))
theorem totS_rng (W : Nat → Int) (f s : Nat) : 0 ≤ totS W f s ∧ totS W f s < 2147483647 := by
  induction s with
  | zero => show (0 : Int) ≤ 0 ∧ (0 : Int) < 2147483647; omega
  | succ s ih =>
    show 0 ≤ (if s < f then totS W f s else pl (totS W f s) (W s)) ∧ (if s < f then totS W f s else pl (totS W f s) (W s)) < 2147483647
    split
    · exact ih
    · exact pl_rng _ _
theorem accS_rng (W X : Nat → Int) (f s : Nat) : 0 ≤ accS W X f s ∧ accS W X f s < 2147483647 := by
  induction s with
  | zero => show (0 : Int) ≤ 0 ∧ (0 : Int) < 2147483647; omega
  | succ s ih =>
    show 0 ≤ (if s < f then accS W X f s else pl (accS W X f s) (ti (W s) (X s))) ∧ (if s < f then accS W X f s else pl (accS W X f s) (ti (W s) (X s))) < 2147483647
    split
    · exact ih
    · exact pl_rng _ _
theorem totS_low (W : Nat → Int) (f s : Nat) (h : s ≤ f) : totS W f s = 0 := by
  induction s with
  | zero => rfl
  | succ s ih => show (if s < f then totS W f s else pl (totS W f s) (W s)) = 0; rw [if_pos (by omega)]; exact ih (by omega)
theorem accS_low (W X : Nat → Int) (f s : Nat) (h : s ≤ f) : accS W X f s = 0 := by
  induction s with
  | zero => rfl
  | succ s ih => show (if s < f then accS W X f s else pl (accS W X f s) (ti (W s) (X s))) = 0; rw [if_pos (by omega)]; exact ih (by omega)
theorem totS_up (W : Nat → Int) (f s : Nat) (h : f ≤ s) : totS W f (s + 1) = pl (totS W f s) (W s) := by show (if s < f then _ else _) = _; rw [if_neg (by omega)]
theorem accS_up (W X : Nat → Int) (f s : Nat) (h : f ≤ s) : accS W X f (s + 1) = pl (accS W X f s) (ti (W s) (X s)) := by show (if s < f then _ else _) = _; rw [if_neg (by omega)]
/-- what comes of a query at place j -/
def wv (W : Nat → Int) (V : Nat → Int) (e f n j : Nat) : Int := ti (accS W (fun s => V (s * e + j)) f n) (Num.pw (totS W f n % 2147483647) 2147483645)
/-- weighted, under way -/
structure WT (w wx : World) (vk vk' vv vv' : Value) (e : Nat) (F : Nat → Int) : Prop where
  bk : Bx wx w.heap.size vk vk'
  bv : Bx wx (w.heap.size + 1) vv vv'
  rw' : Rw wx (w.heap.size + 1 + 1) e F
  bb : Below w.heap.size w wx
  sz : w.heap.size + 1 + 1 < wx.heap.size
theorem WT.below {w wx wy : World} {vk vk' vv vv' : Value} {e : Nat} {F : Nat → Int} (h : WT w wx vk vk' vv vv' e F) (hb : Below wx.heap.size wx wy) : WT w wy vk vk' vv vv' e F :=
  ⟨h.bk.below hb (by have := h.sz; omega), h.bv.below hb (by have := h.sz; omega), h.rw'.below hb h.sz, h.bb.trans (hb.mono h.bb.size), Nat.lt_of_lt_of_le h.sz hb.size⟩
theorem WT.set {w wx : World} {vk vk' vv vv' : Value} {e : Nat} {F : Nat → Int} (h : WT w wx vk vk' vv vv' e F) (j : Nat) (x : Int) (hx : bd x) : WT w (wx.setCell ⟨w.heap.size + 1 + 1, j, none⟩ (.int .i64 x)) vk vk' vv vv' e (fun t => if t = j then x else F t) := by
  have hk := Kept.setCell wx ⟨w.heap.size + 1 + 1, j, none⟩ (.int .i64 x)
  exact ⟨h.bk.kept hk (by have := h.sz; omega) (by show ¬ (w.heap.size = w.heap.size + 1 + 1); omega), h.bv.kept hk (by have := h.sz; omega) (by show ¬ (w.heap.size + 1 = w.heap.size + 1 + 1); omega), h.rw'.set j x hx, h.bb.setCell (by show w.heap.size ≤ w.heap.size + 1 + 1; omega) _, by rw [World.size_setCell]; exact h.sz⟩
theorem WT.drew {w wx : World} {vk vk' vv vv' : Value} {e : Nat} {F : Nat → Int} (h : WT w wx vk vk' vv vv' e F) : WT w wx.drew vk vk' vv vv' e F := ⟨h.bk, h.bv, h.rw', h.bb.drew, h.sz⟩
theorem WT.same {w wx : World} {vk vk' vv vv' : Value} {e : Nat} {F G : Nat → Int} (h : WT w wx vk vk' vv vv' e F) (he : ∀ j, j < e → G j = F j) : WT w wx vk vk' vv vv' e G := ⟨h.bk, h.bv, h.rw'.same he, h.bb, h.sz⟩
set_option maxRecDepth 100000 in
set_option maxHeartbeats 4000000 in
theorem weightedF (B : Nat) (aq ak bk av bv : Option Addr) (cq sk ck dk sv cv dv c e m f n : Nat) (A Dk Sk Dv Sv : Nat → Int) (w : World) (hB : B ≤ w.heap.size) (hq : Ints B w aq c A) (hk : Ints B w ak 2 Dk) (hk' : Ints B w bk sk Sk) (hv : Ints B w av 2 Dv) (hv' : Ints B w bv sv Sv)
    (kD : Dk 1 = (c : Int)) (vD : Dv 1 = (e : Int)) (c1 : 1 ≤ c) (e1 : 1 ≤ e) (hsk : m * c = sk) (hsv : m * e = sv) (lk : (sk : Int) ≤ 4096) (lv : (sv : Int) ≤ 4096) (dk' : sk ≤ dk) (dv' : sv ≤ dv) (hn : n ≤ m) (hf : f ≤ n) (m1 : 1 ≤ m) :
    Calls Try.prog 50 #[.slice aq c cq, .agg #[.slice ak 2 ck, .slice bk sk dk], .agg #[.slice av 2 cv, .slice bv sv dv], .int .i64 (f : Int), .int .i64 (n : Int)] w fun e' w' => ∃ g, e' = .returned (.slice (some ⟨g, 0, none⟩) e e) ∧ w.heap.size ≤ g ∧ g < w'.heap.size ∧ Rw w' g e (wv (aw A Sk c) Sv e f n) ∧ Below w.heap.size w w' := by
  have cI : (c : Int) ≤ 4096 := by
    have : 1 * c ≤ m * c := Nat.mul_le_mul_right _ m1
    omega
  have eI : (e : Int) ≤ 4096 := by
    have : 1 * e ≤ m * e := Nat.mul_le_mul_right _ m1
    omega
  have mI : (m : Int) ≤ 4096 := by
    have : m * 1 ≤ m * c := Nat.mul_le_mul_left _ c1
    omega
  have hmk := make_int e (by omega)
  obtain ⟨W0, hW0⟩ : ∃ W0, ((w.alloc (.cells #[.slice ak 2 ck, .slice bk sk dk] 43)).alloc (.cells #[.slice av 2 cv, .slice bv sv dv] 43)).alloc (.cells (madeCells #[.int .i64 0] e) 3) = W0 := ⟨_, rfl⟩
  have wt0 : WT w W0 (.slice ak 2 ck) (.slice bk sk dk) (.slice av 2 cv) (.slice bv sv dv) e (fun _ => 0) := by
    have r0 := rw_new ((w.alloc (.cells #[.slice ak 2 ck, .slice bk sk dk] 43)).alloc (.cells #[.slice av 2 cv, .slice bv sv dv] 43)) e 3
    rw [World.size_alloc, World.size_alloc] at r0
    rw [← hW0]
    refine ⟨⟨by simp [go_sem], by simp [go_sem]⟩, ⟨by simp [go_sem], by simp [go_sem]⟩, r0, ?_, by simp⟩
    exact (((Below.refl _ _).alloc (Nat.le_refl _) _).alloc (by simp) _).alloc (by simp; omega) _
  obtain ⟨vd, od, hav⟩ : ∃ b o, av = some ⟨b, o, none⟩ := by
    rcases hv with q | ⟨b, o, h, _⟩
    · omega
    · exact ⟨b, o, h⟩
  have vcell : ((w.alloc (.cells #[.slice ak 2 ck, .slice bk sk dk] 43)).alloc (.cells #[.slice av 2 cv, .slice bv sv dv] 43)).cell? ⟨vd, od + 1, none⟩ = some (.int .i64 (e : Int)) := by
    rcases hv with q | ⟨b, o, h, g, hc⟩
    · omega
    · rw [hav] at h
      injection h with h
      injection h with h1 h2
      subst h1 h2
      have := (hc 1 (by decide)).1
      rw [vD] at this
      have bl : Below w.heap.size w ((w.alloc (.cells #[.slice ak 2 ck, .slice bk sk dk] 43)).alloc (.cells #[.slice av 2 cv, .slice bv sv dv] 43)) := ((Below.refl _ _).alloc (Nat.le_refl _) _).alloc (by simp) _
      exact (bl.cell (p := ⟨vd, od + 1, none⟩) (by show vd < w.heap.size; omega)).trans this
  have HQ := hide hq
  have HK := hide hk
  have HK' := hide hk'
  have HV := hide hv
  have HV' := hide hv'
  have WT0 := hide wt0
  have nI : (n : Int) ≤ 4096 := by omega
  obtain ⟨W, hW⟩ : ∃ W, aw A Sk c = W := ⟨_, rfl⟩
  have HWE := hide (fun s => (congrFun hW s).symm)
  have wr' : ∀ s, 0 ≤ W s ∧ W s < 2147483647 := fun s => by rw [← hW]; exact aw_rng _ _ _ _
  have WR := hide wr'
  rw [hW]
  rw [hav] at HV vcell WT0 hW0 ⊢
  clear hq hk hk' hv hv' wt0 hW hav wr'
  go_enter Try.func50, Try.ntmps50
  go_wp2_with fail
  go_loopw [12, 13] (fun t i wx => ∃ s : Nat, f ≤ s ∧ s ≤ n ∧ t = .int .i64 (totS W f s) ∧ i = .int .i64 (s : Int) ∧ WT w wx (.slice ak 2 ck) (.slice bk sk dk) (.slice (some ⟨vd, od, none⟩) 2 cv) (.slice bv sv dv) e (fun j => accS W (fun s => Sv (s * e + j)) f s)) (fun _ i _ => n - (intOf i).toNat)
  case atStart => exact ⟨f, by omega, hf, by rw [totS_low W f f (by omega)], rfl, WT0.out.same (fun j hj => accS_low _ _ f f (by omega))⟩
  case round =>
    clear WT0 hW0 vcell
    obtain ⟨s, hfs, hsn, rfl, rfl, wt⟩ := hrel
    have WTH := hide wt
    by_cases hlt : s < n
    · have sn : (s : Int) < (n : Int) := by omega
      have bb := wt.bb
      have hBx : B ≤ wr.heap.size := Nat.le_trans hB bb.size
      have hsc : s * c + c ≤ sk := by
        have : (s + 1) * c ≤ m * c := Nat.mul_le_mul_right _ (by omega)
        rw [Nat.add_mul, Nat.one_mul] at this; omega
      have hse : s * e + e ≤ sv := by
        have : (s + 1) * e ≤ m * e := Nat.mul_le_mul_right _ (by omega)
        rw [Nat.add_mul, Nat.one_mul] at this; omega
      have C1 := hide (rowF B ak bk sk ck dk s c Dk Sk wr hBx (HK.out.below (bb.mono hB)) (HK'.out.below (bb.mono hB)) kD (by omega) dk' c1 hsc)
      obtain ⟨x0, x1⟩ := wt.bk
      have tr := totS_rng W f s
      have TU := hide (totS_up W f s hfs)
      clear wt bb
      go_wp2_with fail
      refine C1.out.mono ?_; rintro e' w1 ⟨a1, cap1, rfl, i1, b1⟩
      have WT1 := hide (WTH.out.below b1)
      have C2 := hide (dotF B aq a1 c cq cap1 A (fun t => Sk (s * c + t)) w1 (HQ.out.below (WT1.out.bb.mono hB)) i1 (by omega))
      have dr := dotS_rng A (fun t => Sk (s * c + t)) c
      have EW := hide (show W s = pl 1 (ti (dotS A (fun t => Sk (s * c + t)) c) (dotS A (fun t => Sk (s * c + t)) c)) from HWE.out s)
      have ws := WR.out s
      generalize dotS A (fun t => Sk (s * c + t)) c = d at *
      clear C1 i1 b1 x0 x1 WTH
      go_wp2_with fail
      refine C2.out.mono ?_; rintro e' w2 ⟨rfl, hw⟩
      have hw := hw.symm
      subst hw
      clear C2
      go_wp2_with fail
      refine (Base.implTimes d d _ (by omega) (by omega) (by omega) (by omega)).mono ?_; rintro e' w2 ⟨rfl, hw⟩
      have hw := hw.symm
      subst hw
      have tt := ti_rng d d
      unfold ti at tt EW
      generalize d % 2147483647 * (d % 2147483647) % 2147483647 = dd at *
      go_wp2_with fail
      refine (Base.implPlus 1 dd _ (by omega) (by omega) (by omega) (by omega)).mono ?_; rintro e' w2 ⟨rfl, hw⟩
      have hw := hw.symm
      subst hw
      rw [show (1 + dd) % 2147483647 = W s from EW.out.symm]
      clear EW tt dr
      generalize hWs : W s = ww at *
      generalize hts : totS W f s = ts at *
      go_wp2_with fail
      refine (Base.implPlus ts ww _ (by omega) (by omega) (by omega) (by omega)).mono ?_; rintro e' w2 ⟨rfl, hw⟩
      have hw := hw.symm
      subst hw
      rw [show (ts + ww) % 2147483647 = totS W f (s + 1) from TU.out.symm]
      obtain ⟨ts1, hts1⟩ : ∃ ts1, totS W f (s + 1) = ts1 := ⟨_, rfl⟩
      have HT1 := hide hts1
      rw [hts1]
      clear hts1 TU
      have C3 := hide (rowF B (some ⟨vd, od, none⟩) bv sv cv dv s e Dv Sv w1 (Nat.le_trans hB WT1.out.bb.size) (HV.out.below (WT1.out.bb.mono hB)) (HV'.out.below (WT1.out.bb.mono hB)) vD (by omega) dv' e1 hse)
      obtain ⟨x0, x1⟩ := WT1.out.bv
      go_wp2_with fail
      refine C3.out.mono ?_; rintro e' w2 ⟨a2, cap2, rfl, i2, b2⟩
      have WT2 := hide (WT1.out.below b2)
      have I2 := hide i2
      clear WT1 C3 x0 x1 b2 i2
      go_wp2_with fail
      go_loopw [48] (fun i wx => ∃ j : Nat, j ≤ e ∧ i = .int .i64 (j : Int) ∧ WT w wx (.slice ak 2 ck) (.slice bk sk dk) (.slice (some ⟨vd, od, none⟩) 2 cv) (.slice bv sv dv) e (fun t => if t < j then accS W (fun s => Sv (s * e + t)) f (s + 1) else accS W (fun s => Sv (s * e + t)) f s) ∧ Below w.heap.size w2 wx) (fun i _ => e - (intOf i).toNat)
      case atStart => exact ⟨0, by omega, rfl, WT2.out.same (fun j hj => by simp), Below.refl _ _⟩
      case round =>
        obtain ⟨j, hj, rfl, wt3, b3⟩ := hrel
        have WT3 := hide wt3
        have B3 := hide b3
        clear wt3 b3
        by_cases hlj : j < e
        · have jI : (j : Int) < (e : Int) := by omega
          rcases I2.out.below (B3.out.mono hB) with q | ⟨b2', o2', rfl, g2, hc2⟩
          · omega
          obtain ⟨k2, l2⟩ := hc2 j hlj
          dsimp only at k2 l2
          obtain ⟨k3, k4, _⟩ := WT3.out.rw' j hlj
          simp only [Nat.lt_irrefl, if_false] at k3
          have ar := accS_rng W (fun s => Sv (s * e + j)) f s
          have AU := hide (accS_up W (fun s => Sv (s * e + j)) f s hfs)
          have AR := hide (accS_rng W (fun s => Sv (s * e + j)) f (s + 1))
          rw [hWs] at AU
          unfold bd at l2
          clear hc2 g2
          have AE := hide (show ∀ y, accS W (fun s => Sv (s * e + j)) f (s + 1) = y → accS W (fun s => Sv (s * e + j)) f (s + 1) = y from fun _ h => h)
          obtain ⟨ac, hac⟩ : ∃ ac, accS W (fun s => Sv (s * e + j)) f s = ac := ⟨_, rfl⟩
          obtain ⟨x, hx⟩ : ∃ x, Sv (s * e + j) = x := ⟨_, rfl⟩
          rw [hac] at AU k3 ar
          rw [hx] at k2 l2
          have AU2 := hide (show accS W (fun s => Sv (s * e + j)) f (s + 1) = (ac + ww % 2147483647 * (x % 2147483647) % 2147483647) % 2147483647 by have := AU.out; rw [hx] at this; exact this)
          obtain ⟨p, hp⟩ : ∃ p, ww % 2147483647 * (x % 2147483647) % 2147483647 = p := ⟨_, rfl⟩
          have pr' : 0 ≤ p ∧ p < 2147483647 := by rw [← hp]; exact ti_rng ww x
          have CT := hide (fun (X : World) => Base.implTimes ww x X (by omega) (by omega) l2.1 l2.2)
          have CP := hide (fun (X : World) => Base.implPlus ac p X (by omega) (by omega) (by omega) (by omega))
          rw [hp] at CT AU2
          clear AU AE hac hx hp
          go_wp2_with fail
          go_region_with (first | (go_at_call 66; refine (CT.out _).mono ?_; rintro e' w4 ⟨rfl, hw⟩; have hw := hw.symm; subst hw) | (go_at_call 65; refine (CP.out _).mono ?_; rintro e' w4 ⟨rfl, hw⟩; have hw := hw.symm; subst hw))
          all_goals go_wp2_with fail
          all_goals go_roundw
          all_goals first
            | (simp [intOf]; omega)
            | (refine ⟨j + 1, by omega, by go_num, ?_, ?_⟩
               · rw [← AU2.out]
                 refine (WT.same (WT.set WT3.out j _ (bd_of AR.out)) (fun t ht => ?_)).drew
                 by_cases c0 : t = j
                 · subst c0; simp
                 · by_cases c2 : t < j
                   · simp [c0, c2]; omega
                   · simp [c0, c2]; omega
               · exact (B3.out.setCell (by show w.heap.size ≤ w.heap.size + 1 + 1; omega) _).drew)
        · obtain rfl : j = e := by omega
          have hlj' : decide ((j : Int) < (j : Int)) = false := decide_eq_false (by omega)
          go_wp2_with fail
          go_roundw
          case rel => exact ⟨s + 1, by omega, by omega, by rw [HT1.out], by go_num, WT3.out.same (fun t ht => by simp [ht])⟩
          case measure => simp [intOf]; omega
    · obtain rfl : s = n := by omega
      have hlt' : decide ((s : Int) < (s : Int)) = false := decide_eq_false (by omega)
      have tr := totS_rng W f s
      clear wt hlt
      have WVE := hide (fun j => show wv W Sv e f s j = accS W (fun s => Sv (s * e + j)) f s % 2147483647 * (Num.pw (totS W f s % 2147483647) 2147483645 % 2147483647) % 2147483647 from rfl)
      generalize totS W f s = ts at *
      go_wp2_with fail
      refine (Base.implInverse ts _ (by omega) (by omega)).mono ?_; rintro e' w2 ⟨rfl, hw⟩
      have hw := hw.symm
      subst hw
      have sr := Num.pw_bd (ts % 2147483647) 2147483645
      generalize Num.pw (ts % 2147483647) 2147483645 = sh at *
      go_wp2_with fail
      go_loopw [69] (fun i wx => ∃ j : Nat, j ≤ e ∧ i = .int .i64 (j : Int) ∧ WT w wx (.slice ak 2 ck) (.slice bk sk dk) (.slice (some ⟨vd, od, none⟩) 2 cv) (.slice bv sv dv) e (fun t => if t < j then wv W Sv e f s t else accS W (fun s => Sv (s * e + t)) f s)) (fun i _ => e - (intOf i).toNat)
      case atStart => exact ⟨0, by omega, rfl, WTH.out.same (fun j hj => by simp)⟩
      case round =>
        obtain ⟨j, hj, rfl, wt3⟩ := hrel
        have WT3 := hide wt3
        clear wt3 WTH
        by_cases hlj : j < e
        · have jI : (j : Int) < (e : Int) := by omega
          obtain ⟨k3, k4, _⟩ := WT3.out.rw' j hlj
          simp only [Nat.lt_irrefl, if_false] at k3
          have ar := accS_rng W (fun s => Sv (s * e + j)) f s
          have WE := hide (WVE.out j)
          have wr2 : 0 ≤ wv W Sv e f s j ∧ wv W Sv e f s j < 2147483647 := ti_rng _ _
          have WR2 := hide wr2
          obtain ⟨ac, hac⟩ : ∃ ac, accS W (fun s => Sv (s * e + j)) f s = ac := ⟨_, rfl⟩
          rw [hac] at WE k3 ar
          have CT := hide (fun (X : World) => Base.implTimes ac sh X (by omega) (by omega) (by omega) (by omega))
          rw [← WE.out] at CT
          clear hac WE
          go_wp2_with fail
          refine (CT.out _).mono ?_; rintro e' w4 ⟨rfl, hw⟩
          have hw := hw.symm
          subst hw
          go_wp2_with fail
          go_roundw
          case rel =>
            refine ⟨j + 1, by omega, by go_num, ?_⟩
            refine WT.same (WT.set WT3.out j _ (bd_of WR2.out)) (fun t ht => ?_)
            by_cases c0 : t = j
            · subst c0; simp
            · by_cases c2 : t < j
              · simp [c0, c2]; omega
              · simp [c0, c2]; omega
          case measure => simp [intOf]; omega
        · obtain rfl : j = e := by omega
          have hlj' : decide ((j : Int) < (j : Int)) = false := decide_eq_false (by omega)
          go_wp2_with fail
          go_ret
          exact ⟨_, rfl, by omega, WT3.out.sz, WT3.out.rw'.same (fun t ht => by simp [ht]), WT3.out.bb⟩
end Vo
end Go.Proofs.Ytjlmbeachanlfaa

/- Attention: which tensors go together, the program's side. -/
namespace Go.Proofs.Ytjlmbeachanlfaa
namespace Vo
open Go.ChangeShapes Go.WideShapes Go.ChangeAt Go.RowKit Go.Joins Go.Sort
open Vl Vp Vr
set_option linter.unusedVariables false
set_option linter.unusedSimpArgs false
/-- the three go together -/
def AttOk (q k v : TV) : Prop := (q.ok = true ∧ q.r = 2) ∧ (k.ok = true ∧ k.r = 2) ∧ (v.ok = true ∧ v.r = 2) ∧ q.D 1 = k.D 1 ∧ k.D 0 = v.D 0 ∧ q.D 0 ≤ k.D 0 ∧ q.D 0 * k.D 0 * (k.D 1 + v.D 1) ≤ 65536
def three (q k v : TV) (i : Nat) : TV := if i = 0 then q else if i = 1 then k else v
set_option maxRecDepth 100000 in
set_option maxHeartbeats 4000000 in
theorem attendOkF (B : Nat) (q k v : TV) (w : World) (hB : B ≤ w.heap.size) (hq : q.read B w) (hk : k.read B w) (hv : v.read B w) (lq : (q.r : Int) ≤ 1048576 ∧ (q.s : Int) ≤ 1048576) (lk : (k.r : Int) ≤ 1048576 ∧ (k.s : Int) ≤ 1048576) (lv : (v.r : Int) ≤ 1048576 ∧ (v.s : Int) ≤ 1048576) (r : Bool) (hr : r = true ↔ AttOk q k v) :
    Calls Try.prog 49 #[.agg #[.slice q.a q.r q.cap, .slice q.b q.s q.dap], .agg #[.slice k.a k.r k.cap, .slice k.b k.s k.dap], .agg #[.slice v.a v.r v.cap, .slice v.b v.s v.dap]] w fun e w' => e = .returned (.bool r) ∧ Below w.heap.size w w' := by
  obtain ⟨W0, hW0⟩ : ∃ W0, (((w.alloc (.cells #[.slice q.a q.r q.cap, .slice q.b q.s q.dap] 43)).alloc (.cells #[.slice k.a k.r k.cap, .slice k.b k.s k.dap] 43)).alloc (.cells #[.slice v.a v.r v.cap, .slice v.b v.s v.dap] 43)).alloc (.cells #[.slice q.a q.r q.cap, .slice q.b q.s q.dap, .slice k.a k.r k.cap, .slice k.b k.s k.dap, .slice v.a v.r v.cap, .slice v.b v.s v.dap] 43) = W0 := ⟨_, rfl⟩
  have s0 : W0.heap.size = w.heap.size + 1 + 1 + 1 + 1 := by rw [← hW0]; simp
  have bl : Below w.heap.size w W0 := by rw [← hW0]; exact ((((Below.refl _ _).alloc (Nat.le_refl _) _).alloc (by simp) _).alloc (by simp; omega) _).alloc (by simp; omega) _
  have n0 : Bx W0 w.heap.size (.slice q.a q.r q.cap) (.slice q.b q.s q.dap) := by rw [← hW0]; exact ⟨by simp [go_sem], by simp [go_sem]⟩
  have n1 : Bx W0 (w.heap.size + 1) (.slice k.a k.r k.cap) (.slice k.b k.s k.dap) := by rw [← hW0]; exact ⟨by simp [go_sem], by simp [go_sem]⟩
  have n2 : Bx W0 (w.heap.size + 1 + 1) (.slice v.a v.r v.cap) (.slice v.b v.s v.dap) := by rw [← hW0]; exact ⟨by simp [go_sem], by simp [go_sem]⟩
  have tc : ∀ i, i < 3 → W0.cell? ⟨w.heap.size + 1 + 1 + 1, i * 2, none⟩ = some (.slice (three q k v i).a (three q k v i).r (three q k v i).cap) ∧ W0.cell? ⟨w.heap.size + 1 + 1 + 1, i * 2 + 1, none⟩ = some (.slice (three q k v i).b (three q k v i).s (three q k v i).dap) := by
    intro i hi
    have : i = 0 ∨ i = 1 ∨ i = 2 := by omega
    rw [← hW0]
    rcases this with rfl | rfl | rfl
    · exact ⟨by simp [go_sem, three], by simp [go_sem, three]⟩
    · exact ⟨by simp [go_sem, three], by simp [go_sem, three]⟩
    · exact ⟨by simp [go_sem, three], by simp [go_sem, three]⟩
  have tr : ∀ i, i < 3 → (three q k v i).read B W0 ∧ ((three q k v i).r : Int) ≤ 1048576 ∧ ((three q k v i).s : Int) ≤ 1048576 := by
    intro i hi
    have : i = 0 ∨ i = 1 ∨ i = 2 := by omega
    rcases this with rfl | rfl | rfl
    · exact ⟨hq.below (bl.mono hB), lq⟩
    · exact ⟨hk.below (bl.mono hB), lk⟩
    · exact ⟨hv.below (bl.mono hB), lv⟩
  have HR := hide hr
  have N0 := hide n0
  have N1 := hide n1
  have N2 := hide n2
  have TC := hide tc
  have TR := hide tr
  have BL := hide bl
  have S0 := hide s0
  have RQ := hide (hq.below (bl.mono hB))
  have RK := hide (hk.below (bl.mono hB))
  have RV := hide (hv.below (bl.mono hB))
  clear n0 n1 n2 tc tr bl s0 hr hq hk hv
  go_enter Try.func49, Try.ntmps49
  go_wp2_with fail
  go_loopw [14] (fun i wx => ∃ j : Nat, j ≤ 3 ∧ i = .int .i64 (j : Int) ∧ (∀ i, i < j → (three q k v i).ok = true ∧ (three q k v i).r = 2) ∧ Below W0.heap.size W0 wx) (fun i _ => 3 - (intOf i).toNat)
  case atStart => exact ⟨0, by omega, rfl, fun i hi => by omega, Below.refl _ _⟩
  case round =>
    clear hW0
    obtain ⟨j, hj, rfl, hok, bb⟩ := hrel
    have HOK := hide hok
    have BB := hide bb
    clear hok bb
    by_cases hlt : j < 3
    · have jI : (j : Int) < 3 := by omega
      obtain ⟨c0, c1⟩ := TC.out j hlt
      obtain ⟨⟨i0, i1⟩, l0, l1⟩ := TR.out j hlt
      have z0 := S0.out
      have hBW : B ≤ W0.heap.size := by omega
      have c0' := (BB.out.cell (p := ⟨w.heap.size + 1 + 1 + 1, j * 2, none⟩) (by show w.heap.size + 1 + 1 + 1 < W0.heap.size; omega)).trans c0
      have c1' := (BB.out.cell (p := ⟨w.heap.size + 1 + 1 + 1, j * 2 + 1, none⟩) (by show w.heap.size + 1 + 1 + 1 < W0.heap.size; omega)).trans c1
      have HN := hide (fun h => show r = false by
        have := HR.out
        cases r
        · rfl
        · have h2 := this.1 rfl
          have : j = 0 ∨ j = 1 ∨ j = 2 := by omega
          rcases this with rfl | rfl | rfl
          · exact absurd h2.1 h
          · exact absurd h2.2.1 h
          · exact absurd h2.2.2.1 h : ¬ ((three q k v j).ok = true ∧ (three q k v j).r = 2) → r = false)
      have C1 := hide (fun (X : World) (hX : Below W0.heap.size W0 X) => tensorOk B (three q k v j).a (three q k v j).b (three q k v j).r (three q k v j).s (three q k v j).cap (three q k v j).dap (three q k v j).D (three q k v j).S X (Nat.le_trans hBW hX.size) (i0.below (hX.mono hBW)) (i1.below (hX.mono hBW)) l0 l1)
      obtain ⟨t, ht⟩ : ∃ t, three q k v j = t := ⟨_, rfl⟩
      have HT := hide ht
      rw [ht] at c0' c1' C1 HN l0
      have eok : t.ok = tok t.r t.s t.D t.S := rfl
      have EOK := hide eok
      have bA := hide (show ∀ o, Below W0.heap.size W0 (wr.alloc o) from fun o => BB.out.alloc BB.out.size o)
      have sw := BB.out.size
      clear c0 c1 i0 i1 ht eok
      go_wp2_with fail
      refine (C1.out _ (bA.out _)).mono ?_; rintro e w1 ⟨rfl, b1⟩
      have B1 := hide ((bA.out (.cells #[.slice t.a t.r t.cap, .slice t.b t.s t.dap] 43)).trans (b1.mono (bA.out _).size))
      have k0 := (b1.cell (p := ⟨wr.heap.size, 0, none⟩) (by simp)).trans (show (wr.alloc (.cells #[.slice t.a t.r t.cap, .slice t.b t.s t.dap] 43)).cell? ⟨wr.heap.size, 0, none⟩ = some (.slice t.a t.r t.cap) by simp [go_sem])
      clear b1 C1 c0' c1'
      cases hto : tok t.r t.s t.D t.S
      · have hrf := HN.out (fun h => by rw [EOK.out, hto] at h; exact absurd h.1 (by decide))
        subst hrf
        go_wp2_with fail
        go_ret
        exact ⟨rfl, BL.out.trans (B1.out.mono BL.out.size)⟩
      · by_cases h2 : t.r = 2
        · have h2' : ((t.r : Int) == 2) = true := by rw [beq_iff_eq]; omega
          go_wp2_with fail
          go_roundw
          case rel =>
            refine ⟨j + 1, by omega, by go_num, fun i hi => ?_, B1.out⟩
            by_cases c : i = j
            · subst c; rw [HT.out]; exact ⟨EOK.out.trans hto, h2⟩
            · exact HOK.out i (by omega)
          case measure => simp [intOf]; omega
        · have h2' : ((t.r : Int) == 2) = false := by rw [beq_eq_false_iff_ne]; omega
          have hrf := HN.out (fun h => h2 h.2)
          subst hrf
          clear h2
          go_wp2_with fail
          go_ret
          exact ⟨rfl, BL.out.trans (B1.out.mono BL.out.size)⟩
    · obtain rfl : j = 3 := by omega
      have z0 := S0.out
      have oq := HOK.out 0 (by decide)
      have ok' := HOK.out 1 (by decide)
      have ov := HOK.out 2 (by decide)
      have hBW : B ≤ W0.heap.size := by omega
      obtain ⟨x0, x1⟩ := N0.out.below BB.out (by omega)
      obtain ⟨y0, y1⟩ := N1.out.below BB.out (by omega)
      obtain ⟨z0', z1⟩ := N2.out.below BB.out (by omega)
      have three0 : three q k v 0 = q := rfl
      have three1 : three q k v 1 = k := rfl
      have three2 : three q k v 2 = v := rfl
      rw [three0] at oq
      rw [three1] at ok'
      rw [three2] at ov
      have rq := (RQ.out.below (BB.out.mono hBW)).1
      have rk := (RK.out.below (BB.out.mono hBW)).1
      have rv := (RV.out.below (BB.out.mono hBW)).1
      rw [oq.2] at rq x0
      rw [ok'.2] at rk y0
      rw [ov.2] at rv z0'
      obtain ⟨dq, tq, _⟩ := tok_split (show tok 2 q.s q.D q.S = true by rw [← oq.2]; exact oq.1)
      obtain ⟨dk, tk, _⟩ := tok_split (show tok 2 k.s k.D k.S = true by rw [← ok'.2]; exact ok'.1)
      obtain ⟨dv, tv, _⟩ := tok_split (show tok 2 v.s v.D v.S = true by rw [← ov.2]; exact ov.1)
      have q0b := dok_len dq (j := 0) (by decide)
      have q1b := dok_len dq (j := 1) (by decide)
      have k0b := dok_len dk (j := 0) (by decide)
      have k1b := dok_len dk (j := 1) (by decide)
      have v0b := dok_len dv (j := 0) (by decide)
      have v1b := dok_len dv (j := 1) (by decide)
      rcases rq with h | ⟨bq, oq', eq, _, hcq⟩
      · omega
      rcases rk with h | ⟨bk, ok'', ek, _, hck⟩
      · omega
      rcases rv with h | ⟨bv, ov', ev, _, hcv⟩
      · omega
      rw [eq] at x0
      rw [ek] at y0
      rw [ev] at z0'
      have cq0 := (hcq 0 (by decide)).1
      have cq1 := (hcq 1 (by decide)).1
      have ck0 := (hck 0 (by decide)).1
      have ck1 := (hck 1 (by decide)).1
      have cv0 := (hcv 0 (by decide)).1
      have cv1 := (hcv 1 (by decide)).1
      rw [Nat.add_zero] at cq0 ck0 cv0
      have BE := hide (BL.out.trans (BB.out.mono BL.out.size))
      have HA := hide (show AttOk q k v ↔ (q.D 1 = k.D 1 ∧ k.D 0 = v.D 0 ∧ q.D 0 ≤ k.D 0 ∧ q.D 0 * k.D 0 * (k.D 1 + v.D 1) ≤ 65536) from ⟨fun h => h.2.2.2, fun h => ⟨oq, ok', ov, h⟩⟩)
      have HRR := hide (HR.out.trans HA.out)
      clear hcq hck hcv dq dk dv tq tk tv oq ok' ov HOK HA HR TC TR RQ RK RV N0 N1 N2 BB hlt three0 three1 three2
      obtain ⟨e0, h0⟩ : ∃ x, q.D 0 = x := ⟨_, rfl⟩
      obtain ⟨e1, h1⟩ : ∃ x, q.D 1 = x := ⟨_, rfl⟩
      obtain ⟨f0, h2⟩ : ∃ x, k.D 0 = x := ⟨_, rfl⟩
      obtain ⟨f1, h3⟩ : ∃ x, k.D 1 = x := ⟨_, rfl⟩
      obtain ⟨g0, h4⟩ : ∃ x, v.D 0 = x := ⟨_, rfl⟩
      obtain ⟨g1, h5⟩ : ∃ x, v.D 1 = x := ⟨_, rfl⟩
      rw [h0, h1, h2, h3, h4, h5] at HRR
      rw [h0] at cq0 q0b
      rw [h1] at cq1 q1b
      rw [h2] at ck0 k0b
      rw [h3] at ck1 k1b
      rw [h4] at cv0 v0b
      rw [h5] at cv1 v1b
      clear h0 h1 h2 h3 h4 h5
      by_cases a1 : e1 = f1
      rotate_left
      · have b1 : (e1 != f1) = true := bne_iff_ne.2 a1
        have hrf : r = false := by cases r; rfl; exact absurd (HRR.out.1 rfl).1 a1
        subst hrf
        clear a1
        go_wp2_with fail
        go_quiet (fail)
        go_wp2_with fail
        go_ret
        exact ⟨rfl, BE.out.trans ((below_draws _ _ _).mono BE.out.size)⟩
      have b1 : (e1 != f1) = false := by rw [a1]; simp
      by_cases a2 : f0 = g0
      rotate_left
      · have b2 : (f0 != g0) = true := bne_iff_ne.2 a2
        have hrf : r = false := by cases r; rfl; exact absurd (HRR.out.1 rfl).2.1 a2
        subst hrf
        clear a2 a1
        go_wp2_with fail
        go_quiet (fail)
        go_wp2_with fail
        go_ret
        exact ⟨rfl, BE.out.trans ((below_draws _ _ _).mono BE.out.size)⟩
      have b2 : (f0 != g0) = false := by rw [a2]; simp
      by_cases a3 : e0 ≤ f0
      rotate_left
      · have b3 : decide (f0 < e0) = true := decide_eq_true (by omega)
        have b3' : decide (e0 > f0) = true := decide_eq_true (by omega)
        have hrf : r = false := by cases r; rfl; exact absurd (HRR.out.1 rfl).2.2.1 a3
        subst hrf
        clear a2 a1 a3
        go_wp2_with fail
        go_quiet (fail)
        go_wp2_with fail
        go_ret
        exact ⟨rfl, BE.out.trans ((below_draws _ _ _).mono BE.out.size)⟩
      have b3 : decide (f0 < e0) = false := decide_eq_false (by omega)
      have b3' : decide (e0 > f0) = false := decide_eq_false (by omega)
      have hrr : r = decide (e0 * f0 * (f1 + g1) ≤ 65536) := by
        rw [Bool.eq_iff_iff, HRR.out, decide_eq_true_eq]
        exact ⟨fun h => h.2.2.2, fun h => ⟨a1, a2, a3, h⟩⟩
      obtain ⟨p, hp⟩ : ∃ p, e0 * f0 = p := ⟨_, rfl⟩
      have p0 : 0 ≤ p := by rw [← hp]; exact Int.mul_nonneg (by omega) (by omega)
      have p1 : p ≤ 4096 * 4096 := by rw [← hp]; exact Int.mul_le_mul (by omega) (by omega) (by omega) (by omega)
      obtain ⟨u, hu⟩ : ∃ u, p * (f1 + g1) = u := ⟨_, rfl⟩
      have u0 : 0 ≤ u := by rw [← hu]; exact Int.mul_nonneg (by omega) (by omega)
      have u1 : u ≤ (4096 * 4096) * 8192 := by rw [← hu]; exact Int.mul_le_mul (by omega) (by omega) (by omega) (by omega)
      have w1 : IntKind.i64.wrap p = p := by rw [IntKind.wrap_i64]; omega
      have w2 : IntKind.i64.wrap (f1 + g1) = f1 + g1 := by rw [IntKind.wrap_i64]; omega
      have w3 : IntKind.i64.wrap u = u := by rw [IntKind.wrap_i64]; omega
      rw [hp, hu] at hrr
      subst hrr
      clear a1 a2 a3 HRR
      go_wp2_with fail
      go_quiet (fail)
      go_wp2_with fail
      go_quiet (fail)
      go_wp2_with fail
      go_ret
      exact ⟨rfl, BE.out.trans ((below_draws _ _ _).trans (below_draws _ _ _))⟩
end Vo
end Go.Proofs.Ytjlmbeachanlfaa
