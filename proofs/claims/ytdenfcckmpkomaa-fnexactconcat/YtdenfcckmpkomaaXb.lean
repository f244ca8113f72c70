/- Concat: the program's blocks. -/
import Derived.Test.YtdenfcckmpkomaaXa
import Derived.Test.YtdenfcckmpkomaaVaf
namespace Go.Proofs.Ytdenfcckmpkomaa
namespace Vo
open Go.ChangeShapes Go.WideShapes Go.ChangeAt Go.RowKit Go.Joins Go.Sort
open Vl Vp
set_option linter.unusedVariables false
set_option linter.unusedSimpArgs false
/-- how much the first j lay in a block -/
def cum (z : Nat → Nat) : Nat → Nat | 0 => 0 | j + 1 => cum z j + z j
theorem cum_le {z : Nat → Nat} {i j : Nat} (h : i ≤ j) : cum z i ≤ cum z j := by
  induction j with
  | zero => obtain rfl : i = 0 := by omega
            exact Nat.le_refl _
  | succ j ih =>
    by_cases c : i = j + 1
    · subst c; exact Nat.le_refl _
    · have := ih (by omega)
      show _ ≤ cum z j + z j
      omega
theorem ints_more (n m : Nat) (f g : Nat → Int) (h : ∀ t, t < m → g t = f (n + t)) : ints n f ++ ints m g = ints (n + m) f := by
  induction m with
  | zero => simp [ints]
  | succ m ih =>
    rw [← ints_succ m g, ← List.append_assoc, ih (fun t ht => h t (by omega)), h m (by omega), ints_succ]
    rfl
set_option maxHeartbeats 4000000 in
theorem joinedW (B : Nat) (a : Option Addr) (n cap k A Z : Nat) (z : Nat → Nat) (T : Nat → TV) (G : Nat → Int) (w : World) (hB : B ≤ w.heap.size) (h : TL B w a n T) (hn : (n : Int) ≤ 1048576) (n1 : 1 ≤ n)
    (hl : TLen n T 1048576) (hc : ∀ i, i < n → (T i).r ≤ (T i).cap ∧ (T i).s ≤ (T i).dap) (hk : ∀ i, i < n → k < (T i).r)
    (hA : sz k (T 0).D = (A : Int)) (hz : ∀ i, i < n → sz ((T i).r - k) (fun t => (T i).D (k + t)) = (z i : Int)) (hs : ∀ i, i < n → 1 ≤ z i ∧ A * z i = (T i).s)
    (hZ : cum z n = Z) (hm : A * Z ≤ 4096) (hG : ∀ blk i q, blk < A → i < n → q < z i → (T i).S (blk * z i + q) = G (blk * Z + cum z i + q)) :
    Calls Try.prog 58 #[.slice a n cap, .int .i64 k] w fun e w' => ∃ v, e = .returned v ∧ RowV w.heap.size w' v (A * Z) G ∧ Below w.heap.size w w' := by
  obtain ⟨i0, hi0, hz0, hz1, hz2⟩ := info_parts infoInt
  have H := hide h
  have HL := hide hl
  have HC := hide hc
  have HK := hide hk
  have HZ := hide hz
  have HS := hide hs
  have HG := hide hG
  have HM := hide hm
  have HQ := hide hZ
  have HA := hide hA
  have nI : (0 : Int) < n := by omega
  have A4 : A ≤ 1048576 := by
    obtain ⟨p1, p2⟩ := hs 0 (by omega)
    have p3 := (hl 0 (by omega)).2
    have : A ≤ A * z 0 := Nat.le_mul_of_pos_right _ p1
    omega
  obtain ⟨W0, hW0⟩ : ∃ W0, w.alloc (.cells #[] 3) = W0 := ⟨_, rfl⟩
  have own0 : RowV w.heap.size W0 (.slice (some ⟨w.heap.size, 0, none⟩) 0 0) 0 G := by
    rw [← hW0]
    exact ⟨⟨rfl, .inr ⟨w.heap.size, 0, #[], rfl, Nat.le_refl _, heap_alloc_new w _, Nat.le_refl _, by simp [maxLen], rfl, rfl⟩⟩, fun j hj => by omega⟩
  have b0 : Below w.heap.size w W0 := by rw [← hW0]; exact (Below.refl _ _).alloc (Nat.le_refl _) _
  have O0 := hide own0
  have B0 := hide b0
  rcases h.below (b0.mono hB) with q0 | ⟨blk0, off0, rfl, hb0, hc0⟩
  · omega
  obtain ⟨c0, c1, i00, i01⟩ := hc0 0 (by omega)
  rw [Nat.zero_mul, Nat.add_zero] at c0 c1
  have k0 := hk 0 (by omega)
  have r0 := (hl 0 (by omega)).1
  have q0 := (hc 0 (by omega)).1
  have kc : (k : Int) ≤ (T 0).cap := by omega
  have CS0 := hide (fun (cp : Nat) => Vs.sizeOf B (T 0).a k cp (T 0).D W0 (by
    rcases i00 with e | ⟨b, o, e, hb, hcs⟩
    · omega
    · exact .inr ⟨b, o, e, hb, fun t ht => hcs t (by omega)⟩) (by omega))
  clear h hl hc hk hA hz hs hZ hG hm own0 b0 hc0 i00 i01 c1 q0
  go_enter Try.func58, Try.ntmps58
  go_wp2_with fail
  refine (CS0.out _).mono ?_
  rintro e w1 ⟨rfl, hw⟩
  have hw := hw.symm
  subst hw
  rw [HA.out]
  clear CS0 hW0 kc c0
  go_wp2_with fail
  go_loopw [5, 18] (fun v i wx => ∃ blk : Nat, blk ≤ A ∧ i = .int .i64 blk ∧ RowV w.heap.size wx v (blk * Z) G ∧ Below w.heap.size w wx) (fun _ i _ => A - (intOf i).toNat)
  case atStart => exact ⟨0, Nat.zero_le _, rfl, by rw [Nat.zero_mul]; exact O0.out, B0.out⟩
  case round =>
    obtain ⟨X, rfl⟩ : ∃ X, X = wr := ⟨_, rfl⟩
    obtain ⟨blk, hb, rfl, hrow, hby⟩ := hrel
    have HR := hide hrow
    have HBY := hide hby
    clear hrow hby
    by_cases hlt : blk < A
    · have bI : (blk : Int) < A := by omega
      have wb : IntKind.i64.wrap ((blk : Int) + 1) = (blk : Int) + 1 := by rw [IntKind.wrap_i64]; omega
      go_wp2_with fail
      go_loopw [5, 23] (fun v i wx => ∃ j : Nat, j ≤ n ∧ i = .int .i64 j ∧ RowV w.heap.size wx v (blk * Z + cum z j) G ∧ Below w.heap.size w wx) (fun _ i _ => n - (intOf i).toNat)
      case atStart => exact ⟨0, Nat.zero_le _, rfl, HR.out, HBY.out⟩
      case round =>
        obtain ⟨Y, rfl⟩ : ∃ Y, Y = wr := ⟨_, rfl⟩
        obtain ⟨j, hj, rfl, hrow2, hby2⟩ := hrel
        have HR2 := hide hrow2
        have HBY2 := hide hby2
        clear hrow2 hby2
        by_cases hjt : j < n
        · have jI : (j : Int) < n := by omega
          have sY : w.heap.size ≤ Y.heap.size := HBY2.out.size
          rcases H.out.below (HBY2.out.mono hB) with q0 | ⟨tb, tf, et, htb, hct⟩
          · omega
          injection et with et
          injection et with et1 et2
          subst et1 et2
          obtain ⟨c0, c1, ia, ib⟩ := hct j hjt
          obtain ⟨z1, zs⟩ := HS.out j hjt
          have kr := HK.out j hjt
          obtain ⟨lr, ls⟩ := HL.out j hjt
          obtain ⟨cr, cs⟩ := HC.out j hjt
          obtain ⟨zj, ezj⟩ : ∃ zj, z j = zj := ⟨_, rfl⟩
          rw [ezj] at z1 zs
          have s1 : 1 ≤ (T j).s := by rw [← zs]; exact Nat.mul_pos (by omega) z1
          obtain ⟨ba, oa, ea⟩ : ∃ ba oa, (T j).a = some ⟨ba, oa, none⟩ := by
            rcases ia with e | ⟨b, o, e, _⟩
            · omega
            · exact ⟨b, o, e⟩
          obtain ⟨bb, ob, eb⟩ : ∃ bb ob, (T j).b = some ⟨bb, ob, none⟩ := by
            rcases ib with e | ⟨b, o, e, _⟩
            · omega
            · exact ⟨b, o, e⟩
          obtain ⟨u, hu⟩ : ∃ u, blk * zj = u := ⟨_, rfl⟩
          have uv : u + zj ≤ (T j).s := by
            have : (blk + 1) * zj ≤ A * zj := Nat.mul_le_mul_right _ (by omega)
            rw [Nat.add_mul, hu, zs] at this
            omega
          have tot : blk * Z + cum z j + zj ≤ 4096 := by
            have e1 : (blk + 1) * Z ≤ A * Z := Nat.mul_le_mul_right _ (by omega)
            have e2 := cum_le (z := z) (show j + 1 ≤ n by omega)
            rw [HQ.out] at e2
            have e3 : cum z (j + 1) = cum z j + z j := rfl
            rw [Nat.add_mul] at e1
            have := HM.out
            omega
          have EZ := hide (HZ.out j hjt)
          have bA : Below Y.heap.size Y (Y.alloc (.cells #[.slice (T j).a (T j).r (T j).cap, .slice (T j).b (T j).s (T j).dap] 26)) := (Below.refl _ _).alloc (Nat.le_refl _) _
          have IA := hide (ints_from (m := k) (q := (T j).r - k) (ia.below (bA.mono (Nat.le_trans hB sY))) ea (by omega))
          have IB := hide (ints_from (m := u) (q := zj) (ib.below (bA.mono (Nat.le_trans hB sY))) eb uv)
          rw [ea, eb] at bA
          rw [ea] at c0
          rw [eb] at c1
          rw [ea, eb] at IA IB
          have BA := hide bA
          have rI : (k : Int) ≤ (T j).r := by omega
          have cI : ((T j).cap = k) = False := eq_false (by omega)
          have e1 : (blk : Int) * (zj : Int) = (u : Int) := by rw [← hu, Int.natCast_mul]
          have e2 : ((blk : Int) + 1) * (zj : Int) = ((u + zj : Nat) : Int) := by rw [Int.add_mul, e1]; omega
          obtain ⟨v, hv⟩ : ∃ v, u + zj = v := ⟨_, rfl⟩
          rw [hv] at e2
          have wu : IntKind.i64.wrap (u : Int) = u := by rw [IntKind.wrap_i64]; omega
          have wv : IntKind.i64.wrap (v : Int) = v := by rw [IntKind.wrap_i64]; omega
          have uvI : (u : Int) ≤ v := by omega
          have vdI : (v : Int) ≤ (T j).dap := by omega
          have dI : ((T j).dap = u) = False := eq_false (by omega)
          have HV := hide hv
          have HU := hide hu
          have EZJ := hide ezj
          have ZS := hide zs
          have TOT := hide tot
          clear hct ia ib hv hu ezj zs tot bA ea eb
          go_wp2_with fail
          refine (Vs.sizeOf B _ ((T j).r - k) _ (fun t => (T j).D (k + t)) _ IA.out (by omega)).mono ?_
          rintro e w2 ⟨rfl, hw⟩
          have hw := hw.symm
          subst hw
          rw [EZ.out, EZJ.out]
          have OA := hide (HR2.out.below BA.out)
          have vu : v - u = zj := by have := HV.out; omega
          have NW := hide (ints_of (ad := ⟨bb, ob + u, none⟩) (r := v - u) (by rw [vu]; exact IB.out) rfl)
          have VU := hide vu
          have LM := hide (show blk * Z + cum z j + (v - u) ≤ 4096 by rw [vu]; exact TOT.out)
          clear vu
          go_wp2_with (at_builtin; refine wpList_append_own _ rfl _ _ 22 rfl w.heap.size 3 i0 (.int .i64 0) 1 8 Try.underlying22 hi0 hz0 hz1 hz2 rfl (by decide) _ _ _ rfl OA.out.1 ⟨bb, ob + u, none⟩ (v - u) _ (ints (v - u) (fun t => (T j).S (u + t))) rfl (by rw [ints_len]; omega) NW.out (ints_one _ _) (by have := LM.out; unfold maxLen; omega) (by have := LM.out; omega) (by simp; omega) ?_; intro v' w3 hown1 hgrow1 _; have HOW := hide hown1; have HGR := hide hgrow1; clear hown1 hgrow1)
          go_roundw
          case rel =>
            refine ⟨j + 1, by omega, by go_num, ⟨?_, ?_⟩, ?_⟩
            · have h3 := HOW.out
              rw [ints_more _ _ G _ (fun t ht => by
                have := HG.out blk j t hlt hjt (by rw [EZJ.out, ← VU.out]; exact ht)
                rw [EZJ.out, HU.out] at this
                exact this), VU.out, ← EZJ.out] at h3
              rw [show blk * Z + cum z (j + 1) = blk * Z + cum z j + z j from (Nat.add_assoc _ _ _).symm]
              exact h3
            · intro t ht
              by_cases c : t < blk * Z + cum z j
              · exact HR2.out.2 t c
              · have e : cum z (j + 1) = cum z j + z j := rfl
                have := HG.out blk j (t - (blk * Z + cum z j)) hlt hjt (by omega)
                rw [show blk * Z + cum z j + (t - (blk * Z + cum z j)) = t by omega, EZJ.out, HU.out] at this
                rw [← this]
                exact IB.out.bd (t - (blk * Z + cum z j)) (by have := EZJ.out; omega)
            · exact (HBY2.out.trans (BA.out.mono HBY2.out.size)).grown HGR.out (by simp; omega) (fun q hq => (HR2.out.lt hq).1)
          case measure => simp [intOf]; omega
        · obtain rfl : j = n := by omega
          go_wp2_with fail
          go_roundw
          case rel => exact ⟨blk + 1, by omega, by go_num, by
            have := HR2.out
            rw [HQ.out] at this
            rw [Nat.add_mul, Nat.one_mul]
            exact this, HBY2.out⟩
          case measure => simp [intOf]; omega
    · obtain rfl : blk = A := by omega
      go_wp2_with fail
      go_ret
      exact ⟨_, rfl, HR.out, HBY.out⟩
theorem cum_tot {L : Nat → Int} {b : Int} {n : Nat} (h : ∀ i, i < n → 1 ≤ L i) (hb : 1 ≤ b) {j : Nat} (hj : j ≤ n) : ((cum (fun i => (L i * b).toNat) j : Nat) : Int) = tot L j * b := by
  induction j with
  | zero => simp [cum, tot]
  | succ j ih =>
    have p : 0 ≤ L j * b := Int.mul_nonneg (by have := h j (by omega); omega) (by omega)
    show ((cum _ j + (L j * b).toNat : Nat) : Int) = (tot L j + L j) * b
    rw [Int.natCast_add, ih (by omega), Int.toNat_of_nonneg p, Int.add_mul]
theorem con_size {n k : Nat} {T : Nat → TV} (ho : ConOk n k T) (hd : dok (T 0).r (conD n k T) = true) : szR (conD n k T) (T 0).r = pr (T 0).D k * (tot (conL k T) n * conB k T) ∧ k < (T 0).r ∧ 1 ≤ pr (T 0).D k ∧ ∀ i, i < n → (((T i).s : Nat) : Int) = pr (T 0).D k * (conL k T i * conB k T) := by
  have n1 := ho.1
  obtain ⟨⟨t0, _, x0⟩, _⟩ := ho.2.2 0 (by omega)
  have k0 : k < (T 0).r := by omega
  have e : szR (conD n k T) (T 0).r = pr (conD n k T) (T 0).r := by
    rcases szR_cases (conD n k T) (T 0).r with q | q
    · have := (dok_iff.1 hd).2; omega
    · exact q.2.1
  refine ⟨?_, k0, pr_pos (fun j hj => (dok_len (tok_split t0).1 (by omega)).1), fun i hi => ?_⟩
  · rw [e, pr_axis _ k0]
    have e1 : pr (conD n k T) k = pr (T 0).D k := pr_same (fun j hj => up1_ne _ _ (by simp; omega))
    have e2 : conD n k T k = tot (conL k T) n := up1_at _ _ _
    have e3 : bhd (conD n k T) (T 0).r k = conB k T := bhd_up1 _ _ _ _
    rw [e1, e2, e3, Int.mul_assoc]
  · obtain ⟨⟨ti, _, xi⟩, er, ed⟩ := ho.2.2 i hi
    obtain ⟨d1, d2, _⟩ := tok_split ti
    rw [← d2]
    have e' : szR (T i).D (T i).r = pr (T i).D (T i).r := by
      rcases szR_cases (T i).D (T i).r with q | q
      · have := (dok_iff.1 d1).2; omega
      · exact q.2.1
    rw [e', pr_axis _ (show k < (T i).r by omega)]
    have e1 : pr (T i).D k = pr (T 0).D k := pr_same (fun j hj => ed j (by omega) (by simp; omega))
    have e3 : bhd (T i).D (T i).r k = conB k T := by
      unfold bhd conB bhd
      rw [er]
      exact pr_same (fun j hj => ed _ (by omega) (by simp; omega))
    rw [e1, e3, Int.mul_assoc]
    rfl
theorem joinedF (B : Nat) (a : Option Addr) (n cap k : Nat) (T : Nat → TV) (w : World) (hB : B ≤ w.heap.size) (h : TL B w a n T) (hl : TLen n T 1048576) (hc : ∀ i, i < n → (T i).r ≤ (T i).cap ∧ (T i).s ≤ (T i).dap) (ho : ConOk n k T) (hd : dok (T 0).r (conD n k T) = true) :
    Calls Try.prog 58 #[.slice a n cap, .int .i64 k] w fun e w' => ∃ v, e = .returned v ∧ RowV w.heap.size w' v (cntT (T 0).r (conD n k T)) (fun p => conS n k T p) ∧ Below w.heap.size w w' := by
  obtain ⟨e1, k0, pA, es⟩ := con_size ho hd
  have hp := ho.pos
  have hb := ho.bpos
  have n1 := ho.1
  have n6 := ho.2.1
  have N1 : 1 ≤ tot (conL k T) n := by have := tot_mono hp (i := 0) (j := n) (by omega) (Nat.le_refl _); have : tot (conL k T) 0 = 0 := rfl; omega
  have zz : ∀ i, i < n → 1 ≤ conL k T i * conB k T := fun i hi => by have := Int.mul_le_mul (hp i hi) hb (by omega) (by have := hp i hi; omega); omega
  have cN := cum_tot hp hb (Nat.le_refl n)
  have eA : ((pr (T 0).D k).toNat : Int) = pr (T 0).D k := Int.toNat_of_nonneg (by omega)
  have eT : cntT (T 0).r (conD n k T) = (pr (T 0).D k).toNat * cum (fun i => (conL k T i * conB k T).toNat) n := by
    have := cntT_cast (T 0).r (conD n k T)
    rw [e1] at this
    apply Int.ofNat.inj
    show ((cntT (T 0).r (conD n k T) : Nat) : Int) = (((pr (T 0).D k).toNat * cum (fun i => (conL k T i * conB k T).toNat) n : Nat) : Int)
    rw [this, Int.natCast_mul, eA, cN]
  have eZ : ∀ i, i < n → ((conL k T i * conB k T).toNat : Int) = conL k T i * conB k T := fun i hi => Int.toNat_of_nonneg (by have := zz i hi; omega)
  rw [eT]
  refine joinedW B a n cap k (pr (T 0).D k).toNat _ (fun i => (conL k T i * conB k T).toNat) T (fun p => conS n k T p) w hB h (by omega) n1 hl hc (fun i hi => by have := (ho.2.2 i hi).1.2.2; omega) ?_ ?_ ?_ rfl ?_ ?_
  · rw [eA]; exact sz_head (tok_split (ho.2.2 0 (by omega)).1.1).1 (by omega)
  · intro i hi
    obtain ⟨⟨ti, _, xi⟩, er, ed⟩ := ho.2.2 i hi
    rw [eZ i hi, sz_tail (tok_split ti).1 (by omega), pr_tail _ (by omega)]
    have e3 : bhd (T i).D (T i).r k = conB k T := by
      unfold bhd conB bhd
      rw [er]
      exact pr_same (fun j hj => ed _ (by omega) (by simp; omega))
    rw [e3]
    rfl
  · intro i hi
    refine ⟨by have := zz i hi; omega, ?_⟩
    apply Int.ofNat.inj
    show (((pr (T 0).D k).toNat * (conL k T i * conB k T).toNat : Nat) : Int) = (((T i).s : Nat) : Int)
    rw [Int.natCast_mul, eA, eZ i hi, es i hi]
  · rw [← eT]; have := cntT_le (T 0).r (conD n k T); omega
  · intro blk i q hblk hi hq
    have hq : q < (conL k T i * conB k T).toNat := hq
    have r := conS_row ho hi (blk : Int) (q : Int) (by omega) (by have := eZ i hi; omega)
    have c := cum_tot hp hb (Nat.le_of_lt hi)
    show _ = conS n k T ((blk * cum (fun i => (conL k T i * conB k T).toNat) n + cum (fun i => (conL k T i * conB k T).toNat) i + q : Nat) : Int)
    rw [Int.natCast_add, Int.natCast_add, Int.natCast_mul, cN, c, ← Int.mul_assoc, ← Int.add_mul, r]
    congr 1
    have : ((blk * (conL k T i * conB k T).toNat + q : Nat) : Int) = (blk : Int) * (conL k T i * conB k T) + q := by rw [Int.natCast_add, Int.natCast_mul, eZ i hi]
    show blk * (conL k T i * conB k T).toNat + q = _
    omega
end Vo
end Go.Proofs.Ytdenfcckmpkomaa
