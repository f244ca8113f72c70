/- elementwise over Moves and rows of Moves; slices.Concat of both (written by tools/genfk.py). -/
import Derived.Test.YtkllbolamgmmaaaFj
import Derived.Test.YtkllbolamgmmaaaFh
import Derived.Lib.AppendZeros
import Derived.Laws.AppendOwnNone
namespace Go.Proofs.Ytkllbolamgmmaaa
namespace Vo
open Go.ChangeShapes Go.WideShapes Go.ChangeAt Go.RowKit Go.Joins Go.Sort
open Vl
set_option linter.unusedVariables false
set_option linter.unusedSimpArgs false
/-- a list as its raw cells -/
structure RL where
  a : Option Addr
  n : Nat
  c : Nat
  cs : List Value
def rsum (P : Nat → RL) : Nat → Nat | 0 => 0 | n + 1 => rsum P n + (P n).n
def rcat (P : Nat → RL) : Nat → List Value | 0 => [] | n + 1 => rcat P n ++ (P n).cs
theorem rsum_mono {P : Nat → RL} {k n : Nat} (h : k ≤ n) : rsum P k ≤ rsum P n := by
  induction n with
  | zero => have : k = 0 := by omega
            subst this; exact Nat.le_refl _
  | succ n ih =>
    by_cases e : k = n + 1
    · subst e; exact Nat.le_refl _
    · have := ih (by omega)
      show _ ≤ rsum P n + (P n).n
      omega
/-- lists that are read: their heads stand at block q -/
structure RLs (z B : Nat) (w : World) (q o m : Nat) (P : Nat → RL) : Prop where
  hq : q < B
  head : ∀ i, i < m → w.cell? ⟨q, o + i, none⟩ = some (.slice (P i).a (P i).n (P i).c)
  len : ∀ i, i < m → (P i).cs.length = (P i).n * z
  one : ∀ i, i < m → ∀ u ∈ (P i).cs, u.oneCell' = true
  nn : ∀ i, i < m → (P i).a = none → (P i).n = 0 ∧ (P i).c = 0
  lt : ∀ i, i < m → ∀ ad, (P i).a = some ad → (P i).n ≠ 0 → ad.block < B
  row : ∀ i, i < m → ∀ ad, (P i).a = some ad → ∀ j u, (P i).cs[j]? = some u → w.cell? (ad.add j) = some u
theorem RLs.below {z B : Nat} {w w' : World} {q o m : Nat} {P : Nat → RL} (h : RLs z B w q o m P) (hb : Below B w w') : RLs z B w' q o m P :=
  ⟨h.hq, fun i hi => (hb.cell (p := ⟨q, o + i, none⟩) h.hq).trans (h.head i hi), h.len, h.one, h.nn, h.lt, fun i hi ad e j u hu => by
    have hN : (P i).n ≠ 0 := by
      intro e
      have := h.len i hi
      rw [e, Nat.zero_mul] at this
      rw [List.length_eq_zero_iff.1 this] at hu
      simp at hu
    have hbk : (ad.add j).block = ad.block := by unfold Addr.add; split <;> rfl
    rw [hb.cell (p := ad.add j) (by rw [hbk]; exact h.lt i hi ad e hN)]
    exact h.row i hi ad e j u hu⟩
theorem own_zerosM (w : World) (e : TypeId) (z : Value) (s n : Nat) (hz : z.cells.size = s) (hn : n ≤ maxLen) : (w.drew.alloc (.cells (Builtin.zeroCells z.cells n ++ Builtin.zeroCells z.cells (grownCap w n 0 e - n)) e)).ownsRow w.heap.size e s (.slice (some ⟨w.heap.size, 0, none⟩) 0 (grownCap w n 0 e)) 0 [] := by
  have hge := grownCap_ge w n 0 e
  refine ⟨by simp, .inr ⟨w.heap.size, _, _, rfl, Nat.le_refl _, heap_alloc_new w.drew _, Nat.zero_le _, grownCap_le_maxLen w n 0 e hn, ?_, by simp⟩⟩
  have q : ∀ m, (Builtin.zeroCells z.cells m).size = m * s := fun m => by simp [Builtin.zeroCells, hz]
  rw [Array.size_append, q, q, ← Nat.add_mul]
  congr 1
  omega
theorem infoIntM : (Try.prog.info? 3).map (fun i => (i.zero, i.size, i.bytes)) = some (some (.int .i64 0), 1, 8) := by kernel_rfl
set_option maxRecDepth 100000 in
theorem growMM (n : Nat) (hn : (n : Int) ≤ 1073741824) (w : World) : Calls Try.prog 39 #[.slice none 0 0, .int .i64 (n : Int)] w fun e w' => ∃ v, e = .returned v ∧ w'.ownsRow w.heap.size 30 1 v 0 [] ∧ Below w.heap.size w w' := by
  obtain ⟨i0, hi0, hz0, hz1, hz2⟩ := info_parts infoMoveS
  have n0 : decide ((n : Int) < 0) = false := decide_eq_false (by omega)
  by_cases h : n = 0
  · subst h
    go_enter Try.func39, Try.ntmps39
    go_wp2_with fail
    go_ret
    exact ⟨_, rfl, ⟨by simp, .inl ⟨rfl, rfl⟩⟩, Below.refl _ _⟩
  · have n1 : (0 : Int) < (n : Int) := by omega
    have n2 : 0 < n := by omega
    have hr := Lib.run_append_nil_zeros (P := Try.prog) w 22 3 22 30 i0 (.slice none 0 0) .i64 .i64 Try.underlying22 Try.underlying3 hi0 hz0 n n2 (by omega) (by omega) (by rw [hz2]; omega)
    have OW := hide (own_zerosM w 30 (.slice none 0 0) 1 n rfl (by unfold maxLen; omega))
    have hge := grownCap_ge w n 0 30
    clear h
    generalize grownCap w n 0 30 = cp at *
    go_enter Try.func39, Try.ntmps39
    go_wp2_with (at_builtin; refine Lib.wpList_append_run _ rfl _ _ 22 3 rfl _ _ rfl rfl _ _ hr ?_)
    go_ret
    exact ⟨_, rfl, OW.out, ⟨rfl, rfl, rfl, by simp, fun k hk => heap_alloc_old w.drew _ (by show k < w.heap.size; omega)⟩⟩
set_option maxRecDepth 100000 in
set_option maxHeartbeats 1000000 in
theorem concatMM (B : Nat) (q off m cap : Nat) (P : Nat → RL) (w : World) (hB : B ≤ w.heap.size) (h : RLs 1 B w q off m P) (hm : (m : Int) ≤ 4096) (hs : (rsum P m : Int) ≤ 16777216) :
    Calls Try.prog 22 #[.slice (some ⟨q, off, none⟩) m cap] w fun e w' => ∃ v, e = .returned v ∧ w'.ownsRow w.heap.size 30 1 v (rsum P m) (rcat P m) ∧ Below w.heap.size w w' := by
  obtain ⟨i0, hi0, hz0, hz1, hz2⟩ := info_parts infoMoveS
  have H := hide h
  have MO := hide (fun k (hk : k ≤ m) => rsum_mono (P := P) hk)
  have HS := hide (fun k => (show rsum P (k + 1) = rsum P k + (P k).n from rfl))
  clear h
  go_enter Try.func22, Try.ntmps22
  go_wp2_with fail
  go_loop [3, 11] (fun z i => ∃ k : Nat, k ≤ m ∧ i = .int .i64 (k : Int) ∧ z = .int .i64 (rsum P k : Nat)) (fun _ i => m - (intOf i).toNat)
  case atStart => exact ⟨0, Nat.zero_le _, rfl, rfl⟩
  case round =>
    obtain ⟨k, hk, rfl, rfl⟩ := hrel
    by_cases hlt : k < m
    · have kI : (k : Int) < (m : Int) := by omega
      have m1 := MO.out (k + 1) (by omega)
      have m2 := HS.out k
      have c1 := H.out.head k hlt
      have nn : decide (((rsum P k : Nat) : Int) + ((P k).n : Int) < 0) = false := decide_eq_false (by omega)
      have bnd : ((rsum P k : Nat) : Int) + ((P k).n : Int) ≤ 16777216 := by omega
      have E := hide m2
      clear m1 m2
      generalize rsum P k = s at *
      generalize (P k).n = r at *
      generalize (P k).a = ra at *
      generalize (P k).c = rc at *
      go_wp2_with fail
      go_round
      case rel => exact ⟨k + 1, by omega, by go_num, by rw [E.out]; go_num⟩
      case measure => simp [intOf]; omega
    · have ek : k = m := by omega
      subst ek
      have kI : decide ((k : Int) < (k : Int)) = false := decide_eq_false (by omega)
      go_wp2_with fail
      refine (growMM (rsum P k) (by omega) w).mono ?_
      rintro e w1 ⟨v, rfl, o1, b1⟩
      have O1 := hide o1
      have B1 := hide b1
      clear o1 b1
      go_wp2_with fail
      go_loopw [6, 27] (fun v i wx => ∃ t : Nat, t ≤ k ∧ i = .int .i64 (t : Int) ∧ wx.ownsRow w.heap.size 30 1 v (rsum P t) (rcat P t) ∧ Below w.heap.size w wx) (fun _ i _ => k - (intOf i).toNat)
      case atStart => exact ⟨0, Nat.zero_le _, rfl, O1.out, B1.out⟩
      case round =>
        obtain ⟨X, rfl⟩ : ∃ X, X = wr := ⟨_, rfl⟩
        obtain ⟨t, ht, rfl, hown, hbb⟩ := hrel
        have OW := hide hown
        have BB := hide hbb
        have zX := hbb.size
        clear hown hbb
        by_cases htl : t < k
        · have tI : (t : Int) < (k : Int) := by omega
          have m1 := MO.out (t + 1) (by omega)
          have E := hide (HS.out t)
          have E2 := hide (show rcat P (t + 1) = rcat P t ++ (P t).cs from rfl)
          have e0 := HS.out t
          have HX := H.out.below (BB.out.mono hB)
          have c1 := HX.head t htl
          have LEN := hide (HX.len t htl)
          have ONE := hide (HX.one t htl)
          have NN := hide (HX.nn t htl)
          have ROW := hide (HX.row t htl)
          have bnd : rsum P t + (P t).n ≤ 16777216 := by omega
          clear HX m1 e0
          obtain ⟨s, hss⟩ : ∃ s, rsum P t = s := ⟨_, rfl⟩
          rw [hss] at OW E bnd
          clear hss
          cases hpa : (P t).a with
          | none =>
            obtain ⟨r0, c0⟩ := NN.out hpa
            rw [hpa, r0, c0] at c1
            have L0 := LEN.out
            rw [r0, Nat.zero_mul] at L0
            have CS := hide (List.length_eq_zero_iff.1 L0)
            rw [r0] at E
            clear hpa r0 c0 L0 bnd
            go_wp2_with (at_builtin; refine wpList_append_own_none rfl _ _ 22 rfl w.heap.size 30 i0 1 Try.underlying22 hi0 _ _ _ rfl OW.out rfl ?_)
            go_roundw
            case rel => exact ⟨t + 1, by omega, by go_num, by rw [E.out, E2.out, CS.out, List.append_nil]; exact OW.out, BB.out⟩
            case measure => simp [intOf]; omega
          | some ad =>
            have NEWS := hide (ROW.out ad hpa)
            rw [hpa] at c1
            clear hpa NN ROW
            obtain ⟨news, hnw⟩ : ∃ nw, (P t).cs = nw := ⟨_, rfl⟩
            rw [hnw] at NEWS LEN ONE E2
            clear hnw
            generalize (P t).c = lc at *
            obtain ⟨r, hrr⟩ : ∃ r, (P t).n = r := ⟨_, rfl⟩
            rw [hrr] at E bnd LEN c1
            clear hrr
            go_wp2_with (at_builtin; refine wpList_append_own _ rfl _ _ 22 rfl w.heap.size 30 i0 (.slice none 0 0) 1 24 Try.underlying22 hi0 hz0 hz1 hz2 rfl (by decide) _ _ _ rfl OW.out ad r lc news rfl LEN.out NEWS.out ONE.out (by unfold maxLen; omega) (by omega) (by omega) ?_; intro v' X1 hown1 hgrow1 _)
            go_roundw
            case rel =>
              refine ⟨t + 1, by omega, by go_num, by rw [E.out, E2.out]; exact hown1, BB.out.grown hgrow1 (by omega) (fun b hb => (OW.out.lt b hb).1)⟩
            case measure => simp [intOf]; omega
        · have ek2 : t = k := by omega
          subst ek2
          have tI : decide ((t : Int) < (t : Int)) = false := decide_eq_false (by omega)
          go_wp2_with fail
          go_ret
          exact ⟨_, rfl, OW.out, BB.out⟩
set_option maxRecDepth 100000 in
theorem growM1 (n : Nat) (hn : (n : Int) ≤ 1073741824) (w : World) : Calls Try.prog 48 #[.slice none 0 0, .int .i64 (n : Int)] w fun e w' => ∃ v, e = .returned v ∧ w'.ownsRow w.heap.size 33 4 v 0 [] ∧ Below w.heap.size w w' := by
  obtain ⟨i0, hi0, hz0, hz1, hz2⟩ := info_parts infoMove
  have n0 : decide ((n : Int) < 0) = false := decide_eq_false (by omega)
  by_cases h : n = 0
  · subst h
    go_enter Try.func48, Try.ntmps48
    go_wp2_with fail
    go_ret
    exact ⟨_, rfl, ⟨by simp, .inl ⟨rfl, rfl⟩⟩, Below.refl _ _⟩
  · have n1 : (0 : Int) < (n : Int) := by omega
    have n2 : 0 < n := by omega
    have hr := Lib.run_append_nil_zeros (P := Try.prog) w 30 3 30 33 i0 (.agg #[.int .i64 0, .int .i64 0, .int .i64 0, .bool false]) .i64 .i64 Try.underlying30 Try.underlying3 hi0 hz0 n n2 (by omega) (by omega) (by rw [hz2]; omega)
    have OW := hide (own_zerosM w 33 (.agg #[.int .i64 0, .int .i64 0, .int .i64 0, .bool false]) 4 n rfl (by unfold maxLen; omega))
    have hge := grownCap_ge w n 0 33
    clear h
    generalize grownCap w n 0 33 = cp at *
    go_enter Try.func48, Try.ntmps48
    go_wp2_with (at_builtin; refine Lib.wpList_append_run _ rfl _ _ 30 3 rfl _ _ rfl rfl _ _ hr ?_)
    go_ret
    exact ⟨_, rfl, OW.out, ⟨rfl, rfl, rfl, by simp, fun k hk => heap_alloc_old w.drew _ (by show k < w.heap.size; omega)⟩⟩
set_option maxRecDepth 100000 in
set_option maxHeartbeats 1000000 in
theorem concatM1 (B : Nat) (q off m cap : Nat) (P : Nat → RL) (w : World) (hB : B ≤ w.heap.size) (h : RLs 4 B w q off m P) (hm : (m : Int) ≤ 4096) (hs : (rsum P m : Int) ≤ 16777216) :
    Calls Try.prog 45 #[.slice (some ⟨q, off, none⟩) m cap] w fun e w' => ∃ v, e = .returned v ∧ w'.ownsRow w.heap.size 33 4 v (rsum P m) (rcat P m) ∧ Below w.heap.size w w' := by
  obtain ⟨i0, hi0, hz0, hz1, hz2⟩ := info_parts infoMove
  have H := hide h
  have MO := hide (fun k (hk : k ≤ m) => rsum_mono (P := P) hk)
  have HS := hide (fun k => (show rsum P (k + 1) = rsum P k + (P k).n from rfl))
  clear h
  go_enter Try.func45, Try.ntmps45
  go_wp2_with fail
  go_loop [3, 11] (fun z i => ∃ k : Nat, k ≤ m ∧ i = .int .i64 (k : Int) ∧ z = .int .i64 (rsum P k : Nat)) (fun _ i => m - (intOf i).toNat)
  case atStart => exact ⟨0, Nat.zero_le _, rfl, rfl⟩
  case round =>
    obtain ⟨k, hk, rfl, rfl⟩ := hrel
    by_cases hlt : k < m
    · have kI : (k : Int) < (m : Int) := by omega
      have m1 := MO.out (k + 1) (by omega)
      have m2 := HS.out k
      have c1 := H.out.head k hlt
      have nn : decide (((rsum P k : Nat) : Int) + ((P k).n : Int) < 0) = false := decide_eq_false (by omega)
      have bnd : ((rsum P k : Nat) : Int) + ((P k).n : Int) ≤ 16777216 := by omega
      have E := hide m2
      clear m1 m2
      generalize rsum P k = s at *
      generalize (P k).n = r at *
      generalize (P k).a = ra at *
      generalize (P k).c = rc at *
      go_wp2_with fail
      go_round
      case rel => exact ⟨k + 1, by omega, by go_num, by rw [E.out]; go_num⟩
      case measure => simp [intOf]; omega
    · have ek : k = m := by omega
      subst ek
      have kI : decide ((k : Int) < (k : Int)) = false := decide_eq_false (by omega)
      go_wp2_with fail
      refine (growM1 (rsum P k) (by omega) w).mono ?_
      rintro e w1 ⟨v, rfl, o1, b1⟩
      have O1 := hide o1
      have B1 := hide b1
      clear o1 b1
      go_wp2_with fail
      go_loopw [6, 27] (fun v i wx => ∃ t : Nat, t ≤ k ∧ i = .int .i64 (t : Int) ∧ wx.ownsRow w.heap.size 33 4 v (rsum P t) (rcat P t) ∧ Below w.heap.size w wx) (fun _ i _ => k - (intOf i).toNat)
      case atStart => exact ⟨0, Nat.zero_le _, rfl, O1.out, B1.out⟩
      case round =>
        obtain ⟨X, rfl⟩ : ∃ X, X = wr := ⟨_, rfl⟩
        obtain ⟨t, ht, rfl, hown, hbb⟩ := hrel
        have OW := hide hown
        have BB := hide hbb
        have zX := hbb.size
        clear hown hbb
        by_cases htl : t < k
        · have tI : (t : Int) < (k : Int) := by omega
          have m1 := MO.out (t + 1) (by omega)
          have E := hide (HS.out t)
          have E2 := hide (show rcat P (t + 1) = rcat P t ++ (P t).cs from rfl)
          have e0 := HS.out t
          have HX := H.out.below (BB.out.mono hB)
          have c1 := HX.head t htl
          have LEN := hide (HX.len t htl)
          have ONE := hide (HX.one t htl)
          have NN := hide (HX.nn t htl)
          have ROW := hide (HX.row t htl)
          have bnd : rsum P t + (P t).n ≤ 16777216 := by omega
          clear HX m1 e0
          obtain ⟨s, hss⟩ : ∃ s, rsum P t = s := ⟨_, rfl⟩
          rw [hss] at OW E bnd
          clear hss
          cases hpa : (P t).a with
          | none =>
            obtain ⟨r0, c0⟩ := NN.out hpa
            rw [hpa, r0, c0] at c1
            have L0 := LEN.out
            rw [r0, Nat.zero_mul] at L0
            have CS := hide (List.length_eq_zero_iff.1 L0)
            rw [r0] at E
            clear hpa r0 c0 L0 bnd
            go_wp2_with (at_builtin; refine wpList_append_own_none rfl _ _ 30 rfl w.heap.size 33 i0 4 Try.underlying30 hi0 _ _ _ rfl OW.out rfl ?_)
            go_roundw
            case rel => exact ⟨t + 1, by omega, by go_num, by rw [E.out, E2.out, CS.out, List.append_nil]; exact OW.out, BB.out⟩
            case measure => simp [intOf]; omega
          | some ad =>
            have NEWS := hide (ROW.out ad hpa)
            rw [hpa] at c1
            clear hpa NN ROW
            obtain ⟨news, hnw⟩ : ∃ nw, (P t).cs = nw := ⟨_, rfl⟩
            rw [hnw] at NEWS LEN ONE E2
            clear hnw
            generalize (P t).c = lc at *
            obtain ⟨r, hrr⟩ : ∃ r, (P t).n = r := ⟨_, rfl⟩
            rw [hrr] at E bnd LEN c1
            clear hrr
            go_wp2_with (at_builtin; refine wpList_append_own _ rfl _ _ 30 rfl w.heap.size 33 i0 (.agg #[.int .i64 0, .int .i64 0, .int .i64 0, .bool false]) 4 32 Try.underlying30 hi0 hz0 hz1 hz2 rfl (by decide) _ _ _ rfl OW.out ad r lc news rfl LEN.out NEWS.out ONE.out (by unfold maxLen; omega) (by omega) (by omega) ?_; intro v' X1 hown1 hgrow1 _)
            go_roundw
            case rel =>
              refine ⟨t + 1, by omega, by go_num, by rw [E.out, E2.out]; exact hown1, BB.out.grown hgrow1 (by omega) (fun b hb => (OW.out.lt b hb).1)⟩
            case measure => simp [intOf]; omega
        · have ek2 : t = k := by omega
          subst ek2
          have tI : decide ((t : Int) < (t : Int)) = false := decide_eq_false (by omega)
          go_wp2_with fail
          go_ret
          exact ⟨_, rfl, OW.out, BB.out⟩
theorem make_mov (n : Nat) (hn : (n : Int) ≤ 1048576) (w : World) : (Instr.makeSlice 30 (.int .i64 n) (.int .i64 n)).run Try.prog w = .ok (.slice (some ⟨w.heap.size, 0, none⟩) n n) (w.alloc (.cells (madeCells #[.int .i64 0, .int .i64 0, .int .i64 0, .bool false] (n * 4)) 33)) := by
  obtain ⟨i, h1, h2⟩ := Option.map_eq_some_iff.1 infoMove
  simp only [Prod.mk.injEq] at h2
  obtain ⟨hz, hs, hb⟩ := h2
  have := run_make (P := Try.prog) w 30 33 i (.agg #[.int .i64 0, .int .i64 0, .int .i64 0, .bool false]) Try.underlying30 h1 hz .i64 .i64 n n (by omega) (Int.le_refl _) (by rw [hb]; omega) (by omega)
  rw [hs] at this
  simpa [Value.cells] using this
theorem make_movS (n : Nat) (hn : (n : Int) ≤ 1048576) (w : World) : (Instr.makeSlice 22 (.int .i64 n) (.int .i64 n)).run Try.prog w = .ok (.slice (some ⟨w.heap.size, 0, none⟩) n n) (w.alloc (.cells (madeCells #[.slice none 0 0] n) 30)) := by
  obtain ⟨i, h1, h2⟩ := Option.map_eq_some_iff.1 infoMoveS
  simp only [Prod.mk.injEq] at h2
  obtain ⟨hz, hs, hb⟩ := h2
  have := run_make (P := Try.prog) w 22 30 i (.slice none 0 0) Try.underlying22 h1 hz .i64 .i64 n n (by omega) (Int.le_refl _) (by rw [hb]; omega) (by omega)
  rw [hs] at this
  simpa [Value.cells] using this
def zMov : Mov := ⟨0, 0, 0, false⟩
theorem om_made (w : World) (n : Nat) : OM w.heap.size (w.alloc (.cells (madeCells #[.int .i64 0, .int .i64 0, .int .i64 0, .bool false] (n * 4)) 33)) (some ⟨w.heap.size, 0, none⟩) (List.replicate n zMov) := by
  refine .inr ⟨_, rfl, Nat.le_refl _, by simp, fun j u hu => ?_, fun j => by simp [go_sem]⟩
  have hj : j < (mvb (List.replicate n zMov)).length := (List.getElem?_eq_some_iff.1 hu).1
  rw [mvb_len, List.length_replicate] at hj
  obtain ⟨hq, hm⟩ := mvb_cases hu
  rw [List.getElem_replicate] at hm
  rw [World.cell?_alloc_at _ _ _ _ rfl]
  have d4 : j % 4 < 4 := by omega
  rcases (by omega : j % 4 = 0 ∨ j % 4 = 1 ∨ j % 4 = 2 ∨ j % 4 = 3) with d | d | d | d
  all_goals (rw [d] at hm; simp [mcs, zMov] at hm; subst hm; simp [madeCells, d, hj])
theorem list_step {α : Type} (f : Nat → α) (z : α) {N k : Nat} (h : k < N) : ((List.range k).map f ++ List.replicate (N - k) z).set k (f k) = (List.range (k + 1)).map f ++ List.replicate (N - (k + 1)) z := by
  rw [List.set_append_right _ _ (by simp), List.length_map, List.length_range, Nat.sub_self, show N - k = N - (k + 1) + 1 by omega, List.replicate_succ, List.set_cons_zero, List.range_succ, List.map_append]
  simp
set_option maxRecDepth 100000 in
set_option maxHeartbeats 1000000 in
theorem elementwiseMv (N : Nat) (F : Nat) (cs : Array Value) (f : Nat → Mov) (w : World) (hN : (N : Int) ≤ 4096) (eF : ∀ args w, (callFunc F args).run Try.prog w = .ok (.enter F args) w)
    (hf : ∀ (k : Nat) (W : World), k < N → Below w.heap.size w W → Calls Try.prog F (#[.int .i64 k] ++ cs) W fun e W' => e = .returned (.agg #[.int .i64 (f k).f, .int .i64 (f k).t, .int .i64 (f k).c, .bool (f k).d]) ∧ Below W.heap.size W W') :
    Calls Try.prog 37 #[.int .i64 N, .func (.func F) #[] cs] w fun e w' => e = .returned (.slice (some ⟨w.heap.size, 0, none⟩) N N) ∧ OM w.heap.size w' (some ⟨w.heap.size, 0, none⟩) ((List.range N).map f) ∧ Below w.heap.size w w' := by
  have hmk := make_mov N (by omega) w
  obtain ⟨W0, hW0⟩ : ∃ W0, w.alloc (.cells (madeCells #[.int .i64 0, .int .i64 0, .int .i64 0, .bool false] (N * 4)) 33) = W0 := ⟨_, rfl⟩
  have o0 := om_made w N
  rw [hW0] at o0 hmk
  have bl : Below w.heap.size w W0 := by rw [← hW0]; exact (Below.refl _ _).alloc (Nat.le_refl _) _
  have O0 := hide o0
  have BL := hide bl
  have HF := hide hf
  clear hf o0 bl hW0
  go_enter Try.func37, Try.ntmps37
  go_wp2_with fail
  clear hmk
  go_loopw [11] (fun i wx => ∃ k : Nat, k ≤ N ∧ i = .int .i64 k ∧ OM w.heap.size wx (some ⟨w.heap.size, 0, none⟩) ((List.range k).map f ++ List.replicate (N - k) zMov) ∧ Below w.heap.size w wx) (fun i _ => N - (intOf i).toNat)
  case atStart => exact ⟨0, Nat.zero_le _, rfl, O0.out, BL.out⟩
  case round =>
    obtain ⟨X, rfl⟩ : ∃ X, X = wr := ⟨_, rfl⟩
    obtain ⟨k, hk, rfl, ho, hb⟩ := hrel
    have HO := hide ho
    have HB := hide hb
    clear ho hb
    by_cases hlt : k < N
    · have hkI : (k : Int) < N := by omega
      have CK := hide (HF.out k X hlt HB.out)
      obtain ⟨x, hx⟩ : ∃ x, f k = x := ⟨_, rfl⟩
      rw [hx] at CK
      have LS := hide (show ((List.range k).map f ++ List.replicate (N - k) zMov).set k x = (List.range (k + 1)).map f ++ List.replicate (N - (k + 1)) zMov by rw [← hx]; exact list_step f zMov hlt)
      clear hx
      go_wp2_with fail
      refine CK.out.mono ?_
      rintro e X1 ⟨rfl, b1⟩
      have O1 := hide (HO.out.below b1)
      have B1 := hide (HB.out.trans (b1.mono HB.out.size))
      have kl : k < ((List.range k).map f ++ List.replicate (N - k) zMov).length := by simp; omega
      obtain ⟨g1, g2, g3⟩ : w.heap.size < X1.heap.size ∧ (∀ j u, (mvb ((List.range k).map f ++ List.replicate (N - k) zMov))[j]? = some u → X1.cell? ⟨w.heap.size, j, none⟩ = some u) ∧ ∀ j, X1.frozen? ⟨w.heap.size, j, none⟩ = false := by
        rcases O1.out with q | ⟨g', e, h1, h2, h3, h4⟩
        · rw [q] at kl; simp at kl
        · cases e; exact ⟨h2, h3, h4⟩
      obtain ⟨c0, c1, c2, c3⟩ := mov_at (o := 0) (w := X1) (b := w.heap.size) (fun i u hu => by rw [Nat.zero_add]; exact g2 i u hu) k kl
      rw [Nat.zero_add] at c0 c1 c2 c3
      have f0 := g3 (k * 4)
      have f1 := g3 (k * 4 + 1)
      have f2 := g3 (k * 4 + 2)
      have f3 := g3 (k * 4 + 3)
      have OS := om_set O1.out kl x
      rw [LS.out] at OS
      have OS := hide OS
      clear b1 CK g2 g3
      go_wp2_with fail
      go_roundw
      case rel =>
        exact ⟨k + 1, by omega, by go_num, OS.out, B1.out.trans ((kept_mov _ _ _ _ _ _ _ _ _ _).below (Nat.le_of_lt g1) (fun b e => by rw [show b = w.heap.size from e]; exact Nat.le_refl _))⟩
      case measure => simp [intOf]; omega
    · have e : k = N := by omega
      subst e
      have kI : decide ((k : Int) < (k : Int)) = false := decide_eq_false (by omega)
      go_wp2_with fail
      go_ret
      refine ⟨rfl, ?_, HB.out⟩
      have := HO.out
      rw [Nat.sub_self, List.replicate_zero, List.append_nil] at this
      exact this
set_option maxRecDepth 100000 in
set_option maxHeartbeats 1000000 in
theorem elementwiseMS (N : Nat) (F : Nat) (cs : Array Value) (f : Nat → List Mov) (w : World) (hN : (N : Int) ≤ 4096) (eF : ∀ args w, (callFunc F args).run Try.prog w = .ok (.enter F args) w)
    (hf : ∀ (k : Nat) (W : World), k < N → Below w.heap.size w W → Calls Try.prog F (#[.int .i64 k] ++ cs) W fun e W' => ∃ a c, e = .returned (.slice a (f k).length c) ∧ OM W.heap.size W' a (f k) ∧ (a = none → (f k).length = 0 ∧ c = 0) ∧ Below W.heap.size W W') :
    Calls Try.prog 18 #[.int .i64 N, .func (.func F) #[] cs] w fun e w' => ∃ L, e = .returned (.slice (some ⟨w.heap.size, 0, none⟩) N N) ∧ RowsM w.heap.size w' (.slice (some ⟨w.heap.size, 0, none⟩) N N) L ∧ cnt L = (List.range N).map f ∧ (∀ x ∈ L, x.a = none → x.l.length = 0 ∧ x.c = 0) ∧ Below w.heap.size w w' := by
  have hmk := make_movS N (by omega) w
  obtain ⟨W0, hW0⟩ : ∃ W0, w.alloc (.cells (madeCells #[.slice none 0 0] N) 30) = W0 := ⟨_, rfl⟩
  have o0 : W0.ownsRow w.heap.size 30 1 (.slice (some ⟨w.heap.size, 0, none⟩) N N) N (hdM [] ++ List.replicate (N - 0) (.slice none 0 0)) := by
    have := World.ownsRow_lit (base := w.heap.size) (e := 30) (size := 1) w (madeCells #[.slice none 0 0] N) N (Nat.le_refl _) (by unfold maxLen; omega) (by simp [madeCells])
    rw [toList_madeCells_one, hW0] at this
    exact this
  rw [hW0] at hmk
  have bl : Below w.heap.size w W0 := by rw [← hW0]; exact (Below.refl _ _).alloc (Nat.le_refl _) _
  have O0 := hide o0
  have BL := hide bl
  have HF := hide hf
  clear hf o0 bl hW0
  go_enter Try.func18, Try.ntmps18
  go_wp2_with fail
  clear hmk
  go_loopw [11] (fun i wx => ∃ (k : Nat) (L : List VM), k ≤ N ∧ i = .int .i64 k ∧ L.length = k ∧ wx.ownsRow w.heap.size 30 1 (.slice (some ⟨w.heap.size, 0, none⟩) N N) N (hdM L ++ List.replicate (N - k) (.slice none 0 0)) ∧ (∀ x ∈ L, OM (w.heap.size + 1) wx x.a x.l) ∧ L.Pairwise Apt ∧ cnt L = (List.range k).map f ∧ (∀ x ∈ L, x.a = none → x.l.length = 0 ∧ x.c = 0) ∧ Below w.heap.size w wx) (fun i _ => N - (intOf i).toNat)
  case atStart => exact ⟨0, [], Nat.zero_le _, rfl, rfl, O0.out, fun x hx => by simp at hx, List.Pairwise.nil, rfl, fun x hx => by simp at hx, BL.out⟩
  case round =>
    obtain ⟨X, rfl⟩ : ∃ X, X = wr := ⟨_, rfl⟩
    obtain ⟨k, L, hk, rfl, hl, ho, hw, hp, hc, hn, hb⟩ := hrel
    have HL := hide hl
    have HO := hide ho
    have HW := hide hw
    have HP := hide hp
    have HC := hide hc
    have HN := hide hn
    have HB := hide hb
    have zX := hb.size
    have zX1 : w.heap.size < X.heap.size := (ho.lt _ rfl).2
    clear ho hw hp hc hn hb hl
    by_cases hlt : k < N
    · have hkI : (k : Int) < N := by omega
      have CK := hide (HF.out k X hlt HB.out)
      obtain ⟨l, hx⟩ : ∃ l, f k = l := ⟨_, rfl⟩
      rw [hx] at CK
      have FK := hide hx
      obtain ⟨ln, hln⟩ : ∃ ln, l.length = ln := ⟨_, rfl⟩
      rw [hln] at CK
      have LN := hide hln
      clear hx hln
      go_wp2_with fail
      refine CK.out.mono ?_
      rintro e X1 ⟨a, c, rfl, ro, na, b1⟩
      have RO := hide ro
      have NA := hide na
      have O1 := hide (rows_kept (T := fun _ => False) HO.out (Kept.of_below b1) (fun _ _ q => q))
      have W1 := hide (fun x (hx : x ∈ L) => (HW.out x hx).below b1)
      have B1 := hide (HB.out.trans (b1.mono HB.out.size))
      have z1 : w.heap.size < X1.heap.size := Nat.lt_of_lt_of_le zX1 b1.size
      have c0 := O1.out.cellAt k (by omega)
      rw [List.getElem?_append_right (by rw [hdM_len, HL.out]; exact Nat.le_refl _), hdM_len, HL.out, Nat.sub_self, List.getElem?_replicate, if_pos (by omega)] at c0
      have f0 := O1.out.frozenAt k
      have ST := hide (O1.out.stored k (.slice a ln c)).1
      clear ro na b1 CK
      go_wp2_with fail
      go_roundw
      case rel =>
        have KS : Kept (· = w.heap.size) X1 (X1.setCell ⟨w.heap.size, k, none⟩ (.slice a ln c)) := Kept.setCell X1 ⟨w.heap.size, k, none⟩ _
        have ap : ∀ x ∈ L, Apt x ⟨a, c, l⟩ := fun x hx b q q' => by
          have := ((HW.out x hx).blk q).2
          have := (RO.out.blk q').1
          omega
        refine ⟨k + 1, L ++ [⟨a, c, l⟩], by omega, by go_num, by rw [List.length_append, HL.out]; rfl, ?_, fun x hx => ?_, ?_, ?_, fun x hx => ?_, B1.out.setCell (p := ⟨w.heap.size, k, none⟩) (Nat.le_refl _) _⟩
        · have := ST.out
          rw [List.set_append_right _ _ (by rw [hdM_len, HL.out]; exact Nat.le_refl _), hdM_len, HL.out, Nat.sub_self, show N - k = N - (k + 1) + 1 by omega, List.replicate_succ, List.set_cons_zero] at this
          rw [hdM_app, List.append_assoc, show hdM [(⟨a, c, l⟩ : VM)] = [Value.slice a ln c] by rw [← LN.out]; rfl]
          exact this
        · rcases List.mem_append.1 hx with m | m
          · exact (W1.out x m).kept KS (fun b q e => by have := ((W1.out x m).blk q).1; have e : b = w.heap.size := e; omega)
          · obtain rfl := List.mem_singleton.1 m
            exact ((RO.out.kept KS (fun b q e => by have := (RO.out.blk q).1; have e : b = w.heap.size := e; omega)).mono (by omega))
        · exact List.pairwise_append.2 ⟨HP.out, List.pairwise_singleton _ _, fun x hx y hy => by obtain rfl := List.mem_singleton.1 hy; exact ap x hx⟩
        · rw [cnt_app, HC.out, range_more, FK.out]; rfl
        · rcases List.mem_append.1 hx with m | m
          · exact HN.out x m
          · obtain rfl := List.mem_singleton.1 m
            intro e
            have := NA.out e
            exact ⟨LN.out.trans this.1, this.2⟩
      case measure => simp [intOf]; omega
    · have e : k = N := by omega
      subst e
      have kI : decide ((k : Int) < (k : Int)) = false := decide_eq_false (by omega)
      go_wp2_with fail
      go_ret
      refine ⟨L, rfl, ⟨?_, fun x hx => (HW.out x hx).mono (by omega), fun x hx b q e => ?_, HP.out⟩, HC.out, HN.out, HB.out⟩
      · have := HO.out
        rw [Nat.sub_self, List.replicate_zero, List.append_nil] at this
        rw [HL.out]
        exact this
      · have := ((HW.out x hx).blk q).1
        have e : w.heap.size = b := Option.some.inj e
        omega
end Vo
end Go.Proofs.Ytkllbolamgmmaaa
