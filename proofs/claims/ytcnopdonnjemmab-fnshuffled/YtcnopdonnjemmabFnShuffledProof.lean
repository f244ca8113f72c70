/-
  Proved: whatever the arguments, 'FnShuffled' returns true: the landed function answers as its model, and what came in reads as it did. No condition.
-/
import Derived.Test.YtcnopdonnjemmabRows
import Derived.Test.YtcnopdonnjemmabVl
import Derived.Test.YtcnopdonnjemmabIa
import Derived.Test.YtcnopdonnjemmabNea
import Derived.Test.YtcnopdonnjemmabIb
import Derived.Test.YtcnopdonnjemmabIc
import Derived.Test.YtcnopdonnjemmabIe
import Derived.Test.YtcnopdonnjemmabWg
import Derived.Test.YtcnopdonnjemmabWj
import Derived.Test.YtcnopdonnjemmabVp
import Derived.Test.YtcnopdonnjemmabVs
import Derived.Test.YtcnopdonnjemmabVq
import Derived.Test.YtcnopdonnjemmabVo
import Derived.Test.YtcnopdonnjemmabVm
import Derived.Test.YtcnopdonnjemmabVn
import Derived.Test.YtcnopdonnjemmabVc
import Derived.Test.YtcnopdonnjemmabWk
import Derived.Test.YtcnopdonnjemmabWl
import Derived.Test.YtcnopdonnjemmabNum
import Derived.Test.YtcnopdonnjemmabBase
import Derived.Test.YtcnopdonnjemmabPow
import Derived.Test.YtcnopdonnjemmabDraw
import Derived.Test.YtcnopdonnjemmabNef
import Derived.Test.YtcnopdonnjemmabWm
import Derived.WalkKit
import Derived.ProofKit
import Derived.OpenShut
import Derived.ShutString
import Derived.ChangeOld
import Derived.Below
import Derived.Lib.SmallJoins
import Derived.OpenVars
import Derived.ChangeVars
import Derived.Deep.RegionHeld3
namespace Go.Proofs.Ytcnopdonnjemmab.fnShuffled
open Go.ChangeShapes Go.WideShapes Go.ChangeAt Go.RowKit Go.Joins
open Go.ChangeMaps (open_string shut_string)
set_option linter.unusedVariables false
set_option linter.unusedSimpArgs false

theorem own : ownKnob Try.prog.godebug = none := by kernel_rfl
theorem laidOut : laidOutB Try.prog = true := by kernel_rfl

set_option maxRecDepth 100000 in
set_option maxHeartbeats 4000000 in
theorem walk (a0 : Option Addr) (len0 cap0 : Nat) (w : World) (w0 : Base.Code w.heap.size w a0 len0) :
    Calls Try.prog 5 #[.slice a0 len0 cap0] w fun e w' => e = .returned (.bool true) ∧ Below w.heap.size w w' := by
  have L0 := w0.1
  have l0 : (len0 : Int) ≤ 9223372036854775807 := by omega
  have HW := Base.hide w0
  clear w0 L0
  by_cases g0 : (1048576 : Int) < (len0 : Int)
  · have e0 := Base.hide (decide_eq_true g0)
    clear g0
    go_enter Try.func5, Try.ntmps5
    go_wp2_with fail
    refine (Base.big a0 len0 cap0 true _ l0 e0.out).mono ?_; rintro e w' ⟨rfl, rfl⟩
    go_wp2_with fail
    go_ret
    exact ⟨rfl, Below.refl _ _⟩
  have e0 := Base.hide (decide_eq_false g0)
  have n0 := Base.hide (show len0 ≤ 1048576 by omega)
  clear g0
  go_enter Try.func5, Try.ntmps5
  go_wp2_with fail
  refine (Base.big a0 len0 cap0 false _ l0 e0.out).mono ?_; rintro e w' ⟨rfl, hq⟩; have hq := hq.symm; subst hq
  clear e0 l0
  go_wp2_with fail
  refine (Wj.drawShuffle a0 len0 cap0 _ HW.out n0.out).mono ?_; rintro e u1 ⟨s, n, rfl, bs, bn, bb⟩
  have BW := Base.hide bb
  have HI := Base.hide (fun W => Wj.implShuffle s n W bs bn)
  have HT := Base.hide (fun W => Wj.implShuffle 1 3 W (by unfold Vl.bd; omega) (by unfold Vl.bd; omega))
  rw [show Wj.shl 1 3 = 3 by decide] at HT
  have HC := Base.hide (show (Wj.shl s n = 0 ∧ (n ≤ 0 ∨ 4096 < n ∨ s < 0 ∨ 4294967295 < s)) ∨ (∃ m : Nat, n = m ∧ Wj.shl s n = m ∧ 0 < m ∧ m ≤ 4096 ∧ Wj.Pm m (Wj.shu s n)) by
    by_cases c : Vo.stOk s = true ∧ (0 ≤ n ∧ n ≤ 4096)
    · have hn : Wj.shl s n = n.toNat := by unfold Wj.shl; rw [if_pos c]
      by_cases c0 : n ≤ 0
      · exact .inl ⟨by rw [hn]; omega, .inl c0⟩
      · refine .inr ⟨n.toNat, by omega, hn, by omega, by omega, ?_⟩
        have := Wj.shu_perm (s := s) (n := n.toNat) (by omega) (by omega)
        rwa [show ((n.toNat : Nat) : Int) = n by omega] at this
    · refine .inl ⟨by unfold Wj.shl; rw [if_neg c], ?_⟩
      have : ¬ (0 ≤ s ∧ s ≤ 4294967295) ∨ ¬ (0 ≤ n ∧ n ≤ 4096) := by
        by_cases d : 0 ≤ n ∧ n ≤ 4096
        · exact .inl (fun q => c ⟨decide_eq_true q, d⟩)
        · exact .inr d
      omega)
  clear bs bn bb
  go_wp2_with fail
  refine (HI.out _).mono ?_; rintro e u2 ⟨la, lc, rfl, o2, q2⟩
  replace BW := Base.hide (BW.out.trans (q2.mono BW.out.size))
  have OL := Base.hide o2
  clear q2 HI o2
  go_wp2_with fail
  refine (HT.out _).mono ?_; rintro e u3 ⟨ta, tc, rfl, -, q3⟩
  replace BW := Base.hide (BW.out.trans (q3.mono BW.out.size))
  replace OL := Base.hide (OL.out.below q3)
  clear q3 HT
  rcases HC.out with ⟨hm, hor⟩ | ⟨m, rfl, hm, m0, m1, hp⟩
  · rw [hm] at OL ⊢
    clear hm HC
    rcases (show (decide (n ≤ 0) = true) ∨ (decide (n ≤ 0) = false ∧ decide (4096 < n) = true) ∨ (decide (n ≤ 0) = false ∧ decide (4096 < n) = false ∧ decide (s < 0) = true) ∨ (decide (n ≤ 0) = false ∧ decide (4096 < n) = false ∧ decide (s < 0) = false ∧ decide (4294967295 < s) = true) by
      by_cases d1 : n ≤ 0
      · exact .inl (decide_eq_true d1)
      by_cases d2 : 4096 < n
      · exact .inr (.inl ⟨decide_eq_false d1, decide_eq_true d2⟩)
      by_cases d3 : s < 0
      · exact .inr (.inr (.inl ⟨decide_eq_false d1, decide_eq_false d2, decide_eq_true d3⟩))
      · exact .inr (.inr (.inr ⟨decide_eq_false d1, decide_eq_false d2, decide_eq_false d3, decide_eq_true (by omega)⟩))) with h1 | ⟨h1, h2⟩ | ⟨h1, h2, h3⟩ | ⟨h1, h2, h3, h4⟩
    all_goals
      clear hor
      go_wp2_with fail
      go_ret
      exact ⟨rfl, BW.out⟩
  · rw [hm] at OL ⊢
    obtain ⟨D, hD⟩ : ∃ D, Wj.shu s (m : Int) = D := ⟨_, rfl⟩
    rw [hD] at OL hp
    have PM := Base.hide hp
    clear hm hD hp HC
    have mk := Wj.make_bool m (by omega)
    have z0 : decide ((m : Int) = 0) = false := decide_eq_false (by omega)
    have z1 : ((m : Int) == 0) = false := beq_eq_false_iff_ne.2 (by omega)
    have z2 : (m == 0) = false := beq_eq_false_iff_ne.2 (by omega)
    have z3 : ¬ (m = 0) := by omega
    rcases OL.out with h0 | ⟨g, rfl, hg, hrw⟩
    · omega
    have RW := Base.hide hrw
    obtain ⟨W4, hW4⟩ : ∃ W4, u3.alloc (.cells (madeCells #[.bool false] m) 4) = W4 := ⟨_, rfl⟩
    have n4 : Below u3.heap.size u3 W4 := hW4 ▸ (Below.refl _ _).alloc (Nat.le_refl _) _
    have SB := Base.hide (show Wj.Bw W4 u3.heap.size m (fun _ => false) from hW4 ▸ Wj.bw_new u3 m _)
    have gl := Base.hide (show g < u3.heap.size from RW.out.lt (by omega))
    have R4 := Base.hide (RW.out.below n4 gl.out)
    have B4 := Base.hide (BW.out.trans (n4.mono BW.out.size))
    have sz4 := Base.hide BW.out.size
    have lt4 := Base.hide (show u3.heap.size < W4.heap.size by rw [← hW4]; simp)
    clear n4 hg hrw OL RW
    go_wp2_with fail
    clear hW4 mk z0 z1 z2 z3
    go_loopw [7] (fun i wx => ∃ k : Nat, k ≤ m ∧ i = .int .i64 (k : Int) ∧ Wj.Bw wx u3.heap.size m (fun v => Wj.sen D k (v : Int)) ∧ Vl.Rw wx g m D ∧ Below w.heap.size w wx) (fun i _ => m - (intOf i).toNat)
    case atStart => exact ⟨0, Nat.zero_le _, rfl, SB.out, R4.out, B4.out⟩
    case round =>
      obtain ⟨k, hk, rfl, hs, hr, hb⟩ := hrel
      have HS := Base.hide hs
      have HR := Base.hide hr
      have HB := Base.hide hb
      clear hs hr hb
      by_cases c : k < m
      · have cI : (k : Int) < (m : Int) := by omega
        obtain ⟨ck, fk, -⟩ := HR.out k c
        obtain ⟨v, hv⟩ : ∃ v : Nat, D k = (v : Int) := ⟨(D k).toNat, by have := (PM.out.1 k c).1; omega⟩
        have vm : v < m := by have := (PM.out.1 k c).2; omega
        have vI : (v : Int) < (m : Int) := by omega
        have HV := Base.hide hv
        rw [hv] at ck
        obtain ⟨cv, fv⟩ := HS.out v vm
        replace cv : wr.cell? ⟨u3.heap.size, v, none⟩ = some (.bool (Wj.sen D k (v : Int))) := cv
        rw [show Wj.sen D k (v : Int) = false by rw [← hv]; exact Wj.sen_old PM.out c k (Nat.le_refl _)] at cv
        have vn : decide ((v : Int) < 0) = false := decide_eq_false (by omega)
        have vg : decide ((m : Int) ≤ (v : Int)) = false := decide_eq_false (by omega)
        have vh : decide (m ≤ v) = false := decide_eq_false (by omega)
        have N := Base.hide (HS.out.set v true)
        have KN := Base.hide (Vl.Kept.setCell wr ⟨u3.heap.size, v, none⟩ (.bool true))
        have RN := Base.hide (HR.out.kept KN.out (fun (e : g = u3.heap.size) => by have := gl.out; omega))
        have BN := Base.hide (HB.out.setCell (p := ⟨u3.heap.size, v, none⟩) sz4.out (.bool true))
        clear hv
        go_wp2_with fail
        go_roundw
        case rel =>
          refine ⟨k + 1, by omega, by go_num, fun t ht => ?_, RN.out, BN.out⟩
          have := N.out t ht
          replace this : (wr.setCell ⟨u3.heap.size, v, none⟩ (.bool true)).cell? ⟨u3.heap.size, t, none⟩ = some (.bool (if t = v then true else Wj.sen D k (t : Int))) ∧ _ := this
          rw [Wj.sen_next HV.out t] at this
          exact this
        case measure => simp [intOf]; omega
      · obtain rfl : k = m := by omega
        have cF : decide ((k : Int) < (k : Int)) = false := by simp
        clear c
        go_wp2_with fail
        go_ret
        exact ⟨rfl, HB.out⟩

set_option maxRecDepth 100000 in
theorem lifted (os : Os) (started : os.Started) (H : Type) (enc : TypeId × Value → H) :
    ReturnsInHanded {} Try.checked os 5 .any (Rows.fnShuffledSpec.pre6 enc Try.prog Try.f5 Rows.fnShuffledRow.domain false) (Rows.fnShuffledSpec.post enc Try.prog Try.f5 false true false false) := by
  refine returnsInHanded_of_change (C := Try.checked) own started (by kernel_rfl) Try.func5
    (ChangeSpec.witness6 (enc := enc) (C := Try.checked) false ⟨#[], #[.slice none 0 0], []⟩ 8 (by kernel_rfl) (by kernel_rfl) (by kernel_rfl) (by kernel_rfl)) ?_
  intro W base args ds gs before hval0 hW hcnd _
  have hval : ∀ (j : Nat) t v, Try.f5.params[j]? = some t → args[j]? = some v → Value.okWide Try.prog W .any base t v := hval0
  have hW' := hW
  obtain ⟨p, q, hA0, hV, rfl, hfz, hnd⟩ := hW
  have hA : DataW.TrodAll enc Try.prog W 0 (fun _ => true) true Try.f5.params.toList args.toList ds p := hA0
  rw [Try.params5] at hA hval
  obtain ⟨v0, vs0, d0, ds0, p0, q0, hargs, rfl, rfl, h0, rst0⟩ := trodAll_cons hA
  obtain ⟨rfl, rfl, rfl⟩ := trodAll_nil rst0
  obtain rfl : args = #[v0] := by cases args; simp_all
  obtain ⟨rfl, rfl⟩ := trodVars_none hV
  have k0 := h0
  have lt0 : ∀ x ∈ p0, x.block < W.heap.size := by obtain ⟨m, hm⟩ := k0; exact DataW.trod_lt m _ _ _ hm
  obtain ⟨a0, len0, cap0, rfl⟩ := okWide_slice Try.underlying39 (hval 0 39 v0 rfl rfl)
  have w0 : Base.Code W.heap.size W a0 len0 := by
    obtain ⟨fuel, hf⟩ := h0
    rcases open_ints Try.underlying39 Try.underlying5 (by kernel_rfl) hf with ⟨hcs, _⟩ | ⟨x, l, c, zs, hcs, _, hl, hm, hz, _, hcell, hwz⟩
    · simp [Value.cells] at hcs
      obtain ⟨rfl, rfl, rfl⟩ := hcs
      exact ⟨by omega, .inl rfl⟩
    · simp [Value.cells] at hcs
      obtain ⟨rfl, rfl, rfl⟩ := hcs
      exact Base.code_of hl hm (by simpa using hz) hcell hwz
  clear hA0 hval0
  refine (walk a0 len0 cap0 W w0).mono fun e W' ⟨he, bel⟩ => ?_
  subst he
  exact ⟨_, rfl, _, _, _, [], _, [], hW', trodAll_mk1 (shut_bool Try.underlying4 _), (trodAll_cons_mk (Below.trod laidOut (by kernel_rfl) (of_decide_eq_true (by kernel_rfl)) k0 bel lt0) trodAll_mk0), rfl, bel.frame _, fun h => by cases h⟩

theorem over : Rows.fnShuffledRow.holds Try.pinned (OpenSpec.ofChange Rows.fnShuffledSpec) :=
  OpenClaim.holds_of_wide 5 Try.f5 rfl rfl rfl rfl rfl rfl rfl ⟨rfl, rfl, rfl, rfl, rfl⟩ rfl rfl rfl rfl rfl (by kernel_rfl) Try.func5 (by kernel_rfl)
    (of_decide_eq_true (by kernel_rfl)) (by unfold Func.isWrapper; first | (rw [if_pos (by decide +kernel)]; kernel_rfl) | (rw [if_neg (by decide +kernel)]; exact ⟨rfl, rfl⟩))
    (fun os started H enc _ => lifted os started H enc)

theorem proved : Rows.FnShuffledSaid := over
#print axioms proved
end Go.Proofs.Ytcnopdonnjemmab.fnShuffled
