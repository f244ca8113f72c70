/-
  Proved: whatever the arguments, 'FnPacked' returns true: the landed function answers as its model, and what came in reads as it did. No condition.
-/
import Derived.Test.YtbdcbanbnbaoiaaRows
import Derived.Test.YtbdcbanbnbaoiaaVl
import Derived.Test.YtbdcbanbnbaoiaaSo
import Derived.Test.YtbdcbanbnbaoiaaSp
import Derived.Test.YtbdcbanbnbaoiaaSq
import Derived.Test.YtbdcbanbnbaoiaaSr
import Derived.Test.YtbdcbanbnbaoiaaSs
import Derived.Test.YtbdcbanbnbaoiaaSt
import Derived.Test.YtbdcbanbnbaoiaaSu
import Derived.Test.YtbdcbanbnbaoiaaSv
import Derived.Test.YtbdcbanbnbaoiaaSw
import Derived.Test.YtbdcbanbnbaoiaaSx
import Derived.Test.YtbdcbanbnbaoiaaVp
import Derived.Test.YtbdcbanbnbaoiaaVs
import Derived.Test.YtbdcbanbnbaoiaaVq
import Derived.Test.YtbdcbanbnbaoiaaVo
import Derived.Test.YtbdcbanbnbaoiaaVv
import Derived.Test.YtbdcbanbnbaoiaaTa
import Derived.Test.YtbdcbanbnbaoiaaTb
import Derived.Test.YtbdcbanbnbaoiaaVr
import Derived.Test.YtbdcbanbnbaoiaaVm
import Derived.Test.YtbdcbanbnbaoiaaVn
import Derived.Test.YtbdcbanbnbaoiaaVw
import Derived.Test.YtbdcbanbnbaoiaaVx
import Derived.Test.YtbdcbanbnbaoiaaVt
import Derived.Test.YtbdcbanbnbaoiaaVy
import Derived.Test.YtbdcbanbnbaoiaaVz
import Derived.Test.YtbdcbanbnbaoiaaVc
import Derived.Test.YtbdcbanbnbaoiaaVac
import Derived.Test.YtbdcbanbnbaoiaaVaf
import Derived.Test.YtbdcbanbnbaoiaaVag
import Derived.Test.YtbdcbanbnbaoiaaNum
import Derived.Test.YtbdcbanbnbaoiaaBase
import Derived.Test.YtbdcbanbnbaoiaaTc
import Derived.Test.YtbdcbanbnbaoiaaPow
import Derived.Test.YtbdcbanbnbaoiaaSy
import Derived.Test.YtbdcbanbnbaoiaaSz
import Derived.Test.YtbdcbanbnbaoiaaHb
import Derived.Test.YtbdcbanbnbaoiaaHc
import Derived.Test.YtbdcbanbnbaoiaaHd
import Derived.Test.YtbdcbanbnbaoiaaHe
import Derived.Test.YtbdcbanbnbaoiaaAr
import Derived.Test.YtbdcbanbnbaoiaaMa
import Derived.Test.YtbdcbanbnbaoiaaMb
import Derived.Test.YtbdcbanbnbaoiaaQt
import Derived.Test.YtbdcbanbnbaoiaaHa
import Derived.Test.YtbdcbanbnbaoiaaMc
import Derived.Test.YtbdcbanbnbaoiaaMd
import Derived.Test.YtbdcbanbnbaoiaaHf
import Derived.Test.YtbdcbanbnbaoiaaHg
import Derived.Test.YtbdcbanbnbaoiaaHh
import Derived.Test.YtbdcbanbnbaoiaaLn
import Derived.Test.YtbdcbanbnbaoiaaTf
import Derived.Test.YtbdcbanbnbaoiaaHi
import Derived.Test.YtbdcbanbnbaoiaaMgx
import Derived.WalkKit
import Derived.ProofKit
import Derived.OpenShut
import Derived.ShutString
import Derived.ChangeOld
import Derived.Below
import Derived.Lib.SmallJoins
import Derived.OpenVars
import Derived.ChangeVars
import Derived.Deep.RegionHeld3
namespace Go.Proofs.Ytbdcbanbnbaoiaa.fnPacked
open Go.ChangeShapes Go.WideShapes Go.ChangeAt Go.RowKit Go.Joins
open Go.ChangeMaps (open_string shut_string)
set_option linter.unusedVariables false
set_option linter.unusedSimpArgs false

theorem own : ownKnob Try.prog.godebug = none := by kernel_rfl
theorem laidOut : laidOutB Try.prog = true := by kernel_rfl

set_option maxRecDepth 100000 in
set_option maxHeartbeats 4000000 in
theorem walk (a0 : Option Addr) (len0 cap0 : Nat) (w : World) (w0 : Base.Code w.heap.size w a0 len0) :
    Calls Try.prog 3 #[.slice a0 len0 cap0] w fun e w' => e = .returned (.bool true) ∧ Below w.heap.size w w' := by
  have L0 := w0.1
  have l0 : (len0 : Int) ≤ 9223372036854775807 := by omega
  have W0 := Base.hide w0
  clear w0 L0
  by_cases g0 : (1048576 : Int) < (len0 : Int)
  · have e0 := Base.hide (decide_eq_true g0)
    clear g0
    go_enter Try.func3, Try.ntmps3
    go_wp2_with fail
    refine (Base.big a0 len0 cap0 true _ l0 e0.out).mono ?_; rintro e w' ⟨rfl, rfl⟩
    go_wp2_with fail
    go_ret
    exact ⟨rfl, Below.refl _ _⟩
  have e0 := Base.hide (decide_eq_false g0)
  have n0 := Base.hide (show len0 ≤ 1048576 by omega)
  clear g0
  go_enter Try.func3, Try.ntmps3
  go_wp2_with fail
  refine (Base.big a0 len0 cap0 false _ l0 e0.out).mono ?_; rintro e w' ⟨rfl, hw⟩
  have hw := hw.symm
  subst hw
  go_wp2_with fail
  refine (Vo.drawPack a0 len0 cap0 w W0.out n0.out).mono ?_
  rintro e W1 ⟨la, lc, n, C, rfl, hn, hlc, hl, b1⟩
  have HL1 := Vl.hide hl
  have B1 := Vl.hide b1
  clear hl b1
  have CI := Vl.hide (Vo.packF W1.heap.size la n lc C W1 (Nat.le_refl _) HL1.out (by omega))
  go_wp2_with fail
  refine CI.out.mono ?_
  rintro e W2 ⟨oa, oc, rfl, o2, b2⟩
  have HL2 := Vl.hide (HL1.out.below b2)
  have O2 := Vl.hide o2
  have B2 := Vl.hide (B1.out.trans (b2.mono B1.out.size))
  have z2 : W1.heap.size ≤ W2.heap.size := b2.size
  clear o2 b2 CI HL1
  have CS := Vl.hide (Vo.specPack W1.heap.size la n lc C W2 z2 HL2.out (by omega))
  go_wp2_with fail
  refine CS.out.mono ?_
  rintro e W3 ⟨ta, tc, rfl, _, b3⟩
  have HL3 := Vl.hide (HL2.out.below (b3.mono z2))
  have O3 := Vl.hide (O2.out.below b3)
  have B3 := Vl.hide (B2.out.trans (b3.mono B2.out.size))
  have z3 : W2.heap.size ≤ W3.heap.size := b3.size
  clear b3 CS HL2 O2
  obtain ⟨W4, hW4⟩ : ∃ W4, (W3.alloc (.cells #[.int .i64 0, .int .i64 2, .int .i64 0, .int .i64 0] 31)).alloc (.cells #[.int .i64 0] 3) = W4 := ⟨_, rfl⟩
  have b4 : Below W3.heap.size W3 W4 := by rw [← hW4]; exact ((Below.refl _ _).alloc (Nat.le_refl _) _).alloc (by simp) _
  have z4 : W4.heap.size = W3.heap.size + 2 := by rw [← hW4]; simp
  have CK := Vl.hide (Vo.packOkF W4.heap.size (some ⟨W3.heap.size, 0, none⟩) 1 1 (fun _ => ⟨0, 2, 0, 0⟩) (some ⟨W3.heap.size + 1, 0, none⟩) 1 1 (fun _ => 0) W4 (Nat.le_refl _) (.inr ⟨W3.heap.size, 0, rfl, by omega, fun i hi => by
    have : i = 0 := by omega
    subst this
    rw [← hW4]
    exact ⟨⟨by simp [go_sem], by simp [go_sem], by simp [go_sem], by simp [go_sem]⟩, ⟨by dsimp only; omega, by dsimp only; omega⟩, ⟨by dsimp only; omega, by dsimp only; omega⟩, ⟨by dsimp only; omega, by dsimp only; omega⟩, ⟨by dsimp only; omega, by dsimp only; omega⟩⟩⟩) (.inr ⟨W3.heap.size + 1, 0, rfl, by omega, fun i hi => by
    have : i = 0 := by omega
    subst this
    rw [← hW4]
    exact ⟨by simp [go_sem], ⟨by dsimp only; omega, by dsimp only; omega⟩⟩⟩) (by omega) (by omega) (Nat.le_refl _))
  rw [decide_eq_true Vo.pok_one] at CK
  have HL4 := Vl.hide (HL3.out.below (b4.mono (by omega)))
  have O4 := Vl.hide (O3.out.below b4)
  have B4 := Vl.hide (B3.out.trans (b4.mono B3.out.size))
  have z4' : W3.heap.size ≤ W4.heap.size := by omega
  clear b4 z4 HL3 O3
  go_wp2_with fail
  clear hW4
  refine CK.out.mono ?_
  rintro e W5 ⟨rfl, b5⟩
  have HL5 := Vl.hide (HL4.out.below (b5.mono (by omega)))
  have O5 := Vl.hide (O4.out.below b5)
  have B5 := Vl.hide (B4.out.trans (b5.mono B4.out.size))
  have z5 : W3.heap.size ≤ W5.heap.size := by have := b5.size; omega
  clear b5 CK HL4 O4
  by_cases hL : Vo.LOk n C
  case neg =>
    have e1 : Vo.pkN n C = 0 := by unfold Vo.pkN; rw [if_neg hL]
    have e2 : Vo.pkK n C = 0 := by unfold Vo.pkK; rw [if_neg hL]
    have np : 0 < n := by
      rcases Nat.eq_zero_or_pos n with e | e
      · exact absurd ⟨by omega, fun i hi => by omega⟩ hL
      · exact e
    have ne : ((0 : Int) != (n : Int)) = true := by rw [bne_iff_ne]; omega
    clear hL
    rw [e1, e2]
    go_wp2_with fail
    go_ret
    exact ⟨rfl, B5.out⟩
  have e1 : Vo.pkN n C = n := by unfold Vo.pkN; rw [if_pos hL]
  have e2 : Vo.pkK n C = Vo.pkP n C n := by unfold Vo.pkK; rw [if_pos hL]
  rw [e1] at O5
  rw [e1, e2]
  have POK := Vl.hide (Vo.pack_pok hL)
  have PFL := Vl.hide (Vo.peak_floor hL)
  have PEN := Vl.hide (Vo.peak_ends hL)
  have LK := Vl.hide hL
  obtain ⟨O, hO⟩ : ∃ O, Vo.pkO n C n = O := ⟨_, rfl⟩
  obtain ⟨K, hK⟩ : ∃ K, Vo.pkP n C n = K := ⟨_, rfl⟩
  rw [hO] at O5 POK PEN
  rw [hK] at PFL PEN ⊢
  clear hL e1 e2 hO hK
  have CP := Vl.hide (Vo.packOkF W5.heap.size la n lc C oa n oc O W5 (Nat.le_refl _) (HL5.out.mono (by omega)) O5.out.ints (by omega) (by omega) hlc)
  rw [decide_eq_true POK.out] at CP
  have nn : ((n : Int) != (n : Int)) = false := by simp
  go_wp2_with fail
  refine CP.out.mono ?_
  rintro e W6 ⟨rfl, b6⟩
  have HL6 := Vl.hide (HL5.out.below (b6.mono (by omega)))
  have O6 := Vl.hide (O5.out.below b6)
  have B6 := Vl.hide (B5.out.trans (b6.mono B5.out.size))
  have z6 : W5.heap.size ≤ W6.heap.size := b6.size
  clear b6 CP HL5 O5
  have CF := Vl.hide (Vo.floorF W6.heap.size la n lc C W6 (Nat.le_refl _) (HL6.out.mono (by omega)) (by omega))
  obtain ⟨L, hLl⟩ : ∃ L, Vo.FL n C = L := ⟨_, rfl⟩
  rw [hLl] at CF PFL
  have kl : decide (K < L) = false := decide_eq_false (by have := PFL.out; omega)
  clear hLl
  go_wp2_with fail
  refine CF.out.mono ?_
  rintro e W7 ⟨rfl, b7⟩
  have HL7 := Vl.hide (HL6.out.below (b7.mono (by omega)))
  have O7 := Vl.hide (O6.out.below b7)
  have B7 := Vl.hide (B6.out.trans (b7.mono B6.out.size))
  have z7 : W6.heap.size ≤ W7.heap.size := b7.size
  clear b7 CF HL6 O6
  go_wp2_with fail
  go_loopw [8] (fun t wx => ∃ i : Nat, i ≤ n ∧ t = .int .i64 i ∧ Below W7.heap.size W7 wx) (fun t _ => n - (intOf t).toNat)
  case atStart => exact ⟨0, Nat.zero_le _, rfl, Below.refl _ _⟩
  case round =>
    obtain ⟨X, rfl⟩ : ∃ X, X = wr := ⟨_, rfl⟩
    obtain ⟨i, hi, rfl, hbx⟩ := hrel
    have HBX := Vl.hide hbx
    clear hbx
    by_cases hin : i < n
    case neg =>
      obtain rfl : i = n := by omega
      go_wp2_with fail
      go_ret
      exact ⟨rfl, B7.out.trans (HBX.out.mono B7.out.size)⟩
    have iI : (i : Int) < n := by omega
    go_wp2_with fail
    go_loopw [9] (fun t wx => ∃ q : Nat, q ≤ i ∧ t = .int .i64 q ∧ Below W7.heap.size W7 wx) (fun t _ => i - (intOf t).toNat)
    case atStart => exact ⟨0, Nat.zero_le _, rfl, HBX.out⟩
    case round =>
      obtain ⟨V, rfl⟩ : ∃ V, V = wr := ⟨_, rfl⟩
      obtain ⟨q, hq, rfl, hbv⟩ := hrel
      have HBV := Vl.hide hbv
      clear hbv
      rcases HL7.out.below (HBV.out.mono (by omega)) with h0 | ⟨b, off, rfl, hbB, hc⟩
      · omega
      rcases O7.out.ints.below HBV.out with h0 | ⟨ob, oo, rfl, hob, hoc⟩
      · omega
      obtain ⟨⟨_, c1, c2, c3⟩, _⟩ := hc i hin
      have p1 := (hoc i hin).1
      have mi := (LK.out.2 i hin).1
      have oi := POK.out.2.2.1 i hin
      by_cases hqi : q < i
      case neg =>
        obtain rfl : q = i := by omega
        have pe := PEN.out q hin
        obtain ⟨o, ho⟩ : ∃ o, O q = o := ⟨_, rfl⟩
        obtain ⟨y, hy⟩ : ∃ y, (C q).s = y := ⟨_, rfl⟩
        rw [ho] at p1 pe oi
        rw [hy] at c1 pe mi
        have ws : IntKind.i64.wrap (o + y) = o + y := by rw [IntKind.wrap_i64]; omega
        have ke : decide (K < o + y) = false := decide_eq_false (by omega)
        clear hc hoc ho hy pe
        go_wp2_with fail
        go_quiet (fail)
        go_wp2_with fail
        go_roundw
        all_goals first
          | (simp only [intOf]; omega)
          | (simp [intOf]; omega)
          | exact ⟨q + 1, by omega, by go_num, below_drewN HBV.out _⟩
      have qI : (q : Int) < i := by omega
      have qn : (q : Int) < n := by omega
      obtain ⟨⟨_, d1, d2, d3⟩, _⟩ := hc q (by omega)
      have p2 := (hoc q (by omega)).1
      have mq := (LK.out.2 q (by omega)).1
      have oq := POK.out.2.2.1 q (by omega)
      have PK := Vl.hide (POK.out.2.2.2 i hin q hqi)
      unfold Vo.meet Vo.lap at PK
      obtain ⟨x, hx⟩ : ∃ x, C i = x := ⟨_, rfl⟩
      obtain ⟨y, hy⟩ : ∃ y, C q = y := ⟨_, rfl⟩
      obtain ⟨o, ho⟩ : ∃ o, O i = o := ⟨_, rfl⟩
      obtain ⟨u, hu⟩ : ∃ u, O q = u := ⟨_, rfl⟩
      rw [hx, hy, ho, hu] at PK
      rw [hx] at c1 c2 c3 mi
      rw [hy] at d1 d2 d3 mq
      rw [ho] at p1 oi
      rw [hu] at p2 oq
      have ws : IntKind.i64.wrap (o + x.s) = o + x.s := by rw [IntKind.wrap_i64]; omega
      have wt : IntKind.i64.wrap (u + y.s) = u + y.s := by rw [IntKind.wrap_i64]; omega
      clear hc hoc hx hy ho hu
      by_cases t1 : x.f ≤ y.t
      case neg =>
        have t1' : decide (x.f ≤ y.t) = false := decide_eq_false t1
        clear t1
        go_wp2_with fail
        go_quiet (fail)
        go_wp2_with fail
        go_roundw
        all_goals first
          | (simp only [intOf]; omega)
          | (simp [intOf]; omega)
          | exact ⟨q + 1, by omega, by go_num, below_drewN HBV.out _⟩
      by_cases t2 : y.f ≤ x.t
      case neg =>
        have t2' : decide (y.f ≤ x.t) = false := decide_eq_false t2
        clear t2
        go_wp2_with fail
        go_quiet (fail)
        go_wp2_with fail
        go_roundw
        all_goals first
          | (simp only [intOf]; omega)
          | (simp [intOf]; omega)
          | exact ⟨q + 1, by omega, by go_num, below_drewN HBV.out _⟩
      by_cases t3 : o < u + y.s
      case neg =>
        have t3' : decide (o < u + y.s) = false := decide_eq_false t3
        clear t3
        go_wp2_with fail
        go_quiet (fail)
        go_wp2_with fail
        go_roundw
        all_goals first
          | (simp only [intOf]; omega)
          | (simp [intOf]; omega)
          | exact ⟨q + 1, by omega, by go_num, below_drewN HBV.out _⟩
      have t4 : ¬ u < o + x.s := fun h => PK.out ⟨⟨t1, t2⟩, t3, h⟩
      have t4' : decide (u < o + x.s) = false := decide_eq_false t4
      clear t4
      go_wp2_with fail
      go_quiet (fail)
      go_wp2_with fail
      go_roundw
      all_goals first
        | (simp only [intOf]; omega)
        | (simp [intOf]; omega)
        | exact ⟨q + 1, by omega, by go_num, below_drewN HBV.out _⟩

set_option maxRecDepth 100000 in
theorem lifted (os : Os) (started : os.Started) (H : Type) (enc : TypeId × Value → H) :
    ReturnsInHanded {} Try.checked os 3 .any (Rows.fnPackedSpec.pre6 enc Try.prog Try.f3 Rows.fnPackedRow.domain false) (Rows.fnPackedSpec.post enc Try.prog Try.f3 false true false false) := by
  refine returnsInHanded_of_change (C := Try.checked) own started (by kernel_rfl) Try.func3
    (ChangeSpec.witness6 (enc := enc) (C := Try.checked) false ⟨#[], #[.slice none 0 0], []⟩ 8 (by kernel_rfl) (by kernel_rfl) (by kernel_rfl) (by kernel_rfl)) ?_
  intro W base args ds gs before hval0 hW hcnd _
  have hval : ∀ (j : Nat) t v, Try.f3.params[j]? = some t → args[j]? = some v → Value.okWide Try.prog W .any base t v := hval0
  have hW' := hW
  obtain ⟨p, q, hA0, hV, rfl, hfz, hnd⟩ := hW
  have hA : DataW.TrodAll enc Try.prog W 0 (fun _ => true) true Try.f3.params.toList args.toList ds p := hA0
  rw [Try.params3] at hA hval
  obtain ⟨v0, vs0, d0, ds0, p0, q0, hargs, rfl, rfl, h0, rst0⟩ := trodAll_cons hA
  obtain ⟨rfl, rfl, rfl⟩ := trodAll_nil rst0
  obtain rfl : args = #[v0] := by cases args; simp_all
  obtain ⟨rfl, rfl⟩ := trodVars_none hV
  have k0 := h0
  have lt0 : ∀ x ∈ p0, x.block < W.heap.size := by obtain ⟨m, hm⟩ := k0; exact DataW.trod_lt m _ _ _ hm
  obtain ⟨a0, len0, cap0, rfl⟩ := okWide_slice Try.underlying22 (hval 0 22 v0 rfl rfl)
  have w0 : Base.Code W.heap.size W a0 len0 := by
    obtain ⟨fuel, hf⟩ := h0
    rcases open_ints Try.underlying22 Try.underlying5 (by kernel_rfl) hf with ⟨hcs, _⟩ | ⟨x, l, c, zs, hcs, _, hl, hm, hz, _, hcell, hwz⟩
    · simp [Value.cells] at hcs
      obtain ⟨rfl, rfl, rfl⟩ := hcs
      exact ⟨by omega, .inl rfl⟩
    · simp [Value.cells] at hcs
      obtain ⟨rfl, rfl, rfl⟩ := hcs
      exact Base.code_of hl hm (by simpa using hz) hcell hwz
  clear hA0 hval0
  refine (walk a0 len0 cap0 W w0).mono fun e W' ⟨he, bel⟩ => ?_
  subst he
  exact ⟨_, rfl, _, _, _, [], _, [], hW', trodAll_mk1 (shut_bool Try.underlying4 _), (trodAll_cons_mk (Below.trod laidOut (by kernel_rfl) (of_decide_eq_true (by kernel_rfl)) k0 bel lt0) trodAll_mk0), rfl, bel.frame _, fun h => by cases h⟩

theorem over : Rows.fnPackedRow.holds Try.pinned (OpenSpec.ofChange Rows.fnPackedSpec) :=
  OpenClaim.holds_of_wide 3 Try.f3 rfl rfl rfl rfl rfl rfl rfl ⟨rfl, rfl, rfl, rfl, rfl⟩ rfl rfl rfl rfl rfl (by kernel_rfl) Try.func3 (by kernel_rfl)
    (of_decide_eq_true (by kernel_rfl)) (by unfold Func.isWrapper; first | (rw [if_pos (by decide +kernel)]; kernel_rfl) | (rw [if_neg (by decide +kernel)]; exact ⟨rfl, rfl⟩))
    (fun os started H enc _ => lifted os started H enc)

theorem proved : Rows.FnPackedSaid := over
#print axioms proved
end Go.Proofs.Ytbdcbanbnbaoiaa.fnPacked
