/-
  Proved: whatever the arguments, 'FnTensorBack' returns true: the landed function answers as its model, and what came in reads as it did. No condition.
-/
import Derived.Test.YtbbmbgjjhaajjaaGreatDoorRows
import Derived.Test.YtbbmbgjjhaajjaaGreatDoorShelf
import Derived.Test.YtbbmbgjjhaajjaaGreatDoorTxt
import Derived.Test.YtbbmbgjjhaajjaaGreatDoorKa
import Derived.Test.YtbbmbgjjhaajjaaGreatDoorNum
import Derived.Test.YtbbmbgjjhaajjaaGreatDoorBase
import Derived.Test.YtbbmbgjjhaajjaaGreatDoorFrac
import Derived.Test.YtbbmbgjjhaajjaaGreatDoorRec
import Derived.Test.YtbbmbgjjhaajjaaGreatDoorToFrac
import Derived.Test.YtbbmbgjjhaajjaaGreatDoorShow
import Derived.Test.YtbbmbgjjhaajjaaGreatDoorVl
import Derived.Test.YtbbmbgjjhaajjaaGreatDoorVp
import Derived.Test.YtbbmbgjjhaajjaaGreatDoorVs
import Derived.Test.YtbbmbgjjhaajjaaGreatDoorVq
import Derived.Test.YtbbmbgjjhaajjaaGreatDoorVo
import Derived.Test.YtbbmbgjjhaajjaaGreatDoorVv
import Derived.Test.YtbbmbgjjhaajjaaGreatDoorTa
import Derived.Test.YtbbmbgjjhaajjaaGreatDoorTb
import Derived.Test.YtbbmbgjjhaajjaaGreatDoorSb
import Derived.Test.YtbbmbgjjhaajjaaGreatDoorSc
import Derived.Test.YtbbmbgjjhaajjaaGreatDoorFerm
import Derived.Test.YtbbmbgjjhaajjaaGreatDoorGuess
import Derived.Test.YtbbmbgjjhaajjaaGreatDoorKb
import Derived.Test.YtbbmbgjjhaajjaaGreatDoorRb
import Derived.Test.YtbbmbgjjhaajjaaGreatDoorSd
import Derived.Test.YtbbmbgjjhaajjaaGreatDoorPow
import Derived.Test.YtbbmbgjjhaajjaaGreatDoorOfFrac
import Derived.Test.YtbbmbgjjhaajjaaGreatDoorRead
import Derived.Test.YtbbmbgjjhaajjaaGreatDoorKc
import Derived.Test.YtbbmbgjjhaajjaaGreatDoorVr
import Derived.Test.YtbbmbgjjhaajjaaGreatDoorVm
import Derived.Test.YtbbmbgjjhaajjaaGreatDoorVn
import Derived.Test.YtbbmbgjjhaajjaaGreatDoorVw
import Derived.Test.YtbbmbgjjhaajjaaGreatDoorVx
import Derived.Test.YtbbmbgjjhaajjaaGreatDoorVt
import Derived.Test.YtbbmbgjjhaajjaaGreatDoorVy
import Derived.Test.YtbbmbgjjhaajjaaGreatDoorVz
import Derived.Test.YtbbmbgjjhaajjaaGreatDoorVc
import Derived.Test.YtbbmbgjjhaajjaaGreatDoorVac
import Derived.Test.YtbbmbgjjhaajjaaGreatDoorVaf
import Derived.Test.YtbbmbgjjhaajjaaGreatDoorVag
import Derived.Test.YtbbmbgjjhaajjaaGreatDoorTc
import Derived.Test.YtbbmbgjjhaajjaaGreatDoorKe
import Derived.Test.YtbbmbgjjhaajjaaGreatDoorKd
import Derived.Test.YtbbmbgjjhaajjaaGreatDoorRead2
import Derived.Test.YtbbmbgjjhaajjaaGreatDoorKf
import Derived.Test.YtbbmbgjjhaajjaaGreatDoorLaid
import Derived.Test.YtbbmbgjjhaajjaaGreatDoorLaid2
import Derived.Test.YtbbmbgjjhaajjaaGreatDoorKg
import Derived.Test.YtbbmbgjjhaajjaaGreatDoorDraw
import Derived.Test.YtbbmbgjjhaajjaaGreatDoorDf
import Derived.Test.YtbbmbgjjhaajjaaGreatDoorDj
import Derived.Test.YtbbmbgjjhaajjaaGreatDoorDi
import Derived.WalkKit
import Derived.ProofKit
import Derived.OpenShut
import Derived.ShutString
import Derived.ChangeOld
import Derived.Below
import Derived.Lib.SmallJoins
import Derived.OpenVars
import Derived.ChangeVars
import Derived.Deep.RegionHeld3
import Derived.Test.YtbbmbgjjhaajjaaGreatDoorTie
import Derived.Test.YtbbmbgjjhaajjaaGreatDoorCards
import Derived.LaidMore
import Derived.Lay
import Derived.SevenTiedAt
import Derived.Stop.Joined
namespace Go.Proofs.YtbbmbgjjhaajjaaGreatDoor.fnTensorBack
open Go.ChangeShapes Go.WideShapes Go.ChangeAt Go.RowKit Go.Joins
open Go.ChangeMaps (open_string shut_string)
set_option linter.unusedVariables false
set_option linter.unusedSimpArgs false

theorem own : ownKnob Tryz.prog.godebug = none := by kernel_rfl
theorem laidOut : laidOutB Tryz.prog = true := by kernel_rfl

set_option maxRecDepth 100000 in
set_option maxHeartbeats 4000000 in
theorem walk (a0 : Option Addr) (len0 cap0 : Nat) (w : World) (hL : laidMetH Tryz.prog Rows.fnTensorBackRow.laid w) (w0 : Base.Code w.heap.size w a0 len0) :
    Calls Tryz.prog 4 #[.slice a0 len0 cap0] w fun e w' => e = .returned (.bool true) ∧ Below w.heap.size w w' := by
  have hv := Vl.hide (Vo.tensorBack_vars hL)
  clear hL
  have L0 := w0.1
  have l0 : (len0 : Int) ≤ 9223372036854775807 := by omega
  have W0 := Vl.hide w0
  clear w0 L0
  by_cases g0 : (1048576 : Int) < (len0 : Int)
  · have e0 := Vl.hide (decide_eq_true g0)
    clear g0
    go_enter Tryz.func4, Tryz.ntmps4
    go_wp2_with fail
    refine (Base.big a0 len0 cap0 true _ l0 e0.out).mono ?_; rintro e w' ⟨rfl, rfl⟩
    go_wp2_with fail
    go_ret
    exact ⟨rfl, Below.refl _ _⟩
  have e0 := Vl.hide (decide_eq_false g0)
  obtain ⟨C, hC⟩ := Base.codeF_of W0.out (by omega)
  have CF := Vl.hide hC
  have rs := Vo.rdT_short len0 C
  clear g0 W0 hC
  go_enter Tryz.func4, Tryz.ntmps4
  go_wp2_with fail
  refine (Base.big a0 len0 cap0 false _ l0 e0.out).mono ?_; rintro e wq ⟨rfl, rfl⟩
  go_wp2_with fail
  refine (Vo.drawShowF a0 len0 cap0 C wq wq.heap.size CF.out (Nat.le_refl _)).mono ?_; rintro e w1 ⟨a, b, r, n, c, d, D, S, rfl, o1, hr, hn, b1⟩
  have z1 := b1.size
  have bA := (Below.refl w1.heap.size w1).alloc (Nat.le_refl _) (.cells #[.slice a r c, .slice b n d] 24)
  have X1 := Vl.hide (Vo.bx_new w1 (.slice a r c) (.slice b n d) 24)
  have O1 := Vl.hide (o1.below bA)
  have B1 := Vl.hide (b1.trans (bA.mono b1.size))
  have y1 : w1.heap.size + 1 ≤ (w1.alloc (.cells #[.slice a r c, .slice b n d] 24)).heap.size := by simp
  clear o1 b1 bA
  go_wp2_with fail
  obtain ⟨W1, hW1⟩ : ∃ W1, w1.alloc (.cells #[.slice a r c, .slice b n d] 24) = W1 := ⟨_, rfl⟩
  rw [hW1] at X1 O1 B1 y1 ⊢
  clear hW1
  refine (Vo.showTensorF W1.heap.size a b r n c d D S W1 (Nat.le_refl _) O1.out.d.ints O1.out.t.ints hr hn (hv.out.below B1.out).v.pows).mono ?_; rintro e w2 ⟨rfl, b2⟩
  have z2 := b2.size
  have X2 := Vl.hide (X1.out.below b2 (by omega))
  have O2 := Vl.hide (O1.out.below b2)
  have B2 := Vl.hide (B1.out.trans (b2.mono B1.out.size))
  have ts := Vo.tenT_short r n D S
  clear b2 X1 O1 B1
  have bN := (Below.refl w2.heap.size w2).alloc (Nat.le_refl _) (.cells #[.int .i64 1] 3)
  have X3 := Vl.hide (X2.out.below bN (by omega))
  have O3 := Vl.hide (O2.out.below bN)
  have B3 := Vl.hide (B2.out.trans (bN.mono B2.out.size))
  have y3 : w2.heap.size + 1 ≤ (w2.alloc (.cells #[.int .i64 1] 3)).heap.size := by simp
  have I3 := Vl.hide (show Vl.Ints (w2.alloc (.cells #[.int .i64 1] 3)).heap.size (w2.alloc (.cells #[.int .i64 1] 3)) (some ⟨w2.heap.size, 0, none⟩) 1 (fun _ => 1) from .inr ⟨w2.heap.size, 0, rfl, by simp, fun j hj => by
    have : j = 0 := by omega
    subst this
    exact ⟨by simp [go_sem], by show Vl.bd 1; unfold Vl.bd; omega⟩⟩)
  clear bN X2 O2 B2
  have T1 := Vl.hide (Vo.text_1 (fun _ => 0) (fun _ => 1) rfl)
  go_wp2_with fail
  obtain ⟨W2, hW2⟩ : ∃ W2, w2.alloc (.cells #[.int .i64 1] 3) = W2 := ⟨_, rfl⟩
  rw [hW2] at X3 O3 B3 y3 I3 ⊢
  clear hW2
  refine (Vo.showTensorF W2.heap.size none (some ⟨w2.heap.size, 0, none⟩) 0 1 0 1 (fun _ => 0) (fun _ => 1) W2 (Nat.le_refl _) (.inl rfl) I3.out (by omega) (by omega) (hv.out.below B3.out).v.pows).mono ?_; rintro e w3 ⟨rfl, b3⟩
  have z3 := b3.size
  have X4 := Vl.hide (X3.out.below b3 (by omega))
  have O4 := Vl.hide (O3.out.below b3)
  have B4 := Vl.hide (B3.out.trans (b3.mono B3.out.size))
  clear b3 X3 O3 B3 I3
  rw [T1.out.2]
  clear T1
  obtain ⟨x, hx⟩ : ∃ x : ByteArray, (⟨(Vo.tenT r n D S).toArray⟩ : ByteArray) = x := ⟨_, rfl⟩
  have xl : x.data.toList = Vo.tenT r n D S := by rw [← hx]
  have xs : x.size ≤ 1048576 := by rw [Lib.size_eq, xl]; omega
  have XL := Vl.hide xl
  rw [hx]
  clear hx xl
  go_wp2_with fail
  refine (Vo.readTensorF x w3 xs (hv.out.below B4.out)).mono ?_; rintro e w4 ⟨⟨r2, n2, D2, S2⟩, b2', p, c2, p', d2, h2, rfl, o2, b4⟩
  dsimp only at h2 o2
  rw [XL.out] at h2
  obtain ⟨hr2, hn2⟩ := Vo.rd_le h2
  have z4 := b4.size
  have bB := (Below.refl w4.heap.size w4).alloc (Nat.le_refl _) (.cells #[.slice p r2 c2, .slice p' n2 d2] 24)
  have b4B := b4.trans (bB.mono z4)
  have Y5 := Vl.hide (Vo.bx_new w4 (.slice p r2 c2) (.slice p' n2 d2) 24)
  have P5 := Vl.hide (o2.below bB)
  have X5 := Vl.hide (X4.out.below b4B (by omega))
  have O5 := Vl.hide (O4.out.below b4B)
  have B5 := Vl.hide (B4.out.trans (b4B.mono B4.out.size))
  have y5 : w4.heap.size + 1 ≤ (w4.alloc (.cells #[.slice p r2 c2, .slice p' n2 d2] 24)).heap.size := by simp
  have TRUE := Vl.hide (show Vo.tok r n D S = true → b2' = true ∧ r2 = r ∧ n2 = n ∧ (∀ k, k < r → D2 k = D k) ∧ (∀ k, k < n → S2 k = S k) from fun ht => by
    have t := (Vo.tr_tenT (l := Vo.tenT r n D S) ht).2 rfl
    rcases h2 with ⟨q, t2⟩ | ⟨_, _, t2⟩
    · obtain ⟨q1, q2, q3, q4⟩ := t.one t2
      exact ⟨q, q1.symm, q2.symm, fun k hk => (q3 k hk).symm, fun k hk => (q4 k hk).symm⟩
    · exact absurd t (t2 _ _ _ _))
  clear h2 o2 b4 bB b4B X4 O4 B4
  obtain ⟨x0, x1⟩ := X5.out
  go_wp2_with fail
  clear x0 x1
  obtain ⟨W4, hW4⟩ : ∃ W4, w4.alloc (.cells #[.slice p r2 c2, .slice p' n2 d2] 24) = W4 := ⟨_, rfl⟩
  rw [hW4] at Y5 P5 X5 O5 B5 y5 ⊢
  clear hW4
  refine (Vo.specTensorOk W4.heap.size a b r n c d D S W4 (Nat.le_refl _) O5.out.d.ints O5.out.t.ints hr hn).mono ?_; rintro e w5 ⟨rfl, b5⟩
  have z5 := b5.size
  have X6 := Vl.hide (X5.out.below b5 (by omega))
  have Y6 := Vl.hide (Y5.out.below b5 (by omega))
  have O6 := Vl.hide (O5.out.below b5)
  have P6 := Vl.hide (P5.out.below b5)
  have B6 := Vl.hide (B5.out.trans (b5.mono B5.out.size))
  clear b5 X5 Y5 O5 P5 B5
  cases ht : Vo.tok r n D S with
  | false =>
    obtain ⟨w6, hw6⟩ : ∃ w6, w6 = w5 := ⟨_, rfl⟩
    subst hw6
    have B7 := B6
    clear B6 X6 Y6 O6 P6 TRUE ht
    go_wp2_with fail
    refine (Vo.drawReadF wq.heap.size a0 len0 cap0 C w6 (CF.out.below B7.out) B7.out.size).mono ?_; rintro e w7 ⟨rfl, b7⟩
    have B8 := Vl.hide (B7.out.trans (b7.mono B7.out.size))
    clear b7 B7
    obtain ⟨u, hu⟩ : ∃ u : ByteArray, (⟨(Vo.rdT len0 C).toArray⟩ : ByteArray) = u := ⟨_, rfl⟩
    have ul : u.data.toList = Vo.rdT len0 C := by rw [← hu]
    have us : u.size ≤ 1048576 := by rw [Lib.size_eq, ul]; omega
    have UL := Vl.hide ul
    have HU := Vl.hide hu
    rw [hu]
    clear hu ul
    go_wp2_with fail
    refine (Vo.readTensorF u w7 us (hv.out.below B8.out)).mono ?_; rintro e w8 ⟨⟨r3, n3, D3, S3⟩, b3', f, c3, f', d3, h3, rfl, o3, b8⟩
    dsimp only at h3 o3
    rw [UL.out] at h3
    obtain ⟨hr3, hn3⟩ := Vo.rd_le h3
    have z8 := b8.size
    have bC := (Below.refl w8.heap.size w8).alloc (Nat.le_refl _) (.cells #[.slice f r3 c3, .slice f' n3 d3] 24)
    have b8C := b8.trans (bC.mono z8)
    have Z9 := Vl.hide (Vo.bx_new w8 (.slice f r3 c3) (.slice f' n3 d3) 24)
    have P9 := Vl.hide (o3.below bC)
    have B9 := Vl.hide (B8.out.trans (b8C.mono B8.out.size))
    have y9 : w8.heap.size + 1 ≤ (w8.alloc (.cells #[.slice f r3 c3, .slice f' n3 d3] 24)).heap.size := by simp
    have FINE := Vl.hide (show b3' = true → Vo.tenT r3 n3 D3 S3 = Vo.rdT len0 C from fun hb => by
      rcases h3 with ⟨_, t⟩ | ⟨q, _, _⟩
      · exact (Vo.tr_tenT t.1).1 t
      · rw [hb] at q; exact absurd q (by decide))
    clear h3 o3 b8 bC b8C B8
    cases b3' with
    | false =>
      go_wp2_with fail
      go_ret
      exact ⟨rfl, B9.out⟩
    | true =>
      have EF := Vl.hide (FINE.out rfl)
      clear FINE
      obtain ⟨x0, x1⟩ := Z9.out
      go_wp2_with fail
      clear x0 x1
      obtain ⟨W9, hW9⟩ : ∃ W9, w8.alloc (.cells #[.slice f r3 c3, .slice f' n3 d3] 24) = W9 := ⟨_, rfl⟩
      rw [hW9] at Z9 P9 B9 y9 ⊢
      clear hW9
      refine (Vo.showTensorF W9.heap.size f f' r3 n3 c3 d3 D3 S3 W9 (Nat.le_refl _) P9.out.d.ints P9.out.t.ints (by omega) (by omega) (hv.out.below B9.out).v.pows).mono ?_; rintro e w10 ⟨rfl, b10⟩
      have B10 := Vl.hide (B9.out.trans (b10.mono B9.out.size))
      clear b10
      rw [EF.out, HU.out]
      go_wp2_with fail
      refine (Vo.drawReadF wq.heap.size a0 len0 cap0 C w10 (CF.out.below B10.out) B10.out.size).mono ?_; rintro e w11 ⟨rfl, b11⟩
      have B11 := Vl.hide (B10.out.trans (b11.mono B10.out.size))
      clear b11
      rw [HU.out]
      have ub : (u.toList == u.toList) = true := (Lib.bytes_beq_iff _ _).2 rfl
      go_wp2_with fail
      go_ret
      exact ⟨rfl, B11.out⟩
  | true =>
    obtain ⟨rfl, rfl, rfl, eD, eS⟩ := TRUE.out ht
    have ED := Vl.hide eD
    have ES := Vl.hide eS
    clear TRUE ht eD eS
    obtain ⟨x0, x1⟩ := X6.out
    obtain ⟨y0, y1'⟩ := Y6.out
    go_wp2_with fail
    clear x0 x1 y0 y1'
    refine (Vo.sameF w5.heap.size p p' a b r2 n2 c2 d2 c d D S w5 (Nat.le_refl _) (P6.out.d.ints.same (fun j hj => (ED.out j hj).symm)) (P6.out.t.ints.same (fun j hj => (ES.out j hj).symm)) O6.out.d.ints O6.out.t.ints (by omega) (by omega)).mono ?_; rintro e w6 ⟨rfl, b6⟩
    have B7 := Vl.hide (B6.out.trans (b6.mono B6.out.size))
    clear B6 X6 Y6 O6 P6 b6
    go_wp2_with fail
    refine (Vo.drawReadF wq.heap.size a0 len0 cap0 C w6 (CF.out.below B7.out) B7.out.size).mono ?_; rintro e w7 ⟨rfl, b7⟩
    have B8 := Vl.hide (B7.out.trans (b7.mono B7.out.size))
    clear b7 B7
    obtain ⟨u, hu⟩ : ∃ u : ByteArray, (⟨(Vo.rdT len0 C).toArray⟩ : ByteArray) = u := ⟨_, rfl⟩
    have ul : u.data.toList = Vo.rdT len0 C := by rw [← hu]
    have us : u.size ≤ 1048576 := by rw [Lib.size_eq, ul]; omega
    have UL := Vl.hide ul
    have HU := Vl.hide hu
    rw [hu]
    clear hu ul
    go_wp2_with fail
    refine (Vo.readTensorF u w7 us (hv.out.below B8.out)).mono ?_; rintro e w8 ⟨⟨r3, n3, D3, S3⟩, b3', f, c3, f', d3, h3, rfl, o3, b8⟩
    dsimp only at h3 o3
    rw [UL.out] at h3
    obtain ⟨hr3, hn3⟩ := Vo.rd_le h3
    have z8 := b8.size
    have bC := (Below.refl w8.heap.size w8).alloc (Nat.le_refl _) (.cells #[.slice f r3 c3, .slice f' n3 d3] 24)
    have b8C := b8.trans (bC.mono z8)
    have Z9 := Vl.hide (Vo.bx_new w8 (.slice f r3 c3) (.slice f' n3 d3) 24)
    have P9 := Vl.hide (o3.below bC)
    have B9 := Vl.hide (B8.out.trans (b8C.mono B8.out.size))
    have y9 : w8.heap.size + 1 ≤ (w8.alloc (.cells #[.slice f r3 c3, .slice f' n3 d3] 24)).heap.size := by simp
    have FINE := Vl.hide (show b3' = true → Vo.tenT r3 n3 D3 S3 = Vo.rdT len0 C from fun hb => by
      rcases h3 with ⟨_, t⟩ | ⟨q, _, _⟩
      · exact (Vo.tr_tenT t.1).1 t
      · rw [hb] at q; exact absurd q (by decide))
    clear h3 o3 b8 bC b8C B8
    cases b3' with
    | false =>
      go_wp2_with fail
      go_ret
      exact ⟨rfl, B9.out⟩
    | true =>
      have EF := Vl.hide (FINE.out rfl)
      clear FINE
      obtain ⟨x0, x1⟩ := Z9.out
      go_wp2_with fail
      clear x0 x1
      obtain ⟨W9, hW9⟩ : ∃ W9, w8.alloc (.cells #[.slice f r3 c3, .slice f' n3 d3] 24) = W9 := ⟨_, rfl⟩
      rw [hW9] at Z9 P9 B9 y9 ⊢
      clear hW9
      refine (Vo.showTensorF W9.heap.size f f' r3 n3 c3 d3 D3 S3 W9 (Nat.le_refl _) P9.out.d.ints P9.out.t.ints (by omega) (by omega) (hv.out.below B9.out).v.pows).mono ?_; rintro e w10 ⟨rfl, b10⟩
      have B10 := Vl.hide (B9.out.trans (b10.mono B9.out.size))
      clear b10
      rw [EF.out, HU.out]
      go_wp2_with fail
      refine (Vo.drawReadF wq.heap.size a0 len0 cap0 C w10 (CF.out.below B10.out) B10.out.size).mono ?_; rintro e w11 ⟨rfl, b11⟩
      have B11 := Vl.hide (B10.out.trans (b11.mono B10.out.size))
      clear b11
      rw [HU.out]
      have ub : (u.toList == u.toList) = true := (Lib.bytes_beq_iff _ _).2 rfl
      go_wp2_with fail
      go_ret
      exact ⟨rfl, B11.out⟩

set_option maxRecDepth 100000 in
theorem lifted (os : Os) (started : os.Started) (H : Type) (enc : TypeId × Value → H) :
    ReturnsInHanded {} Tryz.checked os 4 .any (fun w args => (Rows.fnTensorBackSpec.pre enc Tryz.prog Tryz.f4 Rows.fnTensorBackRow.domain false w args ∧ laidMetH Tryz.prog Rows.fnTensorBackRow.laid w) ∧ sizedMet enc Tryz.prog Tryz.f4 (OpenSpec.ofChange Rows.fnTensorBackSpec) false w args) (Rows.fnTensorBackSpec.post enc Tryz.prog Tryz.f4 false true false false) := by
  refine returnsInHanded_of_change_and (C := Tryz.checked) (X := fun w _ => laidMetH Tryz.prog Rows.fnTensorBackRow.laid w) (fun _ _ _ hh h => h.of_heap hh) own started (by kernel_rfl) Tryz.func4
    (ChangeSpec.witness_shaped (enc := enc) (C := Tryz.checked) (os := os) (X := fun w _ => laidMetH Tryz.prog Rows.fnTensorBackRow.laid w) false (World.laidAll Tryz.prog os Rows.fnTensorBackRow.laid) #[.slice none 0 0] 8 (World.laidAll_os _ _ _)
      (World.shaped_of_ZipB (by kernel_rfl) (by kernel_rfl)) (by kernel_rfl) (by kernel_rfl) (by kernel_rfl)
      (by rw [MakeChecks.laidMetH_plain _ _ _ (by kernel_rfl)]; exact laidMet_laidAll _ (by kernel_rfl) (by kernel_rfl))) ?_
  intro W base args ds gs before hval0 hW hcnd _ hL _
  have hval : ∀ (j : Nat) t v, Tryz.f4.params[j]? = some t → args[j]? = some v → Value.okWide Tryz.prog W .any base t v := hval0
  have hW' := hW
  obtain ⟨p, q, hA0, hV, rfl, hfz, hnd⟩ := hW
  have hA : DataW.TrodAll enc Tryz.prog W 0 (fun _ => true) true Tryz.f4.params.toList args.toList ds p := hA0
  rw [Tryz.params4] at hA hval
  obtain ⟨v0, vs0, d0, ds0, p0, q0, hargs, rfl, rfl, h0, rst0⟩ := trodAll_cons hA
  obtain ⟨rfl, rfl, rfl⟩ := trodAll_nil rst0
  obtain rfl : args = #[v0] := by cases args; simp_all
  obtain ⟨rfl, rfl⟩ := trodVars_none hV
  have k0 := h0
  have lt0 : ∀ x ∈ p0, x.block < W.heap.size := by obtain ⟨m, hm⟩ := k0; exact DataW.trod_lt m _ _ _ hm
  obtain ⟨a0, len0, cap0, rfl⟩ := okWide_slice Tryz.underlying30 (hval 0 30 v0 rfl rfl)
  have w0 : Base.Code W.heap.size W a0 len0 := by
    obtain ⟨fuel, hf⟩ := h0
    rcases open_ints Tryz.underlying30 Tryz.underlying5 (by kernel_rfl) hf with ⟨hcs, _⟩ | ⟨x, l, c, zs, hcs, _, hl, hm, hz, _, hcell, hwz⟩
    · simp [Value.cells] at hcs
      obtain ⟨rfl, rfl, rfl⟩ := hcs
      exact ⟨by omega, .inl rfl⟩
    · simp [Value.cells] at hcs
      obtain ⟨rfl, rfl, rfl⟩ := hcs
      exact Base.code_of hl hm (by simpa using hz) hcell hwz
  clear hA0 hval0
  refine (walk a0 len0 cap0 W hL w0).mono fun e W' ⟨he, bel⟩ => ?_
  subst he
  exact ⟨_, rfl, _, _, _, [], _, [], hW', trodAll_mk1 (shut_bool Tryz.underlying4 _), (trodAll_cons_mk (Below.trod laidOut (by kernel_rfl) (of_decide_eq_true (by kernel_rfl)) k0 bel lt0) trodAll_mk0), rfl, bel.frame _, fun h => by cases h⟩

theorem over : Rows.fnTensorBackRow.holds Tryz.pinned (OpenSpec.ofChange Rows.fnTensorBackSpec) :=
  OpenClaim.holds_of_wide 4 Tryz.f4 rfl rfl rfl rfl rfl rfl rfl ⟨rfl, rfl, rfl, rfl, rfl⟩ rfl rfl rfl rfl rfl (by kernel_rfl) Tryz.func4 (by kernel_rfl)
    (of_decide_eq_true (by kernel_rfl)) (by unfold Func.isWrapper; first | (rw [if_pos (by decide +kernel)]; kernel_rfl) | (rw [if_neg (by decide +kernel)]; exact ⟨rfl, rfl⟩))
    (fun os started H enc _ => lifted os started H enc)

theorem card : Rows.FnTensorBackCardSaid :=
  Claim7.holds_tied_plain_at .later [] [.data, .data, .data, .sentinel, .sentinel, .listed, .data] true (true, "03bfa6e543492020a695c4a3fba6f08253ca4c614fb9d6a7e53ca34bbb2ccd00") true over (fun _ h => by cases h) (by kernel_rfl) (fun _ h => by cases h) fnTensorBack_row_tie rfl ⟨rfl, rfl⟩ (by kernel_rfl) rfl
    (fun f fn hf hfn => by
      obtain rfl : f = 4 := Option.some.inj ((show Tryz.prog.funcNamed Tryz.f4.name = some 4 by kernel_rfl).symm.trans hf) |>.symm
      obtain rfl : fn = Tryz.f4 := (Option.some.inj (Tryz.func4.symm.trans hfn)).symm
      exact ⟨by kernel_rfl, fun j t ht => by
        rw [Tryz.params4] at ht
        have hm : t ∈ [30] := by simpa using Array.mem_of_getElem? ht
        have hall : ([30].all fun u => !Tryz.prog.wantsStandIn u) = true := by kernel_rfl
        exact (show Tryz.prog.wantsStandIn t = false by simpa using List.all_eq_true.1 hall t hm)⟩)
    (by kernel_rfl)
#print axioms card
end Go.Proofs.YtbbmbgjjhaajjaaGreatDoor.fnTensorBack
