/- What the laws draw, as functions of the bytes: texts of tensors. For the law of FnTensorBack: tensors that are the same, what the row lists, one text. -/
import Derived.Test.YtbbmbgjjhaajjaaGreatDoorKb
import Derived.Test.YtbbmbgjjhaajjaaGreatDoorSd
import Derived.Test.YtbbmbgjjhaajjaaGreatDoorKc
import Derived.Test.YtbbmbgjjhaajjaaGreatDoorKg
import Derived.Test.YtbbmbgjjhaajjaaGreatDoorDj
namespace Go.Proofs.YtbbmbgjjhaajjaaGreatDoor
namespace Vo
open Go.ChangeShapes Go.WideShapes Go.ChangeAt Go.RowKit Go.Joins Go.Sort
open Vl Vp
open Base (CodeF CurF DrF blV blS blV_bd belowF onceF pickF laid_at numR numR_is OneF)
set_option linter.unusedVariables false
set_option linter.unusedSimpArgs false
theorem pickT (B : Nat) (p : Nat) (a : Option Addr) (len cap : Nat) (C : Nat → Int) (z : Nat × Int) (q n : Nat) (Z : Nat → ByteArray) (w : World) (hc : CurF B w p a len cap C z) (hq : q ≠ p) (n0 : 1 ≤ n) (n1 : n ≤ 100)
    (hl : ∀ j, j < n → w.cell? ⟨q, j, none⟩ = some (.string (Z j))) :
    Calls Tryz.prog 37 #[.pointer (some ⟨p, 0, none⟩), .slice (some ⟨q, 0, none⟩) n n] w fun e w' => e = .returned (.string (Z (blV len C n z).toNat)) ∧ CurF B w' p a len cap C (blS len n z) ∧ w.grownBy w' (some p) := by
  have hc := hide hc
  have HL := hide hl
  clear hl
  have xb := blV_bd len C (n := (n : Int)) z (by omega)
  go_enter Tryz.func37, Tryz.ntmps37
  go_wp2_with fail
  refine (belowF B p a len cap C z _ _ hc.out (by omega) (by omega)).mono ?_; rintro e w1 ⟨rfl, d1, g1⟩
  obtain ⟨x, hx⟩ : ∃ x : Int, blV len C n z = x := ⟨_, rfl⟩
  rw [hx] at xb ⊢
  have HX := hide hx
  clear hx
  obtain ⟨j, rfl⟩ := Int.eq_ofNat_of_zero_le xb.1
  have EJ := hide (show Z (blV len C n z).toNat = Z j by rw [HX.out, Int.toNat_natCast])
  have hz' := g1.cell (HL.out j (by omega)) (by intro e; injection e with e; exact hq e)
  have hj : j < n := by omega
  clear HL
  obtain ⟨v, hv⟩ : ∃ v, Z j = v := ⟨_, rfl⟩
  rw [hv] at EJ hz'
  clear hv
  go_wp2_with fail
  go_ret
  exact ⟨by rw [EJ.out]; rfl, d1, g1⟩
def pkT : List (List UInt8) := [[32], [93], [49], [48], [91], [45], [35], [32, 49]]
/-- the tensor of which a text is drawn -/
noncomputable def rdL (len : Nat) (C : Nat → Int) : List Int := (dmR len C 20 (nwZ len C)).1
noncomputable def rdZ (len : Nat) (C : Nat → Int) : Nat × Int := (dmR len C 20 (nwZ len C)).2
noncomputable def rdN (len : Nat) (C : Nat → Int) : Nat := (szR (gd (rdL len C)) (rdL len C).length).toNat
noncomputable def rdS (len : Nat) (C : Nat → Int) : Nat → Int := ceV len C (rdZ len C)
noncomputable def rd0 (len : Nat) (C : Nat → Int) : List UInt8 := tenT (rdL len C).length (rdN len C) (gd (rdL len C)) (rdS len C)
noncomputable def rdY (len : Nat) (C : Nat → Int) : Nat × Int := ceZ len C (rdZ len C) (rdN len C)
/-- where it is broken, and by what -/
noncomputable def rdA (len : Nat) (C : Nat → Int) : Nat := (blV len C ((rd0 len C).length + 1) (blS len 3 (rdY len C))).toNat
noncomputable def rdK (len : Nat) (C : Nat → Int) : Nat := (blV len C ((8 : Nat) : Int) (blS len ((rd0 len C).length + 1) (blS len 3 (rdY len C)))).toNat
/-- the text that is drawn -/
noncomputable def rdT (len : Nat) (C : Nat → Int) : List UInt8 := if blV len C 3 (rdY len C) = 0 then (rd0 len C).take (rdA len C) ++ pkT.getD (rdK len C) [] ++ (rd0 len C).drop (rdA len C) else rd0 len C
theorem tenT_short (r s : Nat) (D S : Nat → Int) : (tenT r s D S).length ≤ 65536 := by
  cases h : tok r s D S with
  | false => unfold tenT; rw [if_neg (by rw [h]; decide)]; exact Nat.zero_le _
  | true =>
    obtain ⟨e, m, _, q⟩ := ((tr_tenT h).2 rfl : TR (tenT r s D S) r s D S).md
    exact q
theorem pkT_short (j : Nat) : (pkT.getD j []).length ≤ 2 := by
  match j with
  | 0 => decide
  | 1 => decide
  | 2 => decide
  | 3 => decide
  | 4 => decide
  | 5 => decide
  | 6 => decide
  | 7 => decide
  | j + 8 => simp [pkT, List.getD]
theorem rdT_short (len : Nat) (C : Nat → Int) : (rdT len C).length ≤ 65538 := by
  have := tenT_short (rdL len C).length (rdN len C) (gd (rdL len C)) (rdS len C)
  have := pkT_short (rdK len C)
  unfold rdT
  split
  · rw [List.length_append, List.length_append, List.length_take, List.length_drop]
    unfold rd0
    omega
  · unfold rd0; omega
set_option maxRecDepth 100000 in
set_option maxHeartbeats 4000000 in
theorem drawReadF (B : Nat) (a : Option Addr) (len cap : Nat) (C : Nat → Int) (w : World) (hc : CodeF B w a len C) (hB : B ≤ w.heap.size) :
    Calls Tryz.prog 15 #[.slice a len cap] w fun e w' => e = .returned (.string ⟨(rdT len C).toArray⟩) ∧ Below w.heap.size w w' := by
  have HC := hide hc
  clear hc
  have lenL := dmR_len len C 20 (nwZ len C)
  have TS := tenT_short (rdL len C).length (rdN len C) (gd (rdL len C)) (rdS len C)
  go_enter Tryz.func15, Tryz.ntmps15
  go_wp2_with fail
  refine (newF B a len cap C w HC.out hB).mono ?_; rintro e w1 ⟨rfl, d1, b1, l1⟩
  have D1 := hide d1
  have B1 := hide b1
  clear d1 b1
  go_wp2_with fail
  refine (dimsF B w.heap.size a len cap C (nwZ len C) 20 w1 D1.out (by omega) (by omega)).mono ?_; rintro e w2 ⟨g, c, rfl, r2, d2, g2⟩
  have z2 := g2.size
  have R2 := hide r2
  have D2 := hide d2
  have K2 := hide (show Below w.heap.size w w2 from B1.out.trans ((keptG g2).below (Nat.le_of_lt l1) (fun k e => by have e : k = w.heap.size := e; omega)))
  obtain ⟨av, cv, hav, hO⟩ := r2.own
  cases hav
  have I2 := hide hO.ints
  clear r2 d2 g2 hO D1 B1
  have sb := szR_rng (gd (dmR len C 20 (nwZ len C)).1) (dmR len C 20 (nwZ len C)).1.length
  go_wp2_with fail
  refine (drawOfF B w.heap.size a len cap C (dmR len C 20 (nwZ len C)).2 w2.heap.size ⟨g, 0, none⟩ (dmR len C 20 (nwZ len C)).1.length c (rdN len C) (gd (dmR len C 20 (nwZ len C)).1) w2 D2.out (Nat.le_refl _) I2.out (by omega) (by unfold rdN rdL; omega) (by unfold rdN rdL; omega)).mono ?_
  rintro e w3 ⟨va, vc, g3, rfl, o3, _, _, _, _, d3, k3⟩
  have z3 := k3.size
  have D3 := hide (show CurF B w3 w.heap.size a len cap C (rdY len C) from d3)
  have K3 := hide (K2.out.trans (k3.below K2.out.size (fun k e => by have e : k = w.heap.size := e; omega)))
  have SH := hide (specShowTensor w3.heap.size va (some ⟨g3, 0, none⟩) (rdL len C).length (rdN len C) vc (rdN len C) (gd (rdL len C)) (rdS len C) w3 (Nat.le_refl _) o3.d.ints o3.t.ints (by unfold rdL; omega) (by unfold rdN rdL; omega))
  have ET : Hid (rd0 len C = tenT (rdL len C).length (rdN len C) (gd (rdL len C)) (rdS len C)) := hide rfl
  rw [← ET.out] at SH TS
  clear d3 k3 o3 R2 D2 K2 I2 ET
  go_wp2_with fail
  refine SH.out.mono ?_; rintro e w4 ⟨rfl, b4⟩
  have z4 := b4.size
  have D4 := hide (D3.out.below b4)
  have K4 := hide (K3.out.trans (b4.mono K3.out.size))
  clear b4 SH D3 K3
  have EA : Hid (rdA len C = (blV len C ((rd0 len C).length + 1) (blS len 3 (rdY len C))).toNat) := hide rfl
  have EK : Hid (rdK len C = (blV len C ((8 : Nat) : Int) (blS len ((rd0 len C).length + 1) (blS len 3 (rdY len C)))).toNat) := hide rfl
  have ER : Hid (rdT len C = if blV len C 3 (rdY len C) = 0 then (rd0 len C).take (rdA len C) ++ pkT.getD (rdK len C) [] ++ (rd0 len C).drop (rdA len C) else rd0 len C) := hide rfl
  generalize rd0 len C = T at *
  go_wp2_with fail
  refine (onceF B w.heap.size a len cap C (rdY len C) 3 w4 D4.out (by omega) (by omega)).mono ?_; rintro e w5 ⟨rfl, d5, g5⟩
  have D5 := hide d5
  have K5 := hide (K4.out.trans ((keptG g5).below K4.out.size (fun k e => by have e : k = w.heap.size := e; omega)))
  have z5 := g5.size
  clear d5 g5 D4 K4
  by_cases hb : blV len C 3 (rdY len C) = 0
  · have hb' : (blV len C 3 (rdY len C) == 0) = true := beq_iff_eq.2 hb
    rw [if_pos hb] at ER
    generalize blV len C 3 (rdY len C) = bb at hb'
    clear hb
    have sz : (⟨T.toArray⟩ : ByteArray).size = T.length := by rw [Lib.size_eq]
    obtain ⟨x, hx⟩ : ∃ x : ByteArray, (⟨T.toArray⟩ : ByteArray) = x := ⟨_, rfl⟩
    have HX := hide hx
    rw [hx] at sz ⊢
    have SZ := hide sz
    have szI : (x.size : Int) ≤ 65536 := by omega
    clear hx sz
    have vb := blV_bd len C (n := (T.length : Int) + 1) (blS len 3 (rdY len C)) (by omega)
    have CB := hide (belowF B w.heap.size a len cap C (blS len 3 (rdY len C)) ((x.size : Int) + 1) w5 D5.out (by omega) (by omega))
    have eT : (T.length : Int) = (x.size : Int) := by have := SZ.out; omega
    have ET := hide eT
    rw [eT] at vb EA EK
    clear eT
    go_wp2_with fail
    refine CB.out.mono ?_; rintro e w6 ⟨rfl, d6, g6⟩
    have D6 := hide d6
    have K6 := hide (K5.out.trans ((keptG g6).below K5.out.size (fun k e => by have e : k = w.heap.size := e; omega)))
    have z6 := g6.size
    clear d6 g6 D5 K5 CB
    obtain ⟨at', hat⟩ : ∃ n : Nat, blV len C ((x.size : Int) + 1) (blS len 3 (rdY len C)) = n := ⟨(blV len C ((x.size : Int) + 1) (blS len 3 (rdY len C))).toNat, by omega⟩
    rw [hat] at vb EA ⊢
    rw [Int.toNat_natCast] at EA
    clear hat
    have atI : (at' : Int) ≤ (x.size : Int) := by omega
    have atI2 : (0 : Int) ≤ (at' : Int) := by omega
    have p6 := D6.out.lt
    have PICK := hide (pickT B w.heap.size a len cap C (blS len ((x.size : Int) + 1) (blS len 3 (rdY len C))) w6.heap.size 8 (fun j => ⟨(pkT.getD j []).toArray⟩) (w6.drew.alloc (.cells (pkT.map (fun l => Value.string ⟨l.toArray⟩)).toArray 9)) ((D6.out.below ((Below.refl _ _).drew)).alloc _) (by omega) (by omega) (by omega) (fun j hj => by
      rw [World.cell?_alloc_at _ _ _ _ (by simp)]
      match j, hj with
      | 0, _ => rfl
      | 1, _ => rfl
      | 2, _ => rfl
      | 3, _ => rfl
      | 4, _ => rfl
      | 5, _ => rfl
      | 6, _ => rfl
      | 7, _ => rfl))
    rw [← EK.out] at PICK
    have ps := pkT_short (rdK len C)
    have psz : (⟨(pkT.getD (rdK len C) []).toArray⟩ : ByteArray).size = (pkT.getD (rdK len C) []).length := by rw [Lib.size_eq]
    obtain ⟨u, hu⟩ : ∃ u : ByteArray, (⟨(pkT.getD (rdK len C) []).toArray⟩ : ByteArray) = u := ⟨_, rfl⟩
    have HU := hide hu
    rw [hu] at PICK psz
    clear hu
    have us : (u.size : Int) ≤ 2 := by omega
    clear psz
    have f1 : ¬ 9223372036854775807 < min at' x.size + u.size := by omega
    have f2 : ¬ 9223372036854775807 < min at' x.size + u.size + (x.size - at') := by omega
    go_wp2_with fail
    go_region_held3 (fun w' => True) (trivial)
      (first
      | (go_at_call 37
         refine PICK.out.mono ?_
         rintro e w7 ⟨rfl, d7, g7⟩))
    have z7 := g7.size
    have K7 := hide (K6.out.trans (Below.trans ((Below.mono ((Below.refl w6.heap.size w6).drew.alloc (Nat.le_refl _) (.cells (pkT.map (fun l => Value.string ⟨l.toArray⟩)).toArray 9)) K6.out.size)) ((keptG g7).below (by simp; omega) (fun k e => by have e : k = w.heap.size := e; omega))))
    have EX := hide (show x.extract 0 at' ++ u ++ x.extract at' x.size = ⟨(rdT len C).toArray⟩ by
      rw [ER.out, EA.out, ← HX.out, ← HU.out, ext_list, ext_list]
      apply ByteArray.ext
      apply Array.toList_inj.1
      have e5 : (⟨T.toArray⟩ : ByteArray).size = T.length := by rw [Lib.size_eq]
      rw [e5]
      simp)
    go_wp2_with fail
    go_ret
    exact ⟨by rw [← EX.out]; rfl, K7.out⟩
  · have hb' : (blV len C 3 (rdY len C) == 0) = false := beq_eq_false_iff_ne.2 hb
    rw [if_neg hb] at ER
    generalize blV len C 3 (rdY len C) = bb at hb'
    clear hb
    go_wp2_with fail
    go_ret
    exact ⟨by rw [ER.out]; rfl, K5.out⟩
end Vo
end Go.Proofs.YtbbmbgjjhaajjaaGreatDoor
namespace Go.Proofs.YtbbmbgjjhaajjaaGreatDoor
namespace Vo
open Go.ChangeShapes Go.WideShapes Go.ChangeAt Go.RowKit Go.Joins Go.Sort
open Vl Vp Txt
set_option linter.unusedVariables false
set_option linter.unusedSimpArgs false
set_option maxRecDepth 100000 in
theorem sameIntsF (B : Nat) (a a' : Option Addr) (n cap cap' : Nat) (D : Nat → Int) (w : World) (h : Ints B w a n D) (h' : Ints B w a' n D) (hn : (n : Int) ≤ 1048576) :
    Calls Tryz.prog 31 #[.slice a n cap, .slice a' n cap'] w fun e w' => e = .returned (.bool true) ∧ Below w.heap.size w w' := by
  have H := hide h
  have H' := hide h'
  clear h h'
  go_enter Tryz.func31, Tryz.ntmps31
  go_wp2_with fail
  go_loopw [5] (fun i wx => ∃ t : Nat, t ≤ n ∧ i = .int .i64 (t : Int) ∧ ∃ k, wx = w.drewN k) (fun i _ => n - (intOf i).toNat)
  case atStart => exact ⟨0, Nat.zero_le _, rfl, 0, rfl⟩
  case round =>
    obtain ⟨t, ht, rfl, k, rfl⟩ := hrel
    by_cases htl : t < n
    · have tI : (t : Int) < n := by omega
      rcases H.out with q | ⟨b, o, rfl, hb, hc⟩
      · omega
      rcases H'.out with q | ⟨b', o', rfl, hb', hc'⟩
      · omega
      have ct := (hc t htl).1
      have ct' := (hc' t htl).1
      clear hc hc'
      generalize D t = x at ct ct'
      go_wp2_with fail
      go_quiet (fail)
      go_wp2_with fail
      go_roundw
      case rel => exact ⟨t + 1, by omega, by go_num, _, rfl⟩
      case measure => simp [intOf]; omega
    · have tI : decide ((t : Int) < (n : Int)) = false := decide_eq_false (by omega)
      have tI' : decide (t < n) = false := decide_eq_false (by omega)
      clear htl
      go_wp2_with fail
      go_ret
      exact ⟨rfl, ⟨rfl, rfl, rfl, Nat.le_refl _, fun _ _ => rfl⟩⟩
set_option maxRecDepth 100000 in
theorem sameF (B : Nat) (a b a' b' : Option Addr) (r s c d c' d' : Nat) (D S : Nat → Int) (w : World) (hB : B ≤ w.heap.size) (h1 : Ints B w a r D) (h2 : Ints B w b s S) (h3 : Ints B w a' r D) (h4 : Ints B w b' s S) (hr : (r : Int) ≤ 1048576) (hs : (s : Int) ≤ 1048576) :
    Calls Tryz.prog 14 #[.agg #[.slice a r c, .slice b s d], .agg #[.slice a' r c', .slice b' s d']] w fun e w' => e = .returned (.bool true) ∧ Below w.heap.size w w' := by
  obtain ⟨W0, hW0⟩ : ∃ W0, (w.alloc (.cells #[.slice a r c, .slice b s d] 24)).alloc (.cells #[.slice a' r c', .slice b' s d'] 24) = W0 := ⟨_, rfl⟩
  have bl : Below w.heap.size w W0 := by rw [← hW0]; exact ((Below.refl _ _).alloc (Nat.le_refl _) _).alloc (by simp) _
  have z0 : w.heap.size + 2 ≤ W0.heap.size := by rw [← hW0]; simp
  have X0 := hide (show Bx W0 w.heap.size (.slice a r c) (.slice b s d) by rw [← hW0]; exact (bx_new w _ _ _).below ((Below.refl _ _).alloc (Nat.le_refl _) _) (by simp))
  have Y0 := hide (show Bx W0 (w.heap.size + 1) (.slice a' r c') (.slice b' s d') by
    rw [← hW0]
    have := bx_new (w.alloc (.cells #[.slice a r c, .slice b s d] 24)) (.slice a' r c') (.slice b' s d') 24
    simpa using this)
  have I1 := hide (h1.below (bl.mono hB))
  have I2 := hide (h2.below (bl.mono hB))
  have I3 := hide (h3.below (bl.mono hB))
  have I4 := hide (h4.below (bl.mono hB))
  have B0 := hide bl
  have H0 := hide hW0
  clear bl h1 h2 h3 h4
  obtain ⟨x0, x1⟩ := X0.out
  obtain ⟨y0, y1⟩ := Y0.out
  rw [← hW0] at x0 x1 y0 y1
  clear hW0
  go_enter Tryz.func14, Tryz.ntmps14
  go_wp2_with fail
  rw [H0.out]
  refine (sameIntsF B a a' r c c' D W0 I1.out I3.out hr).mono ?_; rintro e w1 ⟨rfl, b1⟩
  have X1 := hide (X0.out.below b1 (by omega))
  have Y1 := hide (Y0.out.below b1 (by omega))
  have I2' := hide (I2.out.below (b1.mono (by omega)))
  have I4' := hide (I4.out.below (b1.mono (by omega)))
  have B1 := hide (B0.out.trans (b1.mono B0.out.size))
  clear b1 x0 x1 y0 y1 X0 Y0 I1 I2 I3 I4 B0 H0
  obtain ⟨x0, x1⟩ := X1.out
  obtain ⟨y0, y1⟩ := Y1.out
  go_wp2_with fail
  refine (sameIntsF B b b' s d d' S w1 I2'.out I4'.out hs).mono ?_; rintro e w2 ⟨rfl, b2⟩
  have B2 := hide (B1.out.trans (b2.mono B1.out.size))
  clear b2
  go_wp2_with fail
  go_ret
  exact ⟨rfl, B2.out⟩
/-- the text of the tensor 1 -/
theorem text_1 (D S : Nat → Int) (h : S 0 = 1) : tok 0 1 D S = true ∧ tenT 0 1 D S = [91, 93, 32, 49] := by
  have ha : Rec.Ans 1 1 1 true := .inl ⟨rfl, ⟨by decide, by decide, by decide, by decide, by decide⟩, fun n' d' q => q.1⟩
  have e1 : numT 1 = [49] := by
    rw [numT_is ha]
    unfold Base.showL
    rw [if_pos rfl, if_pos rfl]
    have q := itoa_dec 1
    rw [Lib.decDigits_one (by omega)] at q
    exact q
  have ht : tok 0 1 D S = true := tok_yes (by rw [dok_iff]; exact ⟨by omega, by show (0 : Int) < 1; decide⟩) rfl (fun j hj => by
    have : j = 0 := by omega
    subst this
    rw [h]; omega)
  refine ⟨ht, ?_⟩
  unfold tenT
  rw [if_pos ht]
  show 91 :: ([] ++ 93 :: ([] ++ 32 :: numT (S 0))) = _
  rw [h, e1]
  rfl
theorem tensorBack_vars {W : World} (h : laidMetH Tryz.prog Rows.fnTensorBackRow.laid W) : TVars W := by
  rw [MakeChecks.laidMetH_plain _ _ _ (by kernel_rfl)] at h
  exact ⟨⟨Base.pows_at h.tail.tail, Base.err_at Base.syn_g (by kernel_rfl) h.tail.tail.tail.tail, Base.err_at Base.ran_g (by kernel_rfl) h.tail.tail.tail⟩, sp_at h.tail.tail.tail.tail.tail.tail, wh_at h (by simp [Rows.fnTensorBackRow])⟩
end Vo
end Go.Proofs.YtbbmbgjjhaajjaaGreatDoor
