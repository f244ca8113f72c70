/- ReadTensor of the program. -/
import Derived.Test.YtbbmbgjjhaajjaaGreatDoorKe
import Derived.Test.YtbbmbgjjhaajjaaGreatDoorKd
import Derived.Test.YtbbmbgjjhaajjaaGreatDoorRead2
namespace Go.Proofs.YtbbmbgjjhaajjaaGreatDoor
namespace Vo
open Go.ChangeShapes Go.WideShapes Go.ChangeAt Go.RowKit Go.Joins Go.Sort
open Vl Vp Txt
set_option linter.unusedVariables false
set_option linter.unusedSimpArgs false
theorem cutN1 (s : ByteArray) (w : World) (hs : s.size ≤ 1048576) (h : Lib.indexByte s.data.toList 93 = -1) :
    Calls Tryz.prog 69 #[.string s, .string ⟨#[93]⟩] w fun e w' => e = .returned (.tuple #[.string s, .string ⟨#[]⟩, .bool false]) ∧ w' = w := by
  have hc := hide (Tryz.stringslite_Index_one s 93 w)
  rw [h] at hc
  clear h
  go_enter Tryz.func69, Tryz.ntmps69
  go_wp2_with fail
  refine hc.out.mono ?_; rintro e w1 ⟨rfl, rfl⟩
  go_wp2_with fail
  go_ret3
  exact ⟨rfl, rfl⟩
theorem cutY1 (s : ByteArray) (i : Nat) (w : World) (hs : s.size ≤ 1048576) (h : Lib.indexByte s.data.toList 93 = i) (hi : i < s.size) :
    Calls Tryz.prog 69 #[.string s, .string ⟨#[93]⟩] w fun e w' => e = .returned (.tuple #[.string (s.extract 0 i), .string (s.extract (i + 1) s.size), .bool true]) ∧ ∃ n, w' = w.drewN n := by
  have hc := hide (Tryz.stringslite_Index_one s 93 w)
  rw [h] at hc
  clear h
  have c1 : (0 : Int) ≤ (i : Int) := by omega
  have c2 : (i : Int) ≤ (s.size : Int) := by omega
  have c3 : (0 : Int) ≤ (i : Int) + 1 := by omega
  have c4 : (i : Int) + 1 ≤ (s.size : Int) := by omega
  go_enter Tryz.func69, Tryz.ntmps69
  go_wp2_with fail
  refine hc.out.mono ?_; rintro e w1 ⟨rfl, rfl⟩
  go_wp2_with fail
  go_quiet (fail)
  go_wp2_with fail
  go_ret3
  exact ⟨rfl, nq, rfl⟩
/-- strings.Cut at ] -/
theorem cut93 (s : ByteArray) (w : World) (hs : s.size ≤ 1048576) :
    Calls Tryz.prog 42 #[.string s, .string ⟨#[93]⟩] w fun e w' => ∃ b, e = .returned (.tuple #[.string ⟨(cutH s.data.toList).toArray⟩, .string ⟨(cutT s.data.toList).toArray⟩, .bool b]) ∧ Below w.heap.size w w' := by
  rcases Base.index_cases s.data.toList 93 with h | ⟨i, h, hi⟩
  · have E1 := hide (show s = ⟨(cutH s.data.toList).toArray⟩ by unfold cutH; rw [if_pos h])
    have E2 := hide (show (⟨#[]⟩ : ByteArray) = ⟨(cutT s.data.toList).toArray⟩ by unfold cutT; rw [if_pos h])
    have h := hide h
    go_enter Tryz.func42, Tryz.ntmps42
    go_wp2_with fail
    refine (cutN1 s _ hs h.out).mono ?_; rintro e w1 ⟨rfl, rfl⟩
    go_wp2_with fail
    go_ret3
    exact ⟨false, by rw [← E1.out, ← E2.out]; rfl, Below.refl _ _⟩
  · have E1 := hide (show s.extract 0 i = ⟨(cutH s.data.toList).toArray⟩ by
      unfold cutH
      rw [if_neg (by rw [h]; omega), h, ext_list]; simp)
    have E2 := hide (show s.extract (i + 1) s.size = ⟨(cutT s.data.toList).toArray⟩ by
      unfold cutT
      rw [if_neg (by rw [h]; omega), h, ext_list, List.take_of_length_le (Nat.le_of_eq (Lib.size_eq s).symm)]; simp)
    have hi : i < s.size := by rw [Lib.size_eq]; exact hi
    have h := hide h
    go_enter Tryz.func42, Tryz.ntmps42
    go_wp2_with fail
    refine (cutY1 s i _ hs h.out hi).mono ?_; rintro e w1 ⟨rfl, n, rfl⟩
    go_wp2_with fail
    go_ret3
    exact ⟨true, by rw [← E1.out, ← E2.out]; rfl, ⟨rfl, rfl, rfl, Nat.le_refl _, fun _ _ => rfl⟩⟩
/-- the library's variables that are read -/
structure TVars (w : World) : Prop where
  v : Base.Vars w
  sp : Lib.TabIs Tryz.prog w "strings.asciiSpace" .u8 Lib.asciiSpaceTab
  wh : Lib.WhiteTab 1 w
theorem sp_g : Tryz.prog.globalNamed "strings.asciiSpace" = some 0 := by kernel_rfl
theorem sp_lt {w : World} (hp : Lib.TabIs Tryz.prog w "strings.asciiSpace" .u8 Lib.asciiSpaceTab) : 0 < w.heap.size := by
  have h := World.var?_cell sp_g hp 0
  rcases Nat.lt_or_ge 0 w.heap.size with h' | h'
  · exact h'
  · simp [World.cell?, Array.getElem?_eq_none h', Lib.asciiSpaceTab] at h
theorem TVars.below {w w' : World} (hv : TVars w) (h : Below w.heap.size w w') : TVars w' :=
  ⟨Base.vars_below h hv.v, var?_below h sp_g (sp_lt hv.sp) hv.sp, WhiteTab_below hv.wh h⟩
theorem fieldsF (s : ByteArray) (w : World) (hs : s.size ≤ 1048576) (hv : TVars w) :
    Calls Tryz.prog 43 #[.string s] w fun e w' => ∃ A, e = .returned (.slice (some ⟨A, 0, none⟩) (Lib.fieldsD s.data.toList).length (Lib.fieldsD s.data.toList).length) ∧ w.heap.size ≤ A ∧ A < w'.heap.size ∧ (∀ t, t < (Lib.fieldsD s.data.toList).length → w'.cell? ⟨A, t, none⟩ = some (.string ⟨((Lib.fieldsD s.data.toList).getD t []).toArray⟩)) ∧ Below w.heap.size w w' := by
  refine (Tryz.strings_Fields_any s w (by omega) hv.sp hv.wh).mono ?_
  rintro e w' ⟨A, rfl, hA, ho, hb⟩
  refine ⟨A, rfl, hA, (ho.lt A rfl).2, fun t ht => ?_, hb⟩
  rw [ho.cellAt t (by omega)]
  exact strV_at ht
set_option maxRecDepth 100000 in
theorem guess1 (P A n k : Nat) (L : List (List UInt8)) (w : World) (hk : k < L.length) (h0 : w.cell? ⟨P, 0, none⟩ = some (.slice (some ⟨A, 0, none⟩) L.length n)) (hc : w.cell? ⟨A, k, none⟩ = some (.string ⟨(L.getD k []).toArray⟩)) (hs : (L.getD k []).length ≤ 1048576) (hv : TVars w) (hl : (L.length : Int) ≤ 1048576) :
    Calls Tryz.prog 46 #[.int .i64 k, .pointer (some ⟨P, 0, none⟩)] w fun e w' => e = .returned (.int .i64 (Lib.atoiOr (L.getD k []) 0)) ∧ Below w.heap.size w w' := by
  have C := hide (Base.guessInt ⟨(L.getD k []).toArray⟩ w (by rw [list_len]; exact hs) hv.v)
  rw [list_toList] at C
  obtain ⟨x, hx⟩ : ∃ x : ByteArray, (⟨(L.getD k []).toArray⟩ : ByteArray) = x := ⟨_, rfl⟩
  rw [hx] at hc C
  clear hx hv
  have kI : (k : Int) < (L.length : Int) := by omega
  generalize L.length = n' at *
  go_enter Tryz.func46, Tryz.ntmps46
  go_wp2_with fail
  refine C.out.mono ?_; rintro e w1 ⟨rfl, b1⟩
  go_wp2_with fail
  go_ret
  exact ⟨rfl, b1⟩
set_option maxRecDepth 100000 in
theorem guess2 (P A n k : Nat) (L : List (List UInt8)) (w : World) (hk : k < L.length) (h0 : w.cell? ⟨P, 0, none⟩ = some (.slice (some ⟨A, 0, none⟩) L.length n)) (hc : w.cell? ⟨A, k, none⟩ = some (.string ⟨(L.getD k []).toArray⟩)) (hs : (L.getD k []).length ≤ 1048576) (hv : TVars w) (hl : (L.length : Int) ≤ 1048576) :
    Calls Tryz.prog 48 #[.int .i64 k, .pointer (some ⟨P, 0, none⟩)] w fun e w' => e = .returned (.int .i64 (rdV (L.getD k []))) ∧ Below w.heap.size w w' := by
  have C := hide (Base.implReadNum ⟨(L.getD k []).toArray⟩ w (by rw [list_len]; exact hs) hv.v)
  rw [list_toList] at C
  obtain ⟨x, hx⟩ : ∃ x : ByteArray, (⟨(L.getD k []).toArray⟩ : ByteArray) = x := ⟨_, rfl⟩
  rw [hx] at hc C
  clear hx hv
  have kI : (k : Int) < (L.length : Int) := by omega
  generalize L.length = n' at *
  go_enter Tryz.func48, Tryz.ntmps48
  go_wp2_with fail
  refine C.out.mono ?_; rintro e w1 ⟨r, b, rfl, hr, b1⟩
  have E := hide (rdV_is hr)
  clear hr
  go_wp2_with fail
  go_ret
  exact ⟨by rw [E.out]; rfl, b1⟩
theorem cutH_len (l : List UInt8) : (cutH l).length ≤ l.length := by
  unfold cutH; split
  · exact Nat.le_refl _
  · rw [List.length_take]; omega
theorem cutT_len (l : List UInt8) : (cutT l).length ≤ l.length := by
  unfold cutT; split
  · exact Nat.zero_le _
  · rw [List.length_drop]; omega
theorem trim_len (l p : List UInt8) : (Lib.trimPrefix l p).length ≤ l.length := by
  unfold Lib.trimPrefix; split
  · rw [List.length_drop]; omega
  · exact Nat.le_refl _
set_option maxRecDepth 100000 in
set_option maxHeartbeats 2000000 in
theorem guessTensorF (s : ByteArray) (w : World) (hs : s.size ≤ 1048576) (hv : TVars w) :
    Calls Tryz.prog 21 #[.string s] w fun e w' => TensR w.heap.size (guessP s.data.toList) w e w' := by
  have hl : s.data.toList.length = s.size := (Lib.size_eq s).symm
  have lH := cutH_len s.data.toList
  have lT := cutT_len s.data.toList
  have lP := trim_len (cutH s.data.toList) [91]
  obtain ⟨W0, hW0⟩ : ∃ W0, w.alloc (.cells #[.slice none 0 0, .slice none 0 0] 24) = W0 := ⟨_, rfl⟩
  have bl : Below w.heap.size w W0 := by rw [← hW0]; exact (Below.refl _ _).alloc (Nat.le_refl _) _
  have z0 : w.heap.size + 1 ≤ W0.heap.size := by rw [← hW0]; simp
  have M0 := hide (show Bx W0 w.heap.size (.slice none 0 0) (.slice none 0 0) by rw [← hW0]; exact bx_new w _ _ _)
  have G0 := hide (show Free W0 w.heap.size by rw [← hW0]; intro i; simp [go_sem])
  have V0 := hide (hv.below bl)
  have B0 := hide bl
  have H0 := hide hW0
  have CUT := hide (cut93 s W0 hs)
  have eH : Hid (fH s.data.toList = Lib.fieldsD (Lib.trimPrefix (cutH s.data.toList) [91])) := hide rfl
  have eT : Hid (fT s.data.toList = Lib.fieldsD (cutT s.data.toList)) := hide rfl
  have sH := hide (fun k => field_short (Lib.trimPrefix (cutH s.data.toList) [91]) k)
  have sT := hide (fun k => field_short (cutT s.data.toList) k)
  rw [← eH.out] at sH
  rw [← eT.out] at sT
  have GP : Hid (guessP s.data.toList = if 6 < (fH s.data.toList).length ∨ 4096 < (fT s.data.toList).length then PT.zero else ⟨(fH s.data.toList).length, (fT s.data.toList).length, fun k => Lib.atoiOr ((fH s.data.toList).getD k []) 0, fun k => rdV ((fT s.data.toList).getD k [])⟩) := hide rfl
  have CTP := hide (fun W => Tryz.strings_TrimPrefix ⟨(cutH s.data.toList).toArray⟩ ⟨#[91]⟩ W)
  have CF1 := hide (fun W (h : TVars W) => fieldsF ⟨(Lib.trimPrefix (cutH s.data.toList) [91]).toArray⟩ W (by rw [list_len]; omega) h)
  have CF2 := hide (fun W (h : TVars W) => fieldsF ⟨(cutT s.data.toList).toArray⟩ W (by rw [list_len]; omega) h)
  simp only [list_toList] at CTP CF1 CF2
  have e91 : (⟨#[91]⟩ : ByteArray).data.toList = [91] := rfl
  rw [← eH.out] at CF1
  rw [← eT.out] at CF2
  clear hW0 bl hv eH eT
  have l1 : ∀ k, ((fH s.data.toList).getD k []).length ≤ 1048576 := fun k => by have := sH.out k; omega
  have l2 : ∀ k, ((fT s.data.toList).getD k []).length ≤ 1048576 := fun k => by have := sT.out k; omega
  have L1 := hide l1
  have L2 := hide l2
  clear l1 l2 sH sT
  go_enter Tryz.func21, Tryz.ntmps21
  go_wp2_with fail
  rw [H0.out]
  refine CUT.out.mono ?_; rintro e W1 ⟨b, rfl, b1⟩
  have z1 := b1.size
  have M1 := hide (M0.out.below b1 (by omega))
  have G1 := hide (G0.out.below b1 (by omega))
  have V1 := hide (V0.out.below b1)
  have B1 := hide (B0.out.trans (b1.mono B0.out.size))
  clear M0 G0 V0 B0 b1 CUT H0
  obtain ⟨xh, hxh⟩ : ∃ x : ByteArray, (⟨(cutH s.data.toList).toArray⟩ : ByteArray) = x := ⟨_, rfl⟩
  obtain ⟨xt, hxt⟩ : ∃ x : ByteArray, (⟨(cutT s.data.toList).toArray⟩ : ByteArray) = x := ⟨_, rfl⟩
  rw [hxh] at CTP ⊢
  rw [hxt] at CF2 ⊢
  clear hxh hxt
  go_wp2_with fail
  refine (CTP.out W1).mono ?_; rintro e W1' ⟨rfl, rfl⟩
  obtain ⟨xp, hxp⟩ : ∃ x : ByteArray, (⟨(Lib.trimPrefix (cutH s.data.toList) [91]).toArray⟩ : ByteArray) = x := ⟨_, rfl⟩
  rw [hxp] at CF1 ⊢
  clear hxp CTP
  go_wp2_with fail
  refine (CF1.out _ V1.out).mono ?_; rintro e W2 ⟨A1, rfl, hA1, hA1', hc1, b2⟩
  have z2 := b2.size
  have M2 := hide (M1.out.below b2 (by omega))
  have G2 := hide (G1.out.below b2 (by omega))
  have V2 := hide (V1.out.below b2)
  have B2 := hide (B1.out.trans (b2.mono B1.out.size))
  have C1 := hide hc1
  clear M1 G1 V1 B1 b2 hc1 CF1
  generalize fH s.data.toList = H at *
  generalize fT s.data.toList = T at *
  have bA := (Below.refl W2.heap.size W2).alloc (Nat.le_refl _) (.cells #[.slice (some ⟨A1, 0, none⟩) H.length H.length] 36)
  have M3 := hide (M2.out.below bA (by omega))
  have G3 := hide (G2.out.below bA (by omega))
  have V3 := hide (V2.out.below bA)
  have B3 := hide (B2.out.trans (bA.mono B2.out.size))
  have z3 : W2.heap.size + 1 ≤ (W2.alloc (.cells #[.slice (some ⟨A1, 0, none⟩) H.length H.length] 36)).heap.size := by simp
  have P3 := hide (show (W2.alloc (.cells #[.slice (some ⟨A1, 0, none⟩) H.length H.length] 36)).cell? ⟨W2.heap.size, 0, none⟩ = some (.slice (some ⟨A1, 0, none⟩) H.length H.length) by simp [go_sem])
  have C3 := hide (show ∀ t, t < H.length → (W2.alloc (.cells #[.slice (some ⟨A1, 0, none⟩) H.length H.length] 36)).cell? ⟨A1, t, none⟩ = some (.string ⟨(H.getD t []).toArray⟩) from fun t ht => (bA.cell (p := ⟨A1, t, none⟩) hA1').trans (C1.out t ht))
  clear bA M2 G2 V2 B2 C1
  by_cases h6 : 6 < H.length
  · have h6' : (6 : Int) < (H.length : Int) := by omega
    have EZ := hide (show guessP s.data.toList = PT.zero by rw [GP.out, if_pos (.inl h6)])
    obtain ⟨y0, y1⟩ := M3.out
    have gg := G3.out
    unfold Free at gg
    clear GP h6
    go_wp2_with fail
    refine bodyPost_ret (v := .agg #[.slice none 0 0, .slice none 0 0]) (by simp [results, Tryz.results21, go_sem, y0, y1]) rfl (by
      rw [EZ.out]
      refine tensR_zero ?_
      exact (B3.out.setCell (p := ⟨w.heap.size, 0, none⟩) (Nat.le_refl _) _).setCell (p := ⟨w.heap.size, 1, none⟩) (Nat.le_refl _) _)
  have h6' : ¬ (6 : Int) < (H.length : Int) := by omega
  go_wp2_with fail
  obtain ⟨W3, hW3⟩ : ∃ W3, W2.alloc (.cells #[.slice (some ⟨A1, 0, none⟩) H.length H.length] 36) = W3 := ⟨_, rfl⟩
  rw [hW3] at M3 G3 V3 B3 z3 P3 C3 ⊢
  clear hW3
  refine (CF2.out _ V3.out).mono ?_; rintro e W4 ⟨A2, rfl, hA2, hA2', hc2, b4⟩
  have z4 := b4.size
  have bB := (Below.refl W4.heap.size W4).alloc (Nat.le_refl _) (.cells #[.slice (some ⟨A2, 0, none⟩) T.length T.length] 36)
  have b5 := b4.trans (bB.mono z4)
  have M5 := hide (M3.out.below b5 (by omega))
  have G5 := hide (G3.out.below b5 (by omega))
  have V5 := hide (V3.out.below b5)
  have B5 := hide (B3.out.trans (b5.mono B3.out.size))
  have z5 : W4.heap.size + 1 ≤ (W4.alloc (.cells #[.slice (some ⟨A2, 0, none⟩) T.length T.length] 36)).heap.size := by simp
  have P5 := hide (show (W4.alloc (.cells #[.slice (some ⟨A2, 0, none⟩) T.length T.length] 36)).cell? ⟨W4.heap.size, 0, none⟩ = some (.slice (some ⟨A2, 0, none⟩) T.length T.length) by simp [go_sem])
  have C5 := hide (show ∀ t, t < T.length → (W4.alloc (.cells #[.slice (some ⟨A2, 0, none⟩) T.length T.length] 36)).cell? ⟨A2, t, none⟩ = some (.string ⟨(T.getD t []).toArray⟩) from fun t ht => (bB.cell (p := ⟨A2, t, none⟩) hA2').trans (hc2 t ht))
  have P4 := hide ((b5.cell (p := ⟨W2.heap.size, 0, none⟩) (by show W2.heap.size < W3.heap.size; omega)).trans P3.out)
  have C4 := hide (fun t (ht : t < H.length) => (b5.cell (p := ⟨A1, t, none⟩) (by show A1 < W3.heap.size; omega)).trans (C3.out t ht))
  clear bB M3 G3 V3 B3 hc2 b4 b5 P3 C3 CF2
  by_cases h4 : 4096 < T.length
  · have h4' : (4096 : Int) < (T.length : Int) := by omega
    have EZ := hide (show guessP s.data.toList = PT.zero by rw [GP.out, if_pos (.inr h4)])
    obtain ⟨y0, y1⟩ := M5.out
    have gg := G5.out
    unfold Free at gg
    clear GP h4
    go_wp2_with fail
    refine bodyPost_ret (v := .agg #[.slice none 0 0, .slice none 0 0]) (by simp [results, Tryz.results21, go_sem, y0, y1]) rfl (by
      rw [EZ.out]
      refine tensR_zero ?_
      exact (B5.out.setCell (p := ⟨w.heap.size, 0, none⟩) (Nat.le_refl _) _).setCell (p := ⟨w.heap.size, 1, none⟩) (Nat.le_refl _) _)
  have h4' : ¬ (4096 : Int) < (T.length : Int) := by omega
  have EG := hide (show guessP s.data.toList = ⟨H.length, T.length, fun k => Lib.atoiOr (H.getD k []) 0, fun k => rdV (T.getD k [])⟩ by rw [GP.out, if_neg (by omega)])
  have q4 := P4.out
  clear GP
  go_wp2_with fail
  obtain ⟨W5, hW5⟩ : ∃ W5, W4.alloc (.cells #[.slice (some ⟨A2, 0, none⟩) T.length T.length] 36) = W5 := ⟨_, rfl⟩
  clear q4
  rw [hW5] at M5 G5 V5 B5 z5 P5 C5 P4 C4 ⊢
  clear hW5
  refine (elementwise1 H.length 46 (.pointer (some ⟨W2.heap.size, 0, none⟩)) (fun k => Lib.atoiOr (H.getD k []) 0) W5 (by omega) (fun k _ => by have := Base.atoiOr_bd (H.getD k []); unfold bd; omega) (enters_of Tryz.func46 (by kernel_rfl) rfl) (fun k W hk hW => guess1 W2.heap.size A1 H.length k H W hk ((hW.cell (p := ⟨W2.heap.size, 0, none⟩) (by show W2.heap.size < W5.heap.size; omega)).trans P4.out) ((hW.cell (p := ⟨A1, k, none⟩) (by show A1 < W5.heap.size; omega)).trans (C4.out k hk)) (L1.out k) (V5.out.below hW) (by omega))).mono ?_
  rintro e W6 ⟨rfl, r6, zr6, b6⟩
  have R6 := hide r6
  have M6 := hide (M5.out.below b6 (by omega))
  have G6 := hide (G5.out.below b6 (by omega))
  have V6 := hide (V5.out.below b6)
  have B6 := hide (B5.out.trans (b6.mono B5.out.size))
  have P6 := hide ((b6.cell (p := ⟨W4.heap.size, 0, none⟩) (by show W4.heap.size < W5.heap.size; omega)).trans P5.out)
  have C6 := hide (fun t (ht : t < T.length) => (b6.cell (p := ⟨A2, t, none⟩) (by show A2 < W5.heap.size; omega)).trans (C5.out t ht))
  have q6 := P6.out
  clear r6 b6 M5 G5 V5 B5 P5 C5 P4 C4
  go_wp2_with fail
  refine (elementwise1 T.length 48 (.pointer (some ⟨W4.heap.size, 0, none⟩)) (fun k => rdV (T.getD k [])) W6 (by omega) (fun k _ => by have := rdV_bd (T.getD k []); unfold bd; omega) (enters_of Tryz.func48 (by kernel_rfl) rfl) (fun k W hk hW => guess2 W4.heap.size A2 T.length k T W hk ((hW.cell (p := ⟨W4.heap.size, 0, none⟩) (by show W4.heap.size < W6.heap.size; omega)).trans P6.out) ((hW.cell (p := ⟨A2, k, none⟩) (by show A2 < W6.heap.size; omega)).trans (C6.out k hk)) (L2.out k) (V6.out.below hW) (by omega))).mono ?_
  rintro e W7 ⟨rfl, r7, zr7, b7⟩
  have R7 := hide r7
  have R6' := hide (R6.out.below b7 (by omega))
  have M7 := hide (M6.out.below b7 (by omega))
  have G7 := hide (G6.out.below b7 (by omega))
  have B7 := hide (B6.out.trans (b7.mono B6.out.size))
  clear r7 b7 R6 M6 G6 V6 B6 P6 C6 q6
  obtain ⟨y0, y1⟩ := M7.out
  have gg := G7.out
  unfold Free at gg
  go_wp2_with fail
  refine bodyPost_ret (v := .agg #[.slice (some ⟨W5.heap.size, 0, none⟩) H.length H.length, .slice (some ⟨W6.heap.size, 0, none⟩) T.length T.length]) (by simp [results, Tryz.results21, go_sem, y0, y1]) rfl ?_
  have ks := (Kept.setCell W7 ⟨w.heap.size, 0, none⟩ (.slice (some ⟨W5.heap.size, 0, none⟩) H.length H.length)).trans (Kept.setCell _ ⟨w.heap.size, 1, none⟩ (.slice (some ⟨W6.heap.size, 0, none⟩) T.length T.length))
  rw [EG.out]
  refine ⟨_, _, _, _, rfl, ⟨.inr ⟨_, rfl, by show w.heap.size ≤ W5.heap.size; omega, R6'.out.kept ks (by show ¬ W5.heap.size = w.heap.size; omega)⟩, .inr ⟨_, rfl, by show w.heap.size ≤ W6.heap.size; omega, R7.out.kept ks (by show ¬ W6.heap.size = w.heap.size; omega)⟩, fun k q q' => ?_⟩, ?_⟩
  · obtain ⟨_, ad, e1, e2⟩ := q
    obtain ⟨_, ad', e3, e4⟩ := q'
    cases e1
    cases e3
    have e2 : W5.heap.size = k := e2
    have e4 : W6.heap.size = k := e4
    omega
  · exact (B7.out.setCell (p := ⟨w.heap.size, 0, none⟩) (Nat.le_refl _) _).setCell (p := ⟨w.heap.size, 1, none⟩) (Nat.le_refl _) _
theorem guessP_le (l : List UInt8) : ((guessP l).r : Int) ≤ 6 ∧ ((guessP l).s : Int) ≤ 4096 := by
  unfold guessP
  split
  · simp [PT.zero]
  · rename_i h
    simp only
    omega
set_option maxRecDepth 100000 in
set_option maxHeartbeats 2000000 in
theorem readTensorF (s : ByteArray) (w : World) (hs : s.size ≤ 1048576) (hv : TVars w) :
    Calls Tryz.prog 6 #[.string s] w fun e w' => RdR s.data.toList w e w' := by
  have hle := guessP_le s.data.toList
  obtain ⟨W0, hW0⟩ : ∃ W0, w.alloc (.cells #[.slice none 0 0, .slice none 0 0] 24) = W0 := ⟨_, rfl⟩
  have bl : Below w.heap.size w W0 := by rw [← hW0]; exact (Below.refl _ _).alloc (Nat.le_refl _) _
  have z0 : w.heap.size + 1 ≤ W0.heap.size := by rw [← hW0]; simp
  have M0 := hide (show Bx W0 w.heap.size (.slice none 0 0) (.slice none 0 0) by rw [← hW0]; exact bx_new w _ _ _)
  have G0 := hide (show Free W0 w.heap.size by rw [← hW0]; intro i; simp [go_sem])
  have V0 := hide (hv.below bl)
  have B0 := hide bl
  have H0 := hide hW0
  have CG := hide (guessTensorF s W0 hs V0.out)
  have TG := hide (show ∀ r k D S, TR s.data.toList r k D S → TR s.data.toList (guessP s.data.toList).r (guessP s.data.toList).s (guessP s.data.toList).D (guessP s.data.toList).S from fun r k D S h => h.guessed)
  generalize guessP s.data.toList = v at *
  obtain ⟨r, n, D, S⟩ := v
  simp only at hle TG
  clear hW0 bl hv
  go_enter Tryz.func6, Tryz.ntmps6
  go_wp2_with fail
  rw [H0.out]
  refine CG.out.mono ?_; rintro e W1 ⟨a, b, c, d, rfl, hV, b1⟩
  simp only at hV
  have z1 := b1.size
  have bA := (Below.refl W1.heap.size W1).alloc (Nat.le_refl _) (.cells #[.slice a r c, .slice b n d] 24)
  have M1 := hide (M0.out.below (b1.trans (bA.mono z1)) (by omega))
  have G1 := hide (G0.out.below (b1.trans (bA.mono z1)) (by omega))
  have V1 := hide (V0.out.below (b1.trans (bA.mono z1)))
  have B1 := hide (B0.out.trans ((b1.trans (bA.mono z1)).mono B0.out.size))
  have O1 := hide (hV.below bA)
  have X1 := hide (bx_new W1 (.slice a r c) (.slice b n d) 24)
  have z2 : W1.heap.size + 1 ≤ (W1.alloc (.cells #[.slice a r c, .slice b n d] 24)).heap.size := by simp
  clear M0 G0 V0 B0 H0 CG hV b1 bA
  go_wp2_with fail
  obtain ⟨W2, hW2⟩ : ∃ W2, W1.alloc (.cells #[.slice a r c, .slice b n d] 24) = W2 := ⟨_, rfl⟩
  rw [hW2] at M1 G1 V1 B1 O1 X1 z2 ⊢
  clear hW2
  refine (tensorOk W2.heap.size a b r n c d D S W2 (Nat.le_refl _) O1.out.d.ints O1.out.t.ints (by omega) (by omega)).mono ?_
  rintro e W3 ⟨rfl, b3⟩
  have z3 := b3.size
  have M3 := hide (M1.out.below b3 (by omega))
  have G3 := hide (G1.out.below b3 (by omega))
  have V3 := hide (V1.out.below b3)
  have B3 := hide (B1.out.trans (b3.mono B1.out.size))
  have O3 := hide (O1.out.below b3)
  have X3 := hide (X1.out.below b3 (by omega))
  clear M1 G1 V1 B1 O1 X1 b3
  cases ht : tok r n D S with
  | false =>
    have NO := hide (show ∀ r k D S, ¬ TR s.data.toList r k D S from fun r' k D' S' h => by
      have := (TG.out r' k D' S' h).1
      rw [ht] at this
      exact absurd this (by decide))
    obtain ⟨y0, y1⟩ := M3.out
    have gg := G3.out
    unfold Free at gg
    clear TG ht
    go_wp2_with fail
    refine bodyPost_ret (v := .tuple #[.agg #[.slice none 0 0, .slice none 0 0], .bool false]) (by simp [results, Tryz.results6, go_sem, y0, y1]) rfl (rdR_no NO.out ?_)
    exact (B3.out.setCell (p := ⟨w.heap.size, 0, none⟩) (Nat.le_refl _) _).setCell (p := ⟨w.heap.size, 1, none⟩) (Nat.le_refl _) _
  | true =>
    obtain ⟨x0, x1⟩ := X3.out
    have HT := hide ht
    clear ht
    go_wp2_with fail
    refine (showTensorF W3.heap.size a b r n c d D S W3 (Nat.le_refl _) O3.out.d.ints O3.out.t.ints (by omega) (by omega) V3.out.v.pows).mono ?_
    rintro e W4 ⟨rfl, b4⟩
    have z4 := b4.size
    have M4 := hide (M3.out.below b4 (by omega))
    have G4 := hide (G3.out.below b4 (by omega))
    have B4 := hide (B3.out.trans (b4.mono B3.out.size))
    have O4 := hide (O3.out.below b4)
    have X4 := hide (X3.out.below b4 (by omega))
    have TE := hide (show (⟨(tenT r n D S).toArray⟩ : ByteArray).toList = tenT r n D S by rw [ByteArray.toList_eq])
    clear M3 G3 V3 B3 O3 X3 b4 x0 x1
    obtain ⟨y0, y1⟩ := M4.out
    obtain ⟨x0, x1⟩ := X4.out
    have gg := G4.out
    unfold Free at gg
    by_cases hq : tenT r n D S = s.data.toList
    · have YES := hide ((tr_tenT HT.out).2 hq)
      have e1 : (⟨(tenT r n D S).toArray⟩ : ByteArray) = s := by rw [hq]
      rw [e1]
      clear hq e1 TE
      go_wp2_with fail
      refine bodyPost_ret (v := .tuple #[.agg #[.slice a r c, .slice b n d], .bool true]) (by simp [results, Tryz.results6, go_sem, y0, y1]) rfl (rdR_yes YES.out ?_ ?_)
      · have ks := (Kept.setCell W4 ⟨w.heap.size, 0, none⟩ (.slice a r c)).trans (Kept.setCell _ ⟨w.heap.size, 1, none⟩ (.slice b n d))
        have o := O4.out
        refine ⟨(o.d.kept ks (fun k hk e => by have e : k = w.heap.size := e; have := (o.d.blk hk).1; omega)).mono (by omega), (o.t.kept ks (fun k hk e => by have e : k = w.heap.size := e; have := (o.t.blk hk).1; omega)).mono (by omega), o.ne⟩
      · exact (B4.out.setCell (p := ⟨w.heap.size, 0, none⟩) (Nat.le_refl _) _).setCell (p := ⟨w.heap.size, 1, none⟩) (Nat.le_refl _) _
    · have NO := hide (show ∀ r k D S, ¬ TR s.data.toList r k D S from fun r' k D' S' h => hq ((tr_tenT HT.out).1 (TG.out r' k D' S' h)))
      obtain ⟨x, hx⟩ : ∃ x : ByteArray, (⟨(tenT r n D S).toArray⟩ : ByteArray) = x := ⟨_, rfl⟩
      have ne4 : (x.toList == s.toList) = false := by
        rw [Bool.eq_false_iff]
        intro q
        apply hq
        have := (Lib.bytes_beq_iff _ _).1 q
        rw [← hx] at this
        have := congrArg (fun z : ByteArray => z.data.toList) this
        simpa using this
      have ne5 : (x.toList != s.toList) = true := by unfold bne; rw [ne4]; rfl
      rw [hx]
      clear hx hq TE TG
      go_wp2_with fail
      refine bodyPost_ret (v := .tuple #[.agg #[.slice none 0 0, .slice none 0 0], .bool false]) (by simp [results, Tryz.results6, go_sem, y0, y1]) rfl (rdR_no NO.out ?_)
      exact (B4.out.setCell (p := ⟨w.heap.size, 0, none⟩) (Nat.le_refl _) _).setCell (p := ⟨w.heap.size, 1, none⟩) (Nat.le_refl _) _
end Vo
end Go.Proofs.YtbbmbgjjhaajjaaGreatDoor
