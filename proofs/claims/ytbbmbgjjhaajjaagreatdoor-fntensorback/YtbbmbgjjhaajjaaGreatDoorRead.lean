/- ReadNum on both sides: each ends with the reading of the text. -/
import Derived.Test.YtbbmbgjjhaajjaaGreatDoorOfFrac
import Derived.Test.YtbbmbgjjhaajjaaGreatDoorGuess
import Derived.WalkSpells
namespace Go.Proofs.YtbbmbgjjhaajjaaGreatDoor
namespace Base
open Go.ChangeShapes Go.WideShapes Go.ChangeAt Go.RowKit
set_option linter.unusedVariables false

theorem ret_two {k : IntKind} {a a' : Int} {b b' : Int} (h : a = a') (h2 : b = b') : Ending.returned (.tuple #[.int k a, .int k b]) = .returned (.tuple #[.int k a', .int k b']) := by rw [h, h2]

theorem sNum_lt (m i : Nat) (l : List UInt8) (j : Nat) (h : j ≤ sCnt m i l) (hm : m ≤ 10) : Txt.val ((l.drop i).take j) < 10000000000 := by
  have h1 := Txt.cnt_len m (l.drop i)
  have h2 := Txt.cnt_le m (l.drop i)
  unfold sCnt at h
  have h3 := Txt.val_lt j ((l.drop i).take j) (by rw [List.length_take]; omega) (Txt.cnt_dg m _ j h)
  have h4 : 10 ^ j ≤ 10 ^ 10 := Nat.pow_le_pow_right (by omega) (by omega)
  omega

theorem sNum_bd (m i : Nat) (l : List UInt8) (hm : m ≤ 10) : (0 : Int) ≤ (sNum m i l : Int) ∧ (sNum m i l : Int) < 10000000000 := by
  have h := sNum_lt m i l (sCnt m i l) (Nat.le_refl _) hm
  unfold sNum
  omega

theorem at_byte (s : ByteArray) (i j : Nat) (h : i + j < s.size) : (s.data.toList.drop i)[j]? = some s[i + j] := by
  rw [List.getElem?_drop, Array.getElem?_toList, Array.getElem?_eq_getElem h]; rfl
theorem digit_step (s : ByteArray) (i j : Nat) (h : i + j < s.size) :
    Txt.val ((s.data.toList.drop i).take (j + 1)) = Txt.val ((s.data.toList.drop i).take j) * 10 + (s[i + j].toNat - 48) := by
  rw [List.take_add_one, at_byte s i j h]
  exact Txt.val_snoc _ _

theorem digits (s : ByteArray) (i m : Nat) (w : World) (hs : s.size ≤ 12) (hi : i ≤ 12) (hm : m ≤ 10) :
    Calls Tryz.prog 38 #[.string s, .int .i64 i, .int .i64 m] w fun e w' => e = .returned (.tuple #[.int .i64 (sNum m i s.data.toList), .int .i64 (sCnt m i s.data.toList)]) ∧ w' = w := by
  go_enter Tryz.func38, Tryz.ntmps38
  go_wp2_with fail
  go_loop [8, 9] (fun n k => ∃ j : Nat, j ≤ sCnt m i s.data.toList ∧ n = .int .i64 (Txt.val ((s.data.toList.drop i).take j)) ∧ k = .int .i64 j) (fun _ k => 20 - (intOf k).toNat)
  case atStart => exact ⟨0, Nat.zero_le _, rfl, rfl⟩
  case round =>
    obtain ⟨j, hj, rfl, rfl⟩ := hrel
    have hv := sNum_lt m i s.data.toList j hj hm
    have hjm := Nat.le_trans hj (Txt.cnt_le m _)
    by_cases c1 : i + j < s.size
    · by_cases c2 : j < m
      · have hst := hide (digit_step s i j c1)
        have hat := hide (at_byte s i j c1)
        by_cases c3 : 48 ≤ (s[i + j].toNat : Int)
        · by_cases c4 : (s[i + j].toNat : Int) ≤ 57
          · have hmo := hide (Txt.cnt_more m (s.data.toList.drop i) j hj c2 _ hat.out ⟨by omega, by omega⟩)
            go_wp2_with fail
            go_round
            case rel => exact ⟨j + 1, hmo.out, by rw [hst.out]; congr 1; omega, by go_num⟩
            case measure => simp [intOf]; omega
          · have hd := hide (Txt.cnt_stop m (s.data.toList.drop i) j hj (.inr (.inr ⟨_, hat.out, fun h => by have := h.2; omega⟩)))
            have c5 : decide ((s[i + j].toNat : Int) ≤ 57) = false := by rw [decide_eq_false_iff_not]; exact c4
            go_wp2_with fail
            go_ret2
            exact ⟨ret_two (by rw [sNum, sCnt, ← hd.out]) (by rw [sCnt, ← hd.out]), rfl⟩
        · have hd := hide (Txt.cnt_stop m (s.data.toList.drop i) j hj (.inr (.inr ⟨_, hat.out, fun h => by have := h.1; omega⟩)))
          have c5 : decide (48 ≤ (s[i + j].toNat : Int)) = false := by rw [decide_eq_false_iff_not]; exact c3
          go_wp2_with fail
          go_ret2
          exact ⟨ret_two (by rw [sNum, sCnt, ← hd.out]) (by rw [sCnt, ← hd.out]), rfl⟩
      · have hd := hide (Txt.cnt_stop m (s.data.toList.drop i) j hj (.inl (by omega)))
        have c5 : decide ((j : Int) < (m : Int)) = false := by rw [decide_eq_false_iff_not]; omega
        go_wp2_with fail
        go_ret2
        exact ⟨ret_two (by rw [sNum, sCnt, ← hd.out]) (by rw [sCnt, ← hd.out]), rfl⟩
    · have hd := hide (Txt.cnt_stop m (s.data.toList.drop i) j hj (.inr (.inl (by rw [List.length_drop, ← Lib.size_eq]; omega))))
      have c5 : decide ((i : Int) + (j : Int) < (s.size : Int)) = false := by rw [decide_eq_false_iff_not]; omega
      go_wp2_with fail
      go_ret2
      exact ⟨ret_two (by rw [sNum, sCnt, ← hd.out]) (by rw [sCnt, ← hd.out]), rfl⟩

/-- how a call of ReadNum at the text l ends -/
def Reads (l : List UInt8) (w : World) (e : Ending) (w' : World) : Prop :=
  ∃ r b, e = .returned (.tuple #[.int .i64 r, .bool b]) ∧ Reading l r b ∧ Below w.heap.size w w'

theorem head_at (s : ByteArray) (h : 0 < s.size) : s.data.toList.head? = some s[0] := by
  rw [List.head?_eq_getElem?, Array.getElem?_toList, Array.getElem?_eq_getElem h]; rfl
theorem byte_eq {c : UInt8} {k : Nat} (hk : k < 256) : ((c.toNat : Int) == (k : Int)) = true ↔ c = UInt8.ofNat k := by
  rw [beq_iff_eq, ← UInt8.toNat_inj, UInt8.toNat_ofNat']
  omega

theorem specReadNone (s : ByteArray) (w : World) (h : s.size = 0 ∨ 12 < s.size) (hm : s.size ≤ 1048576) :
    Calls Tryz.prog 20 #[.string s] w fun e w' => Reads s.data.toList w e w' := by
  have hr : Hid (Reading s.data.toList 0 false) := .inr ⟨rfl, rfl, fun x hx => by
    have := (shown_specG hx).2
    rw [← Lib.size_eq] at this
    omega⟩
  by_cases h1 : 12 < s.size
  · clear h
    go_enter Tryz.func20, Tryz.ntmps20
    go_wp2_with fail
    go_ret2
    exact ⟨0, false, rfl, hr, Below.refl _ _⟩
  · have h0 : s.size = 0 := by omega
    have h2 : decide ((12 : Int) < (s.size : Int)) = false := by rw [decide_eq_false_iff_not]; omega
    have h3 : ((s.size : Int) == 0) = true := by rw [beq_iff_eq]; omega
    clear h h1 h0
    go_enter Tryz.func20, Tryz.ntmps20
    go_wp2_with fail
    go_ret2
    exact ⟨0, false, rfl, hr, Below.refl _ _⟩

theorem digitsAt (s : ByteArray) (i m : Int) (j n : Nat) (w : World) (ei : i = (j : Int)) (em : m = (n : Int)) (hs : s.size ≤ 12) (hi : j ≤ 12) (hm : n ≤ 10) :
    Calls Tryz.prog 38 #[.string s, .int .i64 i, .int .i64 m] w fun e w' => e = .returned (.tuple #[.int .i64 (sNum n j s.data.toList), .int .i64 (sCnt n j s.data.toList)]) ∧ w' = w := by
  subst ei em
  exact digits s j n w hs hi hm

theorem text_eq {s : ByteArray} {l : List UInt8} (h : (l == s.toList) = true) : s.data.toList = l := by
  rw [beq_iff_eq] at h; rw [h, Lib.toList_data]
theorem text_ne {s : ByteArray} {l : List UInt8} (h : (l == s.toList) = false) : ¬ s.data.toList = l := by
  intro e
  rw [beq_eq_false_iff_ne] at h
  exact h (by rw [← e, Lib.toList_data])

theorem guess_from {l : List UInt8} {a : Int} (hg : specG l = a) (a0 : 0 ≤ a) (a1 : a < 2147483647) : ∀ x, Shown l x → a % 2147483647 = x := by
  intro x hx
  have := (shown_specG hx).1
  omega
theorem guess_over {l : List UInt8} {a : Int} (hg : specG l = a) (a1 : 2147483647 ≤ a) : Reading l 0 false := by
  refine .inr ⟨rfl, rfl, fun x hx => ?_⟩
  have := (shown_specG hx).1
  have := hx.2.1
  omega

set_option maxRecDepth 100000 in
theorem specReadHash (s : ByteArray) (w : World) (h0 : 0 < s.size) (h12 : s.size ≤ 12) (hc : s[0] = 35) :
    Calls Tryz.prog 20 #[.string s] w fun e w' => Reads s.data.toList w e w' := by
  have hg : Hid (specG s.data.toList = (sNum 10 1 s.data.toList : Int)) := by
    show _ = _
    rw [specG, head_at s h0, hc, if_pos rfl]
  have z2 : ((s.size : Int) == 0) = false := by rw [beq_eq_false_iff_ne]; omega
  have z : ((s[0].toNat : Int) == 35) = true := by rw [hc]; rfl
  clear hc
  go_enter Tryz.func20, Tryz.ntmps20
  go_wp2_with fail
  refine (digitsAt s _ _ 1 10 _ rfl rfl h12 (by omega) (by omega)).mono ?_; rintro e w1 ⟨rfl, rfl⟩
  obtain ⟨hb4, hb3⟩ := sNum_bd 10 1 s.data.toList (by omega)
  generalize (sNum 10 1 s.data.toList : Int) = a at *
  by_cases ha : a < 2147483647
  · have hge := hide (guess_from hg.out hb4 ha)
    go_wp2_with fail
    refine (specShowNum _ _ (by omega) (by omega)).mono ?_; rintro e w2 ⟨n, d, b, r1, rfl, b1⟩
    obtain ⟨y, no⟩ := read_end hge.out r1
    replace y := hide y
    replace no := hide no
    go_wp2_with fail
    · go_ret2
      exact ⟨a, true, rfl, by have := y.out (text_eq (by assumption)); rwa [emod_self hb4 ha] at this, b1⟩
    · go_ret2
      exact ⟨0, false, rfl, no.out (text_ne (by assumption)), b1⟩
  · have hr := hide (guess_over hg.out (by omega))
    have ca : decide (a < 2147483647) = false := by rw [decide_eq_false_iff_not]; exact ha
    clear ha
    go_wp2_with fail
    go_ret2
    exact ⟨0, false, rfl, hr.out, Below.refl _ _⟩

set_option maxRecDepth 100000 in
set_option maxHeartbeats 1000000 in
theorem specReadNeg (s : ByteArray) (w : World) (h0 : 0 < s.size) (h12 : s.size ≤ 12) (hc : s[0] = 45) :
    Calls Tryz.prog 20 #[.string s] w fun e w' => Reads s.data.toList w e w' := by
  have hg : Hid (specG s.data.toList = (0 - sBody 1 s.data.toList) % 2147483647) := by
    show _ = _
    rw [specG, head_at s h0, hc, if_neg (by decide), if_pos rfl]
  have z2 : ((s.size : Int) == 0) = false := by rw [beq_eq_false_iff_ne]; omega
  have z35 : ((s[0].toNat : Int) == 35) = false := by rw [hc]; rfl
  have z45 : ((s[0].toNat : Int) == 45) = true := by rw [hc]; rfl
  clear hc
  have hB : Hid (sBody 1 s.data.toList = if s.data.toList[1 + sCnt 5 1 s.data.toList]? = some 47 then ovr (sNum 5 1 s.data.toList) (sNum 5 (1 + sCnt 5 1 s.data.toList + 1) s.data.toList) else sNum 5 1 s.data.toList) := rfl
  go_enter Tryz.func20, Tryz.ntmps20
  go_wp2_with fail
  refine (digitsAt s _ _ 1 5 _ rfl rfl h12 (by omega) (by omega)).mono ?_; rintro e w1 ⟨rfl, rfl⟩
  obtain ⟨hn0, hn1⟩ := sNum_bd 5 1 s.data.toList (by omega)
  have hk5 : sCnt 5 1 s.data.toList ≤ 5 := Txt.cnt_le 5 _
  generalize (sNum 5 1 s.data.toList : Int) = n at *
  generalize sCnt 5 1 s.data.toList = k at *
  by_cases c1 : 1 + k < s.size
  · have hat := at_byte s 1 k c1
    rw [List.getElem?_drop] at hat
    by_cases c2 : s[1 + k] = 47
    · have hbody : Hid (sBody 1 s.data.toList = ovr n (sNum 5 (1 + k + 1) s.data.toList)) := by show _ = _; rw [hB.out, hat, c2, if_pos rfl]
      have z47 : ((s[1 + k].toNat : Int) == 47) = true := by rw [c2]; rfl
      clear hB hat c2
      go_wp2_with fail
      refine (digitsAt s _ _ (1 + k + 1) 5 _ (by omega) rfl h12 (by omega) (by omega)).mono ?_; rintro e w3 ⟨rfl, rfl⟩
      obtain ⟨hd3, hd2⟩ := sNum_bd 5 (1 + k + 1) s.data.toList (by omega)
      generalize (sNum 5 (1 + k + 1) s.data.toList : Int) = d at *
      go_wp2_with fail
      refine (specOver _ _ _ (by omega) (by omega) (by omega) (by omega)).mono ?_; rintro e w4 ⟨rfl, rfl⟩
      have ho := ovr_bd n d
      obtain ⟨o1, o2⟩ := ho
      have hov : Hid (ovr n d = n % 2147483647 * Num.pw (d % 2147483647) 2147483645 % 2147483647) := rfl
      rw [hov.out] at o1 o2 hbody
      clear hov
      generalize n % 2147483647 * Num.pw (d % 2147483647) 2147483645 % 2147483647 = o at *
      go_wp2_with fail
      refine (specMinus _ _ _ (by omega) (by omega) (by omega) (by omega)).mono ?_; rintro e w5 ⟨rfl, rfl⟩
      have hgg : Hid (specG s.data.toList = (0 - o) % 2147483647) := by show _ = _; rw [hg.out, hbody.out]
      have hb4 : 0 ≤ (0 - o) % 2147483647 := by omega
      have hb5 : (0 - o) % 2147483647 < 2147483647 := by omega
      generalize (0 - o) % 2147483647 = a at *
      by_cases ha : a < 2147483647
      · have hge := hide (guess_from hgg.out hb4 ha)
        go_wp2_with fail
        refine (specShowNum _ _ (by omega) (by omega)).mono ?_; rintro e w2 ⟨n', d', b', r1, rfl, b1⟩
        obtain ⟨y, no⟩ := read_end hge.out r1
        replace y := hide y
        replace no := hide no
        go_wp2_with fail
        · go_ret2
          exact ⟨a, true, rfl, by have := y.out (text_eq (by assumption)); rwa [emod_self hb4 ha] at this, b1⟩
        · go_ret2
          exact ⟨0, false, rfl, no.out (text_ne (by assumption)), b1⟩
      · exact absurd hb5 ha
    · have hbody : Hid (sBody 1 s.data.toList = n) := by show _ = _; rw [hB.out, hat, if_neg (by simpa using c2)]
      have z47 : ((s[1 + k].toNat : Int) == 47) = false := by rw [Bool.eq_false_iff]; intro h; exact c2 ((byte_eq (k := 47) (by omega)).1 h)
      clear hB hat c2
      go_wp2_with fail
      refine (specMinus _ _ _ (by omega) (by omega) (by omega) (by omega)).mono ?_; rintro e w3 ⟨rfl, rfl⟩
      have hgg : Hid (specG s.data.toList = (0 - n) % 2147483647) := by show _ = _; rw [hg.out, hbody.out]
      have hb4 : 0 ≤ (0 - n) % 2147483647 := by omega
      have hb5 : (0 - n) % 2147483647 < 2147483647 := by omega
      generalize (0 - n) % 2147483647 = a at *
      by_cases ha : a < 2147483647
      · have hge := hide (guess_from hgg.out hb4 ha)
        go_wp2_with fail
        refine (specShowNum _ _ (by omega) (by omega)).mono ?_; rintro e w2 ⟨n', d', b', r1, rfl, b1⟩
        obtain ⟨y, no⟩ := read_end hge.out r1
        replace y := hide y
        replace no := hide no
        go_wp2_with fail
        · go_ret2
          exact ⟨a, true, rfl, by have := y.out (text_eq (by assumption)); rwa [emod_self hb4 ha] at this, b1⟩
        · go_ret2
          exact ⟨0, false, rfl, no.out (text_ne (by assumption)), b1⟩
      · exact absurd hb5 ha
  · have hbody : Hid (sBody 1 s.data.toList = n) := by show _ = _; rw [hB.out, List.getElem?_eq_none (by rw [← Lib.size_eq]; omega), if_neg (by simp)]
    have c5 : decide ((1 + (k : Int)) < (s.size : Int)) = false := by rw [decide_eq_false_iff_not]; omega
    clear hB
    go_wp2_with fail
    refine (specMinus _ _ _ (by omega) (by omega) (by omega) (by omega)).mono ?_; rintro e w3 ⟨rfl, rfl⟩
    have hgg : Hid (specG s.data.toList = (0 - n) % 2147483647) := by show _ = _; rw [hg.out, hbody.out]
    have hb4 : 0 ≤ (0 - n) % 2147483647 := by omega
    have hb5 : (0 - n) % 2147483647 < 2147483647 := by omega
    generalize (0 - n) % 2147483647 = a at *
    by_cases ha : a < 2147483647
    · have hge := hide (guess_from hgg.out hb4 ha)
      go_wp2_with fail
      refine (specShowNum _ _ (by omega) (by omega)).mono ?_; rintro e w2 ⟨n', d', b', r1, rfl, b1⟩
      obtain ⟨y, no⟩ := read_end hge.out r1
      replace y := hide y
      replace no := hide no
      go_wp2_with fail
      · go_ret2
        exact ⟨a, true, rfl, by have := y.out (text_eq (by assumption)); rwa [emod_self hb4 ha] at this, b1⟩
      · go_ret2
        exact ⟨0, false, rfl, no.out (text_ne (by assumption)), b1⟩
    · exact absurd hb5 ha

set_option maxRecDepth 100000 in
set_option maxHeartbeats 1000000 in
theorem specReadPos (s : ByteArray) (w : World) (h0 : 0 < s.size) (h12 : s.size ≤ 12) (hc1 : ¬ s[0] = 35) (hc2 : ¬ s[0] = 45) :
    Calls Tryz.prog 20 #[.string s] w fun e w' => Reads s.data.toList w e w' := by
  have hg : Hid (specG s.data.toList = sBody 0 s.data.toList) := by
    show _ = _
    rw [specG, head_at s h0, if_neg (by simpa using hc1), if_neg (by simpa using hc2)]
  have z2 : ((s.size : Int) == 0) = false := by rw [beq_eq_false_iff_ne]; omega
  have z35 : ((s[0].toNat : Int) == 35) = false := by rw [Bool.eq_false_iff]; intro h; exact hc1 ((byte_eq (k := 35) (by omega)).1 h)
  have z45 : ((s[0].toNat : Int) == 45) = false := by rw [Bool.eq_false_iff]; intro h; exact hc2 ((byte_eq (k := 45) (by omega)).1 h)
  clear hc1 hc2
  have hB : Hid (sBody 0 s.data.toList = if s.data.toList[sCnt 5 0 s.data.toList]? = some 47 then ovr (sNum 5 0 s.data.toList) (sNum 5 (sCnt 5 0 s.data.toList + 1) s.data.toList) else sNum 5 0 s.data.toList) := by
    show _ = _
    unfold sBody
    rw [Nat.zero_add]
  go_enter Tryz.func20, Tryz.ntmps20
  go_wp2_with fail
  refine (digitsAt s _ _ 0 5 _ rfl rfl h12 (by omega) (by omega)).mono ?_; rintro e w1 ⟨rfl, rfl⟩
  obtain ⟨hn0, hn1⟩ := sNum_bd 5 0 s.data.toList (by omega)
  have hk5 : sCnt 5 0 s.data.toList ≤ 5 := Txt.cnt_le 5 _
  generalize (sNum 5 0 s.data.toList : Int) = n at *
  generalize sCnt 5 0 s.data.toList = k at *
  by_cases c1 : k < s.size
  · have hat : s.data.toList[k]? = some s[k] := by rw [Array.getElem?_toList, Array.getElem?_eq_getElem c1]; rfl
    by_cases c2 : s[k] = 47
    · have hbody : Hid (sBody 0 s.data.toList = ovr n (sNum 5 (k + 1) s.data.toList)) := by show _ = _; rw [hB.out, hat, c2, if_pos rfl]
      have z47 : ((s[k].toNat : Int) == 47) = true := by rw [c2]; rfl
      clear hB hat c2
      go_wp2_with fail
      refine (digitsAt s _ _ (k + 1) 5 _ (by omega) rfl h12 (by omega) (by omega)).mono ?_; rintro e w3 ⟨rfl, rfl⟩
      obtain ⟨hd3, hd2⟩ := sNum_bd 5 (k + 1) s.data.toList (by omega)
      generalize (sNum 5 (k + 1) s.data.toList : Int) = d at *
      go_wp2_with fail
      refine (specOver _ _ _ (by omega) (by omega) (by omega) (by omega)).mono ?_; rintro e w4 ⟨rfl, rfl⟩
      have ho := ovr_bd n d
      obtain ⟨o1, o2⟩ := ho
      have hov : Hid (ovr n d = n % 2147483647 * Num.pw (d % 2147483647) 2147483645 % 2147483647) := rfl
      rw [hov.out] at o1 o2 hbody
      clear hov
      generalize n % 2147483647 * Num.pw (d % 2147483647) 2147483645 % 2147483647 = o at *
      have hgg : Hid (specG s.data.toList = o) := by show _ = _; rw [hg.out, hbody.out]
      have hb4 : 0 ≤ o := o1
      generalize o = a at *
      by_cases ha : a < 2147483647
      · have hge := hide (guess_from hgg.out hb4 ha)
        go_wp2_with fail
        refine (specShowNum _ _ (by omega) (by omega)).mono ?_; rintro e w2 ⟨n', d', b', r1, rfl, b1⟩
        obtain ⟨y, no⟩ := read_end hge.out r1
        replace y := hide y
        replace no := hide no
        go_wp2_with fail
        · go_ret2
          exact ⟨a, true, rfl, by have := y.out (text_eq (by assumption)); rwa [emod_self hb4 ha] at this, b1⟩
        · go_ret2
          exact ⟨0, false, rfl, no.out (text_ne (by assumption)), b1⟩
      · exact absurd o2 ha
    · have hbody : Hid (sBody 0 s.data.toList = n) := by show _ = _; rw [hB.out, hat, if_neg (by simpa using c2)]
      have z47 : ((s[k].toNat : Int) == 47) = false := by rw [Bool.eq_false_iff]; intro h; exact c2 ((byte_eq (k := 47) (by omega)).1 h)
      clear hB hat c2
      have hgg : Hid (specG s.data.toList = n) := by show _ = _; rw [hg.out, hbody.out]
      have hb4 : 0 ≤ n := by omega
      generalize n = a at *
      by_cases ha : a < 2147483647
      · have hge := hide (guess_from hgg.out hb4 ha)
        go_wp2_with fail
        refine (specShowNum _ _ (by omega) (by omega)).mono ?_; rintro e w2 ⟨n', d', b', r1, rfl, b1⟩
        obtain ⟨y, no⟩ := read_end hge.out r1
        replace y := hide y
        replace no := hide no
        go_wp2_with fail
        · go_ret2
          exact ⟨a, true, rfl, by have := y.out (text_eq (by assumption)); rwa [emod_self hb4 ha] at this, b1⟩
        · go_ret2
          exact ⟨0, false, rfl, no.out (text_ne (by assumption)), b1⟩
      · have hr := hide (guess_over hgg.out (by omega))
        have ca : decide (a < 2147483647) = false := by rw [decide_eq_false_iff_not]; exact ha
        clear ha
        go_wp2_with fail
        go_ret2
        exact ⟨0, false, rfl, hr.out, Below.refl _ _⟩
  · have hbody : Hid (sBody 0 s.data.toList = n) := by show _ = _; rw [hB.out, List.getElem?_eq_none (by rw [← Lib.size_eq]; omega), if_neg (by simp)]
    have c5 : decide (((k : Int)) < (s.size : Int)) = false := by rw [decide_eq_false_iff_not]; omega
    clear hB
    have hgg : Hid (specG s.data.toList = n) := by show _ = _; rw [hg.out, hbody.out]
    have hb4 : 0 ≤ n := by omega
    generalize n = a at *
    by_cases ha : a < 2147483647
    · have hge := hide (guess_from hgg.out hb4 ha)
      go_wp2_with fail
      refine (specShowNum _ _ (by omega) (by omega)).mono ?_; rintro e w2 ⟨n', d', b', r1, rfl, b1⟩
      obtain ⟨y, no⟩ := read_end hge.out r1
      replace y := hide y
      replace no := hide no
      go_wp2_with fail
      · go_ret2
        exact ⟨a, true, rfl, by have := y.out (text_eq (by assumption)); rwa [emod_self hb4 ha] at this, b1⟩
      · go_ret2
        exact ⟨0, false, rfl, no.out (text_ne (by assumption)), b1⟩
    · have hr := hide (guess_over hgg.out (by omega))
      have ca : decide (a < 2147483647) = false := by rw [decide_eq_false_iff_not]; exact ha
      clear ha
      go_wp2_with fail
      go_ret2
      exact ⟨0, false, rfl, hr.out, Below.refl _ _⟩

theorem specReadNum (s : ByteArray) (w : World) (hm : s.size ≤ 1048576) :
    Calls Tryz.prog 20 #[.string s] w fun e w' => Reads s.data.toList w e w' := by
  by_cases h : s.size = 0 ∨ 12 < s.size
  · exact specReadNone s w h hm
  · by_cases h35 : s[0]'(by omega) = 35
    · exact specReadHash s w (by omega) (by omega) h35
    · by_cases h45 : s[0]'(by omega) = 45
      · exact specReadNeg s w (by omega) (by omega) h45
      · exact specReadPos s w (by omega) (by omega) h35 h45

end Base
end Go.Proofs.YtbbmbgjjhaajjaaGreatDoor
