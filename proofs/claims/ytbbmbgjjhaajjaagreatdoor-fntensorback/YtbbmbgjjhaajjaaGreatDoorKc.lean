/- Words of the model: l4Words, l4Whole. -/
import Derived.Test.YtbbmbgjjhaajjaaGreatDoorKb
import Derived.Test.YtbbmbgjjhaajjaaGreatDoorRead
import Derived.BigQuiet
import Derived.Deep.AppendLies
namespace Go.Proofs.YtbbmbgjjhaajjaaGreatDoor
namespace Vo
open Go.ChangeShapes Go.WideShapes Go.ChangeAt Go.RowKit Go.Joins Go.Sort
open Vl Vp Txt
set_option linter.unusedVariables false
set_option linter.unusedSimpArgs false
theorem infoTx : (Tryz.prog.info? 9).map (fun i => (i.zero, i.size, i.bytes)) = some (some (.string ⟨#[]⟩), 1, 16) := by kernel_rfl
def strV (L : List (List UInt8)) : List Value := L.map (fun x => .string ⟨x.toArray⟩)
theorem strV_more (L : List (List UInt8)) (x : List UInt8) : strV L ++ [.string ⟨x.toArray⟩] = strV (L ++ [x]) := by unfold strV; simp
theorem strV_len (L : List (List UInt8)) : (strV L).length = L.length := by unfold strV; simp
theorem strV_at {L : List (List UInt8)} {k : Nat} (h : k < L.length) : (strV L)[k]? = some (.string ⟨(L.getD k []).toArray⟩) := by
  unfold strV
  rw [List.getElem?_map, List.getElem?_eq_getElem h]
  simp [List.getD, h]
theorem ext_list (s : ByteArray) (f k : Nat) : s.extract f k = ⟨((s.data.toList.take k).drop f).toArray⟩ := by
  apply ByteArray.ext
  rw [ByteArray.data_extract]
  apply Array.toList_inj.1
  rw [Array.toList_extract]
  simp [List.extract, List.drop_take]
theorem byte_at {s : ByteArray} {k : Nat} (h : k < s.size) : s.data.toList[k]? = some s[k] := by
  have := Base.at_byte s 0 k (by omega)
  simpa using this
theorem scl_len (l : List UInt8) : (sc l).1.length ≤ l.length := by
  have key : ∀ (T : List UInt8) (a : List (List UInt8) × List UInt8), (T.foldl scS a).1.length ≤ a.1.length + T.length := by
    intro T
    induction T with
    | nil => intro a; exact Nat.le_refl _
    | cons c T ih =>
      intro a
      rw [List.foldl_cons]
      refine Nat.le_trans (ih _) ?_
      unfold scS
      split
      · simp only [List.length_append, List.length_cons, List.length_nil]; omega
      · simp only [List.length_cons]; omega
  have := key l ([], [])
  simpa [sc] using this
theorem wds_len (l : List UInt8) : (wds l).length ≤ l.length + 1 := by
  unfold wds
  have := scl_len l
  simp only [List.length_append, List.length_cons, List.length_nil]
  omega
/-- the words that are closed ahead of k -/
def wl (s : ByteArray) (k : Nat) : List (List UInt8) := if k ≤ s.size then (sc (s.data.toList.take k)).1 else wds s.data.toList
theorem wl_len (s : ByteArray) (k : Nat) : (wl s k).length ≤ s.size + 1 := by
  have e : s.data.toList.length = s.size := (Lib.size_eq s).symm
  unfold wl
  split
  · have := scl_len (s.data.toList.take k)
    rw [List.length_take] at this
    omega
  · have := wds_len s.data.toList
    omega
theorem take_more {s : ByteArray} {k : Nat} (h : k < s.size) : s.data.toList.take (k + 1) = s.data.toList.take k ++ [s[k]] := by
  rw [List.take_add_one, byte_at h]
  rfl
theorem wl_close {s : ByteArray} {k f : Nat} (hf : (sc (s.data.toList.take k)).2 = (s.data.toList.take k).drop f) (h : k = s.size ∨ ∃ h : k < s.size, s[k] = 32) :
    wl s (k + 1) = wl s k ++ [(s.data.toList.take k).drop f] ∧ (k + 1 ≤ s.size → (sc (s.data.toList.take (k + 1))).2 = (s.data.toList.take (k + 1)).drop (k + 1)) := by
  rcases h with rfl | ⟨hk, e⟩
  · refine ⟨?_, fun q => by omega⟩
    unfold wl
    rw [if_neg (by omega), if_pos (Nat.le_refl _), ← hf, List.take_of_length_le (Nat.le_of_eq (Lib.size_eq s).symm)]
    rfl
  · have q : sc (s.data.toList.take (k + 1)) = scS (sc (s.data.toList.take k)) 32 := by rw [take_more hk, sc_snoc, e]
    refine ⟨?_, fun _ => ?_⟩
    · unfold wl
      rw [if_pos (by omega), if_pos (by omega), q, ← hf]
      simp [scS]
    · rw [q]
      simp [scS]
theorem wl_else {s : ByteArray} {k f : Nat} (hk : k < s.size) (hfk : f ≤ k) (hf : (sc (s.data.toList.take k)).2 = (s.data.toList.take k).drop f) (e : ¬ s[k] = 32) :
    wl s (k + 1) = wl s k ∧ (sc (s.data.toList.take (k + 1))).2 = (s.data.toList.take (k + 1)).drop f := by
  have q : sc (s.data.toList.take (k + 1)) = scS (sc (s.data.toList.take k)) s[k] := by rw [take_more hk, sc_snoc]
  have hl : (s.data.toList.take k).length = k := by rw [List.length_take, ← Lib.size_eq]; omega
  refine ⟨?_, ?_⟩
  · unfold wl
    rw [if_pos (by omega), if_pos (by omega), q]
    simp [scS, e]
  · rw [q]
    simp only [scS, e, if_false]
    rw [hf, take_more hk, List.drop_append_of_le_length (by omega)]
theorem b32 {c : UInt8} : c = 32 ↔ (c.toNat : Int) = 32 := by
  constructor
  · rintro rfl; rfl
  · intro h
    apply UInt8.toNat_inj.1
    have : (32 : UInt8).toNat = 32 := rfl
    omega
set_option maxRecDepth 100000 in
set_option maxHeartbeats 1000000 in
theorem words (s : ByteArray) (hs : (s.size : Int) ≤ 1048576) (w : World) : Calls Tryz.prog 16 #[.string s] w fun e w' => ∃ v, e = .returned v ∧ w'.ownsRow w.heap.size 9 1 v (wds s.data.toList).length (strV (wds s.data.toList)) ∧ Below w.heap.size w w' := by
  obtain ⟨i0, hi0, hz0, hz1, hz2⟩ := info_parts infoTx
  have HO0 := hide (show (w.alloc (.cells #[] 9)).ownsRow w.heap.size 9 1 (.slice (some ⟨w.heap.size, 0, none⟩) 0 0) 0 [] from
    ⟨rfl, .inr ⟨w.heap.size, 0, #[], rfl, Nat.le_refl _, heap_alloc_new w _, Nat.le_refl _, by simp [maxLen], rfl, rfl⟩⟩)
  have B0 := hide (show Below w.heap.size w (w.alloc (.cells #[] 9)) from (Below.refl _ _).alloc (Nat.le_refl _) _)
  go_enter Tryz.func16, Tryz.ntmps16
  go_wp2_with fail
  go_loopw [3, 4, 5] (fun v f i wx => ∃ k f' : Nat, k ≤ s.size + 1 ∧ f' ≤ k ∧ i = .int .i64 (k : Int) ∧ f = .int .i64 (f' : Int) ∧ wx.ownsRow w.heap.size 9 1 v (wl s k).length (strV (wl s k)) ∧ (k ≤ s.size → (sc (s.data.toList.take k)).2 = (s.data.toList.take k).drop f') ∧ Below w.heap.size w wx) (fun _ _ i _ => s.size + 1 - (intOf i).toNat)
  case atStart => exact ⟨0, 0, Nat.zero_le _, Nat.le_refl _, rfl, rfl, HO0.out, fun _ => rfl, B0.out⟩
  case round =>
    obtain ⟨X, rfl⟩ : ∃ X, X = wr := ⟨_, rfl⟩
    obtain ⟨k, f, hk, hfk, rfl, rfl, hown, hf, bb⟩ := hrel
    have HOW := hide hown
    have BB := hide bb
    have sz1 := bb.size
    have flen := wl_len s k
    have fI : (f : Int) ≤ (k : Int) := by omega
    have HF := hide hf
    clear hown bb hf
    by_cases hks : k ≤ s.size
    · have kI : (k : Int) ≤ (s.size : Int) := by omega
      have E := hide (ext_list s f k)
      by_cases hc : k = s.size ∨ ∃ h : k < s.size, s[k] = 32
      · have E1 := hide (wl_close (HF.out hks) hc)
        have APP : ∀ (hX : True), True := fun _ => trivial
        by_cases ek : k = s.size
        · have e1 : ((k : Int) == (s.size : Int)) = true := beq_iff_eq.2 (by omega)
          have e2 : (k == s.size) = true := beq_iff_eq.2 ek
          clear ek hc
          obtain ⟨L, hL⟩ : ∃ L, wl s k = L := ⟨_, rfl⟩
          rw [hL] at HOW E1 flen
          clear hL
          go_wp2_with (at_builtin; refine wpList_append_own _ rfl _ _ 36 rfl w.heap.size 9 i0 (.string ⟨#[]⟩) 1 16 Tryz.underlying36 hi0 hz0 hz1 hz2 rfl (by decide) _ _ _ rfl (HOW.out.alloc _) ⟨X.heap.size, 0, none⟩ 1 1 [.string (s.extract f k)] rfl rfl (World.news_of_block (cs := #[.string (s.extract f k)]) (t := 9) (fr := (0, 0)) (heap_alloc_new X _)) (by simp [Value.oneCell']) (by unfold maxLen; omega) (by omega) (by simp; omega) ?_; intro v' w1 hown1 hgrow1 _)
          go_roundw
          case rel =>
            rw [E.out, strV_more] at hown1
            refine ⟨k + 1, k + 1, by omega, Nat.le_refl _, by go_num, by go_num, ?_, E1.out.2, ?_⟩
            · rw [E1.out.1]
              have e : (L ++ [(s.data.toList.take k).drop f]).length = L.length + 1 := by simp
              rw [e]
              exact hown1
            · exact (BB.out.alloc sz1 _).grown hgrow1 (by simp; omega) (fun k hk => (HOW.out.lt k hk).1)
          case measure => simp [intOf]; omega
        · have hlt : k < s.size := by omega
          have kL : (k : Int) < (s.size : Int) := by omega
          have e1 : ((k : Int) == (s.size : Int)) = false := beq_eq_false_iff_ne.2 (by omega)
          have e2 : (k == s.size) = false := beq_eq_false_iff_ne.2 ek
          have ec : s[k] = 32 := by
            rcases hc with q | ⟨_, q⟩
            · exact absurd q ek
            · exact q
          have e3 : (((s[k]'hlt).toNat : Int) == 32) = true := beq_iff_eq.2 (b32.1 ec)
          have e4 : ((s[k]'hlt).toNat == 32) = true := beq_iff_eq.2 (by have := b32.1 ec; omega)
          clear ek hc ec
          obtain ⟨L, hL⟩ : ∃ L, wl s k = L := ⟨_, rfl⟩
          rw [hL] at HOW E1 flen
          clear hL
          go_wp2_with (at_builtin; refine wpList_append_own _ rfl _ _ 36 rfl w.heap.size 9 i0 (.string ⟨#[]⟩) 1 16 Tryz.underlying36 hi0 hz0 hz1 hz2 rfl (by decide) _ _ _ rfl (HOW.out.alloc _) ⟨X.heap.size, 0, none⟩ 1 1 [.string (s.extract f k)] rfl rfl (World.news_of_block (cs := #[.string (s.extract f k)]) (t := 9) (fr := (0, 0)) (heap_alloc_new X _)) (by simp [Value.oneCell']) (by unfold maxLen; omega) (by omega) (by simp; omega) ?_; intro v' w1 hown1 hgrow1 _)
          go_roundw
          case rel =>
            rw [E.out, strV_more] at hown1
            refine ⟨k + 1, k + 1, by omega, Nat.le_refl _, by go_num, by go_num, ?_, E1.out.2, ?_⟩
            · rw [E1.out.1]
              have e : (L ++ [(s.data.toList.take k).drop f]).length = L.length + 1 := by simp
              rw [e]
              exact hown1
            · exact (BB.out.alloc sz1 _).grown hgrow1 (by simp; omega) (fun k hk => (HOW.out.lt k hk).1)
          case measure => simp [intOf]; omega
      · have ek : k ≠ s.size := fun q => hc (.inl q)
        have hlt : k < s.size := by omega
        have kL : (k : Int) < (s.size : Int) := by omega
        have e1 : ((k : Int) == (s.size : Int)) = false := beq_eq_false_iff_ne.2 (by omega)
        have e2 : (k == s.size) = false := beq_eq_false_iff_ne.2 ek
        have ec : ¬ s[k] = 32 := fun q => hc (.inr ⟨hlt, q⟩)
        have e3 : (((s[k]'hlt).toNat : Int) == 32) = false := beq_eq_false_iff_ne.2 (fun q => ec (b32.2 q))
        have e4 : ((s[k]'hlt).toNat == 32) = false := beq_eq_false_iff_ne.2 (fun q => ec (b32.2 (by omega)))
        have E1 := hide (wl_else hlt hfk (HF.out hks) ec)
        clear ek hc ec
        go_wp2_with fail
        go_roundw
        case rel => exact ⟨k + 1, f, by omega, by omega, by go_num, by go_num, by rw [E1.out.1]; exact HOW.out, fun _ => E1.out.2, BB.out⟩
        case measure => simp [intOf]; omega
    · have kI : decide ((k : Int) ≤ (s.size : Int)) = false := decide_eq_false (by omega)
      have kI' : decide (k ≤ s.size) = false := decide_eq_false (by omega)
      have EG := hide (show wl s k = wds s.data.toList by unfold wl; rw [if_neg hks])
      clear hks
      go_wp2_with fail
      go_ret
      refine ⟨_, rfl, ?_, BB.out⟩
      have := HOW.out
      rw [EG.out] at this
      exact this
set_option maxRecDepth 100000 in
/-- the digits that a text begins with -/
theorem digitsW (s : ByteArray) (w : World) (hs : s.size ≤ 1048576) :
    Calls Tryz.prog 38 #[.string s, .int .i64 0, .int .i64 5] w fun e w' => e = .returned (.tuple #[.int .i64 (val (s.data.toList.take (cnt 5 s.data.toList)) : Nat), .int .i64 (cnt 5 s.data.toList : Nat)]) ∧ w' = w := by
  have DS := hide (fun j (h : 0 + j < s.size) => Base.digit_step s 0 j h)
  have VL := hide (fun j (h : j ≤ cnt 5 s.data.toList) => Base.sNum_lt 5 0 s.data.toList j (by simpa [Base.sCnt] using h) (by omega))
  simp only [List.drop_zero] at DS VL
  go_enter Tryz.func38, Tryz.ntmps38
  go_wp2_with fail
  go_loop [8, 9] (fun n k => ∃ j : Nat, j ≤ cnt 5 s.data.toList ∧ n = .int .i64 (val (s.data.toList.take j) : Nat) ∧ k = .int .i64 j) (fun _ k => 20 - (intOf k).toNat)
  case atStart => exact ⟨0, Nat.zero_le _, rfl, rfl⟩
  case round =>
    obtain ⟨j, hj, rfl, rfl⟩ := hrel
    have hv := VL.out j hj
    have hjm := Nat.le_trans hj (cnt_le 5 _)
    by_cases c1 : j < s.size
    · have c1' : (j : Int) < (s.size : Int) := by omega
      by_cases c2 : j < 5
      · have hst := hide (DS.out j (by omega))
        have hat := hide (byte_at c1)
        simp only [Nat.zero_add] at hst
        by_cases c3 : 48 ≤ (s[j].toNat : Int)
        · by_cases c4 : (s[j].toNat : Int) ≤ 57
          · have hmo := hide (cnt_more 5 s.data.toList j hj c2 _ hat.out ⟨by omega, by omega⟩)
            go_wp2_with fail
            go_round
            case rel => exact ⟨j + 1, hmo.out, by rw [hst.out]; congr 1; omega, by go_num⟩
            case measure => simp [intOf]; omega
          · have hd := hide (cnt_stop 5 s.data.toList j hj (.inr (.inr ⟨_, hat.out, fun h => by have := h.2; omega⟩)))
            have c5 : decide ((s[j].toNat : Int) ≤ 57) = false := by rw [decide_eq_false_iff_not]; exact c4
            go_wp2_with fail
            go_ret2
            exact ⟨Base.ret_two (by rw [← hd.out]) (by rw [← hd.out]), rfl⟩
        · have hd := hide (cnt_stop 5 s.data.toList j hj (.inr (.inr ⟨_, hat.out, fun h => by have := h.1; omega⟩)))
          have c5 : decide (48 ≤ (s[j].toNat : Int)) = false := by rw [decide_eq_false_iff_not]; exact c3
          go_wp2_with fail
          go_ret2
          exact ⟨Base.ret_two (by rw [← hd.out]) (by rw [← hd.out]), rfl⟩
      · have hd := hide (cnt_stop 5 s.data.toList j hj (.inl (by omega)))
        have c5 : decide ((j : Int) < 5) = false := by rw [decide_eq_false_iff_not]; omega
        have c6 : decide (j < 5) = false := by rw [decide_eq_false_iff_not]; omega
        go_wp2_with fail
        go_ret2
        exact ⟨Base.ret_two (by rw [← hd.out]) (by rw [← hd.out]), rfl⟩
    · have hd := hide (cnt_stop 5 s.data.toList j hj (.inr (.inl (by rw [← Lib.size_eq]; omega))))
      have c5 : decide ((j : Int) < (s.size : Int)) = false := by rw [decide_eq_false_iff_not]; omega
      have c6 : decide (j < s.size) = false := by rw [decide_eq_false_iff_not]; omega
      go_wp2_with fail
      go_ret2
      exact ⟨Base.ret_two (by rw [← hd.out]) (by rw [← hd.out]), rfl⟩
theorem b48 {c : UInt8} : c = 48 ↔ (c.toNat : Int) = 48 := by
  constructor
  · rintro rfl; rfl
  · intro h
    apply UInt8.toNat_inj.1
    have : (48 : UInt8).toNat = 48 := rfl
    omega
set_option maxRecDepth 100000 in
theorem wholeM (s : ByteArray) (w : World) (hs : s.size ≤ 1048576) :
    Calls Tryz.prog 17 #[.string s] w fun e w' => e = .returned (.int .i64 (whole s.data.toList : Nat)) ∧ w' = w := by
  have hl : s.data.toList.length = s.size := (Lib.size_eq s).symm
  have hle := cnt_len 5 s.data.toList
  have hhd : ∀ h : 0 < s.size, s.data.toList.head? = some s[0] := fun h => Base.head_at s h
  have HW : Hid (whole s.data.toList = if cnt 5 s.data.toList ≠ s.data.toList.length ∨ cnt 5 s.data.toList = 0 ∨ 4 < cnt 5 s.data.toList ∨ s.data.toList.head? = some 48 then 0 else val (s.data.toList.take (cnt 5 s.data.toList))) := hide rfl
  have C := hide (digitsW s w hs)
  obtain ⟨k, hk⟩ : ∃ k, cnt 5 s.data.toList = k := ⟨_, rfl⟩
  obtain ⟨v, hv⟩ : ∃ v, val (s.data.toList.take (cnt 5 s.data.toList)) = v := ⟨_, rfl⟩
  rw [hv] at C HW
  rw [hk] at C HW hle
  rw [hl] at HW hle
  clear hk hv hl
  by_cases c1 : k = s.size
  · subst c1
    by_cases c2 : s = ByteArray.empty
    · have R := hide (show whole s.data.toList = 0 by rw [HW.out, if_pos (.inr (.inl (by rw [c2]; rfl)))])
      subst c2
      clear HW hhd hle
      go_enter Tryz.func17, Tryz.ntmps17
      go_wp2_with fail
      refine C.out.mono ?_; rintro e w1 ⟨rfl, rfl⟩
      go_wp2_with fail
      go_ret
      exact ⟨by rw [R.out]; rfl, rfl⟩
    · have p0 : 0 < s.size := by
        rcases Nat.eq_zero_or_pos s.size with q | q
        · exact absurd (ByteArray.ext (Array.eq_empty_of_size_eq_zero q)) c2
        · exact q
      have z0 : ((s.size : Int) == 0) = false := beq_eq_false_iff_ne.2 (by omega)
      have z1 : (s.size == 0) = false := beq_eq_false_iff_ne.2 (by omega)
      have z2 : ¬ s.size = 0 := by omega
      by_cases c3 : 4 < s.size
      · have d1 : (4 : Int) < (s.size : Int) := by omega
        have R := hide (show whole s.data.toList = 0 by rw [HW.out, if_pos (.inr (.inr (.inl c3)))])
        clear HW hhd hle
        go_enter Tryz.func17, Tryz.ntmps17
        go_wp2_with fail
        refine C.out.mono ?_; rintro e w1 ⟨rfl, rfl⟩
        go_wp2_with fail
        go_ret
        exact ⟨by rw [R.out]; rfl, rfl⟩
      · have d1 : ¬ (4 : Int) < (s.size : Int) := by omega
        have d3 : (s.size : Int) ≤ 4 := by omega
        have p0' : (0 : Int) < (s.size : Int) := by omega
        by_cases c4 : s[0] = 48
        · have f1 : (((s[0]'p0).toNat : Int) == 48) = true := beq_iff_eq.2 (b48.1 c4)
          have f2 : ((s[0]'p0).toNat == 48) = true := beq_iff_eq.2 (by have := b48.1 c4; omega)
          have R := hide (show whole s.data.toList = 0 by rw [HW.out, if_pos (.inr (.inr (.inr (by rw [hhd p0, c4]))))])
          clear c4 HW hhd hle
          go_enter Tryz.func17, Tryz.ntmps17
          go_wp2_with fail
          refine C.out.mono ?_; rintro e w1 ⟨rfl, rfl⟩
          go_wp2_with fail
          go_ret
          exact ⟨by rw [R.out]; rfl, rfl⟩
        · have f1 : (((s[0]'p0).toNat : Int) == 48) = false := beq_eq_false_iff_ne.2 (fun q => c4 (b48.2 q))
          have f2 : ((s[0]'p0).toNat == 48) = false := beq_eq_false_iff_ne.2 (fun q => c4 (b48.2 (by omega)))
          have R := hide (show whole s.data.toList = v by
            rw [HW.out, if_neg]
            rintro (q | q | q | q)
            · exact q rfl
            · omega
            · exact c3 q
            · rw [hhd p0] at q; exact c4 (Option.some.inj q))
          clear c3 c4 HW hhd hle
          go_enter Tryz.func17, Tryz.ntmps17
          go_wp2_with fail
          refine C.out.mono ?_; rintro e w1 ⟨rfl, rfl⟩
          go_wp2_with fail
          go_ret
          exact ⟨by rw [R.out]; rfl, rfl⟩
  · have n1 : ¬ (k : Int) = (s.size : Int) := by omega
    have R := hide (show whole s.data.toList = 0 by rw [HW.out, if_pos (.inl c1)])
    clear HW hhd hle
    go_enter Tryz.func17, Tryz.ntmps17
    go_wp2_with fail
    refine C.out.mono ?_; rintro e w1 ⟨rfl, rfl⟩
    go_wp2_with fail
    go_ret
    exact ⟨by rw [R.out]; rfl, rfl⟩
end Vo
end Go.Proofs.YtbbmbgjjhaajjaaGreatDoor
