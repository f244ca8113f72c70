/- ReadNum in the program: the library's Atoi, CutPrefix and Cut; the guess, and the test that follows it. -/
import Derived.Test.YtbbmbgjjhaajjaaGreatDoorRead
namespace Go.Proofs.YtbbmbgjjhaajjaaGreatDoor
namespace Base
open Go.ChangeShapes Go.WideShapes Go.ChangeAt Go.RowKit
set_option linter.unusedVariables false

theorem text_eq' {s : ByteArray} {l : List UInt8} (h : (l != s.toList) = false) : s.data.toList = l := by
  rw [bne_eq_false_iff_eq] at h; rw [h, Lib.toList_data]
theorem text_ne' {s : ByteArray} {l : List UInt8} (h : (l != s.toList) = true) : ¬ s.data.toList = l := by
  intro e
  rw [bne_iff_ne] at h
  exact h (by rw [← e, Lib.toList_data])

/-- the library's variables that are read: the table, the two errors -/
def Err (name : String) (w : World) : Prop := ∃ tp p, w.var? Tryz.prog name = some #[.iface tp p]
structure Vars (w : World) : Prop where
  pows : Pows w
  syn : Err "strconv.ErrSyntax" w
  ran : Err "strconv.ErrRange" w
theorem syn_g : Tryz.prog.globalNamed "strconv.ErrSyntax" = some 3 := by kernel_rfl
theorem ran_g : Tryz.prog.globalNamed "strconv.ErrRange" = some 4 := by kernel_rfl
theorem var_lt {name : String} {g : Nat} {w : World} {v : Value} (hg : Tryz.prog.globalNamed name = some g) (h : w.var? Tryz.prog name = some #[v]) : g < w.heap.size := by
  have h := World.var?_cell hg h 0
  rcases Nat.lt_or_ge g w.heap.size with h' | h'
  · exact h'
  · simp [World.cell?, Array.getElem?_eq_none h'] at h
theorem vars_below {w w' : World} (h : Below w.heap.size w w') (hv : Vars w) : Vars w' := by
  obtain ⟨a, ⟨t1, p1, b⟩, ⟨t2, p2, c⟩⟩ := hv
  exact ⟨pows_below h a, ⟨t1, p1, var?_below h syn_g (var_lt syn_g b) b⟩, ⟨t2, p2, var?_below h ran_g (var_lt ran_g c) c⟩⟩

theorem atoiOr_bd (l : List UInt8) : -9223372036854775808 ≤ Lib.atoiOr l 0 ∧ Lib.atoiOr l 0 ≤ 9223372036854775807 := by
  unfold Lib.atoiOr
  split
  · rename_i v h
    unfold Lib.atoiAll at h
    split at h
    · cases h
    · simp only at h
      split at h
      · cases h
      · cases h
      · split at h
        · cases h
        · split at h
          · cases h
          · injection h with h
            split at h <;> omega
  · omega

theorem guessInt (s : ByteArray) (w : World) (hs : s.size ≤ 1048576) (hv : Vars w) :
    Calls Tryz.prog 47 #[.string s] w fun e w' => e = .returned (.int .i64 (Lib.atoiOr s.data.toList 0)) ∧ Below w.heap.size w w' := by
  cases h : Lib.atoiAll s.data.toList with
  | ok v =>
    have e : Hid (Lib.atoiOr s.data.toList 0 = v) := by show _ = _; unfold Lib.atoiOr; rw [h]
    have hc := hide (Tryz.strconv_Atoi_ok s (by omega) v h w)
    clear h
    go_enter Tryz.func47, Tryz.ntmps47
    go_wp2_with fail
    refine hc.out.mono ?_; rintro e w1 ⟨rfl, hw⟩
    have hb : Below w.heap.size w w1 := by
      rcases hw with rfl | ⟨t, rfl⟩
      · exact Below.refl _ _
      · exact Lib.bytesWorld_below w _ t
    clear hw
    go_wp2_with fail
    go_ret
    exact ⟨ret_int e.out.symm, hb⟩
  | range =>
    have e : Hid (Lib.atoiOr s.data.toList 0 = 0) := by show _ = _; unfold Lib.atoiOr; rw [h]
    obtain ⟨tp, p, hr⟩ := hv.ran
    have hc := hide (Any.strconv_Atoi_range_var Tryz.laysC172 s (by omega) h tp p w hr)
    clear h hr hv
    go_enter Tryz.func47, Tryz.ntmps47
    go_wp2_with fail
    refine hc.out.mono ?_; rintro e w1 ⟨N, rfl, _, _, hb⟩
    go_wp2_with fail
    go_ret
    exact ⟨ret_int e.out.symm, hb⟩
  | _ =>
    have e : Hid (Lib.atoiOr s.data.toList 0 = 0) := by show _ = _; unfold Lib.atoiOr; rw [h]
    obtain ⟨tp, p, hr⟩ := hv.syn
    have hc := hide (Any.strconv_Atoi_syntax_var Tryz.laysC172 s (by omega) h tp p w hr)
    clear h hr hv
    go_enter Tryz.func47, Tryz.ntmps47
    go_wp2_with fail
    refine hc.out.mono ?_; rintro e w1 ⟨N, rfl, _, _, hb⟩
    go_wp2_with fail
    go_ret
    exact ⟨ret_int e.out.symm, hb⟩

theorem index_cases (l : List UInt8) (c : UInt8) : Lib.indexByte l c = -1 ∨ ∃ i : Nat, Lib.indexByte l c = i ∧ i < l.length := by
  induction l with
  | nil => exact .inl rfl
  | cons b l ih =>
    rw [Lib.indexByte]
    split
    · exact .inr ⟨0, rfl, by simp⟩
    · rcases ih with h | ⟨i, h, hi⟩
      · rw [h]; exact .inl rfl
      · rw [h, if_neg (by simp)]
        exact .inr ⟨i + 1, by simp, by simp; omega⟩

theorem liteCutNo (s : ByteArray) (w : World) (hs : s.size ≤ 1048576) (h : Lib.indexByte s.data.toList 47 = -1) :
    Calls Tryz.prog 69 #[.string s, .string ⟨#[47]⟩] w fun e w' => e = .returned (.tuple #[.string s, .string ⟨#[]⟩, .bool false]) ∧ w' = w := by
  have hc := hide (Tryz.stringslite_Index_one s 47 w)
  rw [h] at hc
  clear h
  go_enter Tryz.func69, Tryz.ntmps69
  go_wp2_with fail
  refine hc.out.mono ?_; rintro e w1 ⟨rfl, rfl⟩
  go_wp2_with fail
  go_ret3
  exact ⟨rfl, rfl⟩

theorem liteCutYes (s : ByteArray) (i : Nat) (w : World) (hs : s.size ≤ 1048576) (h : Lib.indexByte s.data.toList 47 = i) (hi : i < s.size) :
    Calls Tryz.prog 69 #[.string s, .string ⟨#[47]⟩] w fun e w' => e = .returned (.tuple #[.string (s.extract 0 i), .string (s.extract (i + 1) s.size), .bool true]) ∧ ∃ n, w' = w.drewN n := by
  have hc := hide (Tryz.stringslite_Index_one s 47 w)
  rw [h] at hc
  clear h
  have c1 : (0 : Int) ≤ (i : Int) := by omega
  have c2 : (i : Int) ≤ (s.size : Int) := by omega
  have c3 : (0 : Int) ≤ (i : Int) + 1 := by omega
  have c4 : (i : Int) + 1 ≤ (s.size : Int) := by omega
  go_enter Tryz.func69, Tryz.ntmps69
  go_wp2_with fail
  refine hc.out.mono ?_; rintro e w1 ⟨rfl, rfl⟩
  go_wp2_with fail
  go_quiet (fail)
  go_wp2_with fail
  go_ret3
  exact ⟨rfl, nq, rfl⟩

theorem cutNo (s : ByteArray) (w : World) (hs : s.size ≤ 1048576) (h : Lib.indexByte s.data.toList 47 = -1) :
    Calls Tryz.prog 42 #[.string s, .string ⟨#[47]⟩] w fun e w' => e = .returned (.tuple #[.string s, .string ⟨#[]⟩, .bool false]) ∧ w' = w := by
  have h := hide h
  go_enter Tryz.func42, Tryz.ntmps42
  go_wp2_with fail
  refine (liteCutNo s _ hs h.out).mono ?_; rintro e w1 ⟨rfl, rfl⟩
  go_wp2_with fail
  go_ret3
  exact ⟨rfl, rfl⟩
theorem cutYes (s : ByteArray) (i : Nat) (w : World) (hs : s.size ≤ 1048576) (h : Lib.indexByte s.data.toList 47 = i) (hi : i < s.size) :
    Calls Tryz.prog 42 #[.string s, .string ⟨#[47]⟩] w fun e w' => e = .returned (.tuple #[.string (s.extract 0 i), .string (s.extract (i + 1) s.size), .bool true]) ∧ ∃ n, w' = w.drewN n := by
  have h := hide h
  go_enter Tryz.func42, Tryz.ntmps42
  go_wp2_with fail
  refine (liteCutYes s i _ hs h.out hi).mono ?_; rintro e w1 ⟨rfl, n, rfl⟩
  go_wp2_with fail
  go_ret3
  exact ⟨rfl, n, rfl⟩

theorem implOfFrac (n d : Int) (w : World) :
    Calls Tryz.prog 90 #[.agg #[.int .i64 n, .int .i64 d]] w fun e w' => e = .returned (.int .i64 (ofF n d)) ∧ Below w.heap.size w w' := by
  cases h : okB n d with
  | false =>
    refine (implOfFracNo n d w h).mono ?_
    rintro e w' ⟨rfl, b⟩
    exact ⟨by rw [ofF, if_neg (by rw [h]; simp)], b⟩
  | true =>
    refine (implOfFracYes n d w h).mono ?_
    rintro e w' ⟨rfl, b⟩
    exact ⟨by rw [ofF, if_pos h], b⟩

theorem prefix_yes {l : List UInt8} (h : l.head? = some 35) : Lib.hasPrefix l [35] = true ∧ Lib.trimPrefix l [35] = l.tail := by
  cases l with
  | nil => simp at h
  | cons c r =>
    simp at h
    subst h
    have : Lib.hasPrefix (35 :: r) [35] = true := by simp [Lib.hasPrefix, List.isPrefixOf]
    exact ⟨this, by rw [Lib.trimPrefix, if_pos this]; rfl⟩
theorem prefix_no {l : List UInt8} (h : ¬ l.head? = some 35) : Lib.hasPrefix l [35] = false ∧ Lib.trimPrefix l [35] = l := by
  have : Lib.hasPrefix l [35] = false := by
    cases l with
    | nil => rfl
    | cons c r =>
      simp at h
      simp [Lib.hasPrefix, List.isPrefixOf]
      exact fun e => h e.symm
  exact ⟨this, by rw [Lib.trimPrefix, if_neg (by rw [this]; simp)]⟩

theorem list_data (l : List UInt8) : (⟨l.toArray⟩ : ByteArray).data.toList = l := by simp
theorem list_size (l : List UInt8) : (⟨l.toArray⟩ : ByteArray).size = l.length := by rw [Lib.size_eq, list_data]

theorem guessHash (s : ByteArray) (w : World) (hs : s.size ≤ 1048576) (hv : Vars w) (h : s.data.toList.head? = some 35) :
    Calls Tryz.prog 74 #[.string s] w fun e w' => e = .returned (.int .i64 (guessL s.data.toList)) ∧ Below w.heap.size w w' := by
  have e : Hid (guessL s.data.toList = Lib.atoiOr s.data.toList.tail 0) := by show _ = _; rw [guessL, if_pos h]
  have hc := hide (Tryz.strings_CutPrefix s ⟨#[35]⟩ w)
  rw [show (⟨#[35]⟩ : ByteArray).data.toList = [35] from rfl, (prefix_yes h).1, (prefix_yes h).2] at hc
  have hl : s.data.toList.tail.length ≤ 1048576 := by rw [List.length_tail, ← Lib.size_eq]; omega
  have hi := hide (guessInt ⟨s.data.toList.tail.toArray⟩ w (by rw [list_size]; exact hl) hv)
  rw [list_data] at hi
  clear h hv hl
  generalize s.data.toList.tail = q at *
  go_enter Tryz.func74, Tryz.ntmps74
  go_wp2_with fail
  refine hc.out.mono ?_; rintro e w1 ⟨rfl, rfl⟩
  go_wp2_with fail
  refine hi.out.mono ?_; rintro e w2 ⟨rfl, b2⟩
  go_wp2_with fail
  go_ret
  exact ⟨ret_int e.out.symm, b2⟩

theorem guessWhole (s : ByteArray) (w : World) (hs : s.size ≤ 1048576) (hv : Vars w) (h : ¬ s.data.toList.head? = some 35) (hx : Lib.indexByte s.data.toList 47 = -1) :
    Calls Tryz.prog 74 #[.string s] w fun e w' => e = .returned (.int .i64 (guessL s.data.toList)) ∧ Below w.heap.size w w' := by
  have e : Hid (guessL s.data.toList = ofF (Lib.atoiOr s.data.toList 0) 1) := by show _ = _; rw [guessL, if_neg h, if_pos hx]
  have hc := hide (Tryz.strings_CutPrefix s ⟨#[35]⟩ w)
  rw [show (⟨#[35]⟩ : ByteArray).data.toList = [35] from rfl, (prefix_no h).1] at hc
  have hcut := hide (cutNo s w hs hx)
  have hi := hide (guessInt s w hs hv)
  clear h hv hx
  go_enter Tryz.func74, Tryz.ntmps74
  go_wp2_with fail
  refine hc.out.mono ?_; rintro e w1 ⟨rfl, rfl⟩
  go_wp2_with fail
  refine hcut.out.mono ?_; rintro e w2 ⟨rfl, rfl⟩
  go_wp2_with fail
  refine hi.out.mono ?_; rintro e w3 ⟨rfl, b3⟩
  go_wp2_with fail
  refine (implOfFrac _ _ _).mono ?_; rintro e w4 ⟨rfl, b4⟩
  go_wp2_with fail
  go_ret
  exact ⟨ret_int e.out.symm, b3.trans (b4.mono b3.size)⟩

theorem guessFrac (s : ByteArray) (i : Nat) (w : World) (hs : s.size ≤ 1048576) (hv : Vars w) (h : ¬ s.data.toList.head? = some 35) (hx : Lib.indexByte s.data.toList 47 = i) (hlt : i < s.size) :
    Calls Tryz.prog 74 #[.string s] w fun e w' => e = .returned (.int .i64 (guessL s.data.toList)) ∧ Below w.heap.size w w' := by
  have d1 : (s.extract 0 i).data.toList = s.data.toList.take i := by rw [Lib.extract_data]; simp
  have d2 : (s.extract (i + 1) s.size).data.toList = s.data.toList.drop (i + 1) := by
    rw [Lib.extract_data, List.take_of_length_le (by rw [List.length_drop, ← Lib.size_eq]; omega)]
  have e : Hid (guessL s.data.toList = ofF (Lib.atoiOr (s.extract 0 i).data.toList 0) (Lib.atoiOr (s.extract (i + 1) s.size).data.toList 0)) := by
    show _ = _
    rw [guessL, if_neg h, hx, if_neg (by omega), d1, d2, Int.toNat_natCast]
  have hc := hide (Tryz.strings_CutPrefix s ⟨#[35]⟩ w)
  rw [show (⟨#[35]⟩ : ByteArray).data.toList = [35] from rfl, (prefix_no h).1] at hc
  have hcut := hide (cutYes s i w hs hx hlt)
  have z1 : (s.extract 0 i).size ≤ 1048576 := by rw [Lib.size_eq, d1, List.length_take, ← Lib.size_eq]; omega
  have z2 : (s.extract (i + 1) s.size).size ≤ 1048576 := by rw [Lib.size_eq, d2, List.length_drop, ← Lib.size_eq]; omega
  have hv' := hide hv
  clear h hv hx d1 d2
  generalize s.extract 0 i = p at *
  generalize s.extract (i + 1) s.size = q at *
  go_enter Tryz.func74, Tryz.ntmps74
  go_wp2_with fail
  refine hc.out.mono ?_; rintro e w1 ⟨rfl, rfl⟩
  go_wp2_with fail
  refine hcut.out.mono ?_; rintro e w2 ⟨rfl, nn, rfl⟩
  have b2 : Below w1.heap.size w1 (w1.drewN nn) := ⟨rfl, rfl, rfl, Nat.le_refl _, fun _ _ => rfl⟩
  have v2 := hide (vars_below b2 hv'.out)
  go_wp2_with fail
  refine (guessInt p _ z1 v2.out).mono ?_; rintro e w3 ⟨rfl, b3⟩
  have b3' : Below w1.heap.size w1 w3 := b2.trans (b3.mono b2.size)
  have v3 := hide (vars_below b3' hv'.out)
  clear b3
  go_wp2_with fail
  refine (guessInt q _ z2 v3.out).mono ?_; rintro e w4 ⟨rfl, b4⟩
  go_wp2_with fail
  refine (implOfFrac _ _ _).mono ?_; rintro e w5 ⟨rfl, b5⟩
  go_wp2_with fail
  go_ret
  exact ⟨ret_int e.out.symm, (b3'.trans (b4.mono b3'.size)).trans (b5.mono (Nat.le_trans b3'.size b4.size))⟩

theorem guessNum (s : ByteArray) (w : World) (hs : s.size ≤ 1048576) (hv : Vars w) :
    Calls Tryz.prog 74 #[.string s] w fun e w' => e = .returned (.int .i64 (guessL s.data.toList)) ∧ Below w.heap.size w w' := by
  by_cases h : s.data.toList.head? = some 35
  · exact guessHash s w hs hv h
  · rcases index_cases s.data.toList 47 with hx | ⟨i, hx, hi⟩
    · exact guessWhole s w hs hv h hx
    · exact guessFrac s i w hs hv h hx (by rw [Lib.size_eq]; exact hi)

theorem guess_bd (l : List UInt8) : -9223372036854775808 ≤ guessL l ∧ guessL l ≤ 9223372036854775807 := by
  have a := atoiOr_bd l.tail
  have b := ofF_bd (Lib.atoiOr l 0) 1
  have c := ofF_bd (Lib.atoiOr (l.take (Lib.indexByte l 47).toNat) 0) (Lib.atoiOr (l.drop ((Lib.indexByte l 47).toNat + 1)) 0)
  unfold guessL
  split
  · exact a
  · split <;> omega

theorem guess_mod {l : List UInt8} : ∀ x, Shown l x → guessL l % 2147483647 = x := by
  intro x hx
  have := shown_guess hx
  have := hx.1
  have := hx.2.1
  omega

theorem implReadNum (s : ByteArray) (w : World) (hs : s.size ≤ 1048576) (hv : Vars w) :
    Calls Tryz.prog 49 #[.string s] w fun e w' => Reads s.data.toList w e w' := by
  have hv' := hide hv
  clear hv
  obtain ⟨g0, g1⟩ := guess_bd s.data.toList
  have hm := hide (guess_mod (l := s.data.toList))
  have hself : Hid (∀ x, Shown s.data.toList x → guessL s.data.toList = x) := fun x hx => shown_guess hx
  go_enter Tryz.func49, Tryz.ntmps49
  go_wp2_with fail
  refine (guessNum s _ hs hv'.out).mono ?_; rintro e w1 ⟨rfl, b1⟩
  have v1 := hide (vars_below b1 hv'.out)
  generalize guessL s.data.toList = a at *
  go_wp2_with fail
  refine (implShowNum _ _ g0 g1 v1.out.pows).mono ?_; rintro e w2 ⟨n, d, b, r1, rfl, b2⟩
  obtain ⟨y, no⟩ := read_end hm.out r1
  replace y := hide y
  replace no := hide no
  have bb := b1.trans (b2.mono b1.size)
  clear b1 b2
  go_wp2_with fail
  · go_ret2
    exact ⟨0, false, rfl, no.out (text_ne' (by assumption)), bb⟩
  · go_ret2
    refine ⟨a, true, rfl, ?_, bb⟩
    have hr := y.out (text_eq' (by assumption))
    rcases hr with ⟨_, hr⟩ | ⟨hr, _⟩
    · exact .inl ⟨rfl, by rw [hself.out _ hr]; exact hr⟩
    · cases hr

end Base
end Go.Proofs.YtbbmbgjjhaajjaaGreatDoor
