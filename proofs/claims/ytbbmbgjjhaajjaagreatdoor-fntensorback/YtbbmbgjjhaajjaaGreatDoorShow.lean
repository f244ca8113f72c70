/- Numbers as texts on both sides: the model's decimal digits one by one, the library's Itoa. -/
import Derived.Test.YtbbmbgjjhaajjaaGreatDoorToFrac
import Derived.Test.YtbbmbgjjhaajjaaGreatDoorShelf
import Derived.Lib.ItoaMem
import Derived.Laws.BytesArg
import Derived.Lib.QuietBelow
import Derived.Deep.RegionWith
namespace Go.Proofs.YtbbmbgjjhaajjaaGreatDoor
namespace Base
open Go.ChangeShapes Go.WideShapes Go.ChangeAt Go.RowKit
set_option linter.unusedVariables false

/-- the text of one byte -/
def byteText (n : Int) : ByteArray := ⟨#[UInt8.ofNat n.toNat]⟩

theorem ret_str {a b : ByteArray} (h : a = b) : Ending.returned (.string a) = .returned (.string b) := by rw [h]
theorem text_one (n : Int) (h0 : 0 ≤ n) (h : n < 10) : byteText (48 + n % 10) = ⟨(Lib.decDigits n.toNat).toArray⟩ := by
  rw [Lib.decDigits_one (by omega), byteText]
  have : (48 + n % 10).toNat = 48 + n.toNat := by omega
  rw [this]

theorem dec_len (u : Nat) : (Lib.decDigits u).length ≤ u + 1 := by
  induction u using Nat.strongRecOn with
  | ind u ih =>
    by_cases h : u < 10
    · rw [Lib.decDigits_one h]; simp
    · rw [Lib.decDigits, dif_neg h]
      have := ih (u / 10) (by omega)
      simp; omega
theorem text_more (n : Int) (h : 10 ≤ n) : (⟨(Lib.decDigits (n / 10).toNat).toArray⟩ : ByteArray) ++ byteText (48 + n % 10) = ⟨(Lib.decDigits n.toNat).toArray⟩ := by
  obtain ⟨m, rfl⟩ := Int.eq_ofNat_of_zero_le (show 0 ≤ n by omega)
  have e1 : ((m : Int) / 10).toNat = (m : Int).toNat / 10 := by omega
  have e2 : (48 + (m : Int) % 10).toNat = 48 + (m : Int).toNat % 10 := by omega
  have e3 : Lib.decDigits (m : Int).toNat = Lib.decDigits ((m : Int).toNat / 10) ++ [UInt8.ofNat (48 + (m : Int).toNat % 10)] := by
    rw [Lib.decDigits, dif_neg (by omega)]
  rw [byteText, e1, e2, e3]
  apply ByteArray.ext
  simp

theorem conv1 (w : World) (n : Int) :
    (convert 30 9 (.slice (some ⟨w.heap.size, 0, none⟩) 1 1)).run Tryz.prog (w.alloc (.cells #[.int .u8 n] 5)) = .ok (.string (byteText n)) (w.alloc (.cells #[.int .u8 n] 5)) := by
  have h := run_convert_bytes_arg (P := Tryz.prog) (w.alloc (.cells #[.int .u8 n] 5)) 30 5 Tryz.underlying30 Tryz.underlying5 w.heap.size 0 1 1 [n] rfl
    (fun i hi => by obtain rfl : i = 0 := by omega
                    simp [go_sem]) 9 Tryz.underlying9
  rw [h]
  rfl

set_option maxRecDepth 100000 in
theorem l1IntPos (k : Nat) : ∀ (n : Int) (w : World), n ≤ k → 0 ≤ n → n ≤ 2147483647 →
    Calls Tryz.prog 68 #[.int .i64 n] w fun e w' => e = .returned (.string ⟨(Lib.decDigits n.toNat).toArray⟩) ∧ Below w.heap.size w w' := by
  induction k with
  | zero =>
    intro n w hk n0 n1
    obtain rfl : n = 0 := by omega
    have hcv := conv1 w 48
    go_enter Tryz.func68, Tryz.ntmps68
    go_wp2_with fail
    go_ret
    exact ⟨ret_str (text_one 0 (by omega) (by omega)), (Below.refl _ _).alloc (Nat.le_refl _) _⟩
  | succ k ih =>
    intro n w hk n0 n1
    replace ih := hide ih
    have hcv := conv1 w (48 + n % 10)
    by_cases hn : n < 10
    · go_enter Tryz.func68, Tryz.ntmps68
      go_wp2_with fail
      go_ret
      exact ⟨ret_str (text_one n n0 hn), (Below.refl _ _).alloc (Nat.le_refl _) _⟩
    · go_enter Tryz.func68, Tryz.ntmps68
      go_wp2_with fail
      refine (ih.out (n / 10) _ (by omega) (by omega) (by omega)).mono ?_; rintro e w1 ⟨rfl, b1⟩
      clear hcv
      have hl : (Lib.decDigits (n / 10).toNat).length + (byteText (48 + n % 10)).size ≤ 9223372036854775807 := by
        have := dec_len (n / 10).toNat
        have : (byteText (48 + n % 10)).size = 1 := rfl
        omega
      go_wp2_with fail
      go_ret
      exact ⟨ret_str (text_more n hn), ((Below.refl _ _).alloc (Nat.le_refl _) _).trans (b1.mono (by simp))⟩

theorem l1Int (n : Int) (w : World) (n0 : -2147483647 ≤ n) (n1 : n ≤ 2147483647) :
    Calls Tryz.prog 68 #[.int .i64 n] w fun e w' => e = .returned (.string ⟨(Lib.itoa n).toArray⟩) ∧ Below w.heap.size w w' := by
  by_cases hn : 0 ≤ n
  · refine (l1IntPos n.toNat n w (by omega) hn n1).mono ?_
    rintro e w' ⟨rfl, b⟩
    exact ⟨by rw [Lib.itoa, if_neg (by omega)], b⟩
  · have hl : (Lib.decDigits (-n).toNat).length + 1 ≤ 9223372036854775807 := by
      have := dec_len (-n).toNat
      omega
    have z : (n == -9223372036854775808) = false := by rw [beq_eq_false_iff_ne]; omega
    have e : Hid (Lib.itoa n = 45 :: Lib.decDigits (-n).toNat) := by
      show _ = _
      rw [Lib.itoa, if_pos (by omega)]
      have : n.natAbs = (-n).toNat := by omega
      rw [this]
    go_enter Tryz.func68, Tryz.ntmps68
    go_wp2_with fail
    refine (l1IntPos (-n).toNat (-n) _ (by omega) (by omega) (by omega)).mono ?_; rintro e w1 ⟨rfl, b1⟩
    go_wp2_with fail
    go_ret
    exact ⟨ret_str (by rw [e.out]; apply ByteArray.ext; simp), b1⟩

/-- the library's table of powers of ten lies in memory as its text lays it -/
def Pows (w : World) : Prop := Lib.TabIs Tryz.prog w "internal/strconv.uint64pow10" .u64 Lib.pow10Tab
theorem pows_g : Tryz.prog.globalNamed "internal/strconv.uint64pow10" = some 5 := by kernel_rfl
theorem pows_lt {w : World} (hp : Pows w) : 5 < w.heap.size := by
  have h := World.var?_cell pows_g hp 0
  rcases Nat.lt_or_ge 5 w.heap.size with h' | h'
  · exact h'
  · simp [World.cell?, Array.getElem?_eq_none h', Lib.pow10Tab] at h
theorem pows_below {w w' : World} (h : Below w.heap.size w w') (hp : Pows w) : Pows w' :=
  var?_below h pows_g (pows_lt hp) hp

theorem itoa (n : Int) (w : World) (n0 : -9223372036854775808 ≤ n) (n1 : n ≤ 9223372036854775807) (hp : Pows w) :
    Calls Tryz.prog 54 #[.int .i64 n] w fun e w' => e = .returned (.string ⟨(Lib.itoa n).toArray⟩) ∧ Below w.heap.size w w' := by
  refine (Tryz.strconv_Itoa n n0 n1 w hp).mono ?_
  rintro e w' ⟨rfl, k, os, rfl⟩
  refine ⟨rfl, ⟨rfl, rfl, rfl, by simp [Go.Sort.grow], fun i hi => ?_⟩⟩
  show ((w.drewN k).heap ++ os)[i]? = _
  rw [Array.getElem?_append_left (by show i < w.heap.size; omega)]
  rfl

theorem itoa_len (n : Int) : (Lib.itoa n).length ≤ n.natAbs + 2 := by
  unfold Lib.itoa
  split
  · have := dec_len n.natAbs
    simp; omega
  · have := dec_len n.toNat
    omega

/-- the text of a number: of its fraction, or its remainder behind a sign -/
def showL (x n d : Int) (b : Bool) : List UInt8 :=
  if b then (if d = 1 then Lib.itoa n else Lib.itoa n ++ 47 :: Lib.itoa d) else 35 :: Lib.itoa x

/-- how a call of ShowNum at the remainder x ends -/
def Shows (x : Int) (w : World) (e : Ending) (w' : World) : Prop :=
  ∃ n d b, Rec.Ans x n d b ∧ e = .returned (.string ⟨(showL x n d b).toArray⟩) ∧ Below w.heap.size w w'

theorem ans_bd {x n d : Int} {b : Bool} (h : Rec.Ans x n d b) : -32767 ≤ n ∧ n ≤ 32767 ∧ 0 ≤ d ∧ d ≤ 32767 := by
  rcases h with ⟨_, h⟩ | ⟨_, rfl, rfl, _⟩
  · obtain ⟨⟨a, b, c, d, _⟩, _⟩ := h
    omega
  · omega

set_option maxHeartbeats 400000 in
theorem specShowNum (a : Int) (w : World) (a0 : -9223372036854775808 ≤ a) (a1 : a ≤ 9223372036854775807) :
    Calls Tryz.prog 41 #[.int .i64 a] w fun e w' => Shows (a % 2147483647) w e w' := by
  have x0 : 0 ≤ a % 2147483647 := by omega
  have x1 : a % 2147483647 < 2147483647 := by omega
  have hx := itoa_len (a % 2147483647)
  go_enter Tryz.func41, Tryz.ntmps41
  go_wp2_with fail
  refine (specToFrac _ _ a0 a1).mono ?_; rintro e w1 ⟨n, d, b, rfl, r1, b1⟩
  obtain ⟨n0, n1, d0, d1⟩ := ans_bd r1
  have hn := itoa_len n
  have hd := itoa_len d
  have b2 : Below w.heap.size w (w1.alloc (.cells #[.int .i64 n, .int .i64 d] 78)) := b1.alloc b1.size _
  have s2 := b2.size
  cases b
  · have hl : 1 + (Lib.itoa (a % 2147483647)).length ≤ 9223372036854775807 := by omega
    clear hn hd hx
    go_wp2_with fail
    refine (specMod _ _ a0 a1).mono ?_; rintro e w3 ⟨rfl, rfl⟩
    go_wp2_with fail
    refine (l1Int _ _ (by omega) (by omega)).mono ?_; rintro e w4 ⟨rfl, b4⟩
    go_wp2_with fail
    go_ret
    exact ⟨n, d, false, r1, ret_str (by apply ByteArray.ext; simp [showL]), b2.trans (b4.mono s2)⟩
  · have c0 : (w1.alloc (.cells #[.int .i64 n, .int .i64 d] 78)).cell? ⟨w1.heap.size, 0, none⟩ = some (.int .i64 n) := by simp [go_sem]
    have c1 : (w1.alloc (.cells #[.int .i64 n, .int .i64 d] 78)).cell? ⟨w1.heap.size, 1, none⟩ = some (.int .i64 d) := by simp [go_sem]
    by_cases h1 : d = 1
    · have z : (d == 1) = true := beq_iff_eq.2 h1
      have hh := hide h1
      clear h1 hn hd hx
      go_wp2_with fail
      refine (l1Int _ _ (by omega) (by omega)).mono ?_; rintro e w4 ⟨rfl, b4⟩
      go_wp2_with fail
      go_ret
      exact ⟨n, d, true, r1, ret_str (by apply ByteArray.ext; simp [showL, hh.out]), b2.trans (b4.mono s2)⟩
    · have z : (d == 1) = false := beq_eq_false_iff_ne.2 h1
      have hl1 : ¬ 9223372036854775807 < (Lib.itoa n).length + 1 := by omega
      have hl2 : ¬ 9223372036854775807 < (Lib.itoa n).length + 1 + (Lib.itoa d).length := by omega
      have hh := hide h1
      clear h1 hn hd hx
      go_wp2_with fail
      generalize hW : w1.alloc (.cells #[.int .i64 n, .int .i64 d] 78) = W at *
      have k0 := cell_regrown c0
      have k1 := cell_regrown c1
      have cN : ∀ q os, Calls Tryz.prog 68 #[.int .i64 n] (Sort.grow (redrawn W q) os) fun e w'' => e = .returned (.string ⟨(Lib.itoa n).toArray⟩) ∧ ∃ p : Regrown, w'' = Sort.grow (redrawn W p.d) p.os := fun q os => Calls.regrown_of (l1Int n _ (by omega) (by omega))
      have cD : ∀ q os, Calls Tryz.prog 68 #[.int .i64 d] (Sort.grow (redrawn W q) os) fun e w'' => e = .returned (.string ⟨(Lib.itoa d).toArray⟩) ∧ ∃ p : Regrown, w'' = Sort.grow (redrawn W p.d) p.os := fun q os => Calls.regrown_of (l1Int d _ (by omega) (by omega))
      have HN := hide cN
      have HD := hide cD
      clear cN cD hW c0 c1
      refine wp_region_quiet_below (by kernel_rfl) (by kernel_rfl) ?_
      repeat (quiet_step (first | (go_at_call_of 68 (Value.int IntKind.i64 n); exact HN.out _ _) | (go_at_call_of 68 (Value.int IntKind.i64 d); exact HD.out _ _)))
      refine wpQuiet_nil ?_
      intro _ hw'
      obtain ⟨⟨dq, osq⟩, hw''⟩ := hw'
      subst hw''
      go_wp2_with fail
      go_ret
      exact ⟨n, d, true, r1, ret_str (by apply ByteArray.ext; simp [showL, hh.out]), b2.trans ((below_regrown W dq osq).mono s2)⟩

set_option maxHeartbeats 400000 in
theorem implShowNum (a : Int) (w : World) (a0 : -9223372036854775808 ≤ a) (a1 : a ≤ 9223372036854775807) (hp : Pows w) :
    Calls Tryz.prog 30 #[.int .i64 a] w fun e w' => Shows (a % 2147483647) w e w' := by
  have x0 : 0 ≤ a % 2147483647 := by omega
  have x1 : a % 2147483647 < 2147483647 := by omega
  have hx := itoa_len (a % 2147483647)
  go_enter Tryz.func30, Tryz.ntmps30
  go_wp2_with fail
  refine (implToFrac _ _ a0 a1).mono ?_; rintro e w1 ⟨n, d, b, rfl, r1, b1⟩
  obtain ⟨n0, n1, d0, d1⟩ := ans_bd r1
  have hn := itoa_len n
  have hd := itoa_len d
  have b2 : Below w.heap.size w (w1.alloc (.cells #[.int .i64 n, .int .i64 d] 78)) := b1.alloc b1.size _
  have s2 := b2.size
  have hp2 := hide (pows_below b2 hp)
  cases b
  · have hl : 1 + (Lib.itoa (a % 2147483647)).length ≤ 9223372036854775807 := by omega
    clear hn hd hx
    go_wp2_with fail
    refine (implMod _ _ a0 a1).mono ?_; rintro e w3 ⟨rfl, rfl⟩
    go_wp2_with fail
    refine (itoa _ _ (by omega) (by omega) hp2.out).mono ?_; rintro e w4 ⟨rfl, b4⟩
    go_wp2_with fail
    go_ret
    exact ⟨n, d, false, r1, ret_str (by apply ByteArray.ext; simp [showL]), b2.trans (b4.mono s2)⟩
  · have c0 : (w1.alloc (.cells #[.int .i64 n, .int .i64 d] 78)).cell? ⟨w1.heap.size, 0, none⟩ = some (.int .i64 n) := by simp [go_sem]
    have c1 : (w1.alloc (.cells #[.int .i64 n, .int .i64 d] 78)).cell? ⟨w1.heap.size, 1, none⟩ = some (.int .i64 d) := by simp [go_sem]
    by_cases h1 : d = 1
    · have z : (d == 1) = true := beq_iff_eq.2 h1
      have hh := hide h1
      clear h1 hn hd hx
      go_wp2_with fail
      refine (itoa _ _ (by omega) (by omega) hp2.out).mono ?_; rintro e w4 ⟨rfl, b4⟩
      go_wp2_with fail
      go_ret
      exact ⟨n, d, true, r1, ret_str (by apply ByteArray.ext; simp [showL, hh.out]), b2.trans (b4.mono s2)⟩
    · have z : (d == 1) = false := beq_eq_false_iff_ne.2 h1
      have hl1 : ¬ 9223372036854775807 < (Lib.itoa n).length + 1 := by omega
      have hl2 : ¬ 9223372036854775807 < (Lib.itoa n).length + 1 + (Lib.itoa d).length := by omega
      have hh := hide h1
      clear h1 hn hd hx
      go_wp2_with fail
      generalize hW : w1.alloc (.cells #[.int .i64 n, .int .i64 d] 78) = W at *
      have k0 := cell_regrown c0
      have k1 := cell_regrown c1
      have cN : ∀ q os, Calls Tryz.prog 54 #[.int .i64 n] (Sort.grow (redrawn W q) os) fun e w'' => e = .returned (.string ⟨(Lib.itoa n).toArray⟩) ∧ ∃ p : Regrown, w'' = Sort.grow (redrawn W p.d) p.os := fun q os => Calls.regrown_of (itoa n _ (by omega) (by omega) (pows_below (below_regrown W q os) hp2.out))
      have cD : ∀ q os, Calls Tryz.prog 54 #[.int .i64 d] (Sort.grow (redrawn W q) os) fun e w'' => e = .returned (.string ⟨(Lib.itoa d).toArray⟩) ∧ ∃ p : Regrown, w'' = Sort.grow (redrawn W p.d) p.os := fun q os => Calls.regrown_of (itoa d _ (by omega) (by omega) (pows_below (below_regrown W q os) hp2.out))
      have HN := hide cN
      have HD := hide cD
      clear cN cD hW c0 c1
      refine wp_region_quiet_below (by kernel_rfl) (by kernel_rfl) ?_
      repeat (quiet_step (first | (go_at_call_of 54 (Value.int IntKind.i64 n); exact HN.out _ _) | (go_at_call_of 54 (Value.int IntKind.i64 d); exact HD.out _ _)))
      refine wpQuiet_nil ?_
      intro _ hw'
      obtain ⟨⟨dq, osq⟩, hw''⟩ := hw'
      subst hw''
      go_wp2_with fail
      go_ret
      exact ⟨n, d, true, r1, ret_str (by apply ByteArray.ext; simp [showL, hh.out]), b2.trans ((below_regrown W dq osq).mono s2)⟩

end Base
end Go.Proofs.YtbbmbgjjhaajjaaGreatDoor
