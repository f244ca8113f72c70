/- States of a rule that can be, on both sides (written by tools/gen15c.py). -/
import Derived.Test.YtajljeegkmkkcaaEk
import Derived.Test.YtajljeegkmkkcaaEa
namespace Go.Proofs.Ytajljeegkmkkcaa
namespace Vo
open Go.ChangeShapes Go.WideShapes Go.ChangeAt Go.RowKit Go.Joins Go.Sort
open Vl
set_option linter.unusedVariables false
set_option linter.unusedSimpArgs false
/-- six cells in a variable -/
def BoxV6 (w : World) (p : Nat) (x0 x1 x2 x3 x4 x5 : Value) : Prop := p < w.heap.size ∧ w.cell? ⟨p, 0, none⟩ = some x0 ∧ w.cell? ⟨p, 1, none⟩ = some x1 ∧ w.cell? ⟨p, 2, none⟩ = some x2 ∧ w.cell? ⟨p, 3, none⟩ = some x3 ∧ w.cell? ⟨p, 4, none⟩ = some x4 ∧ w.cell? ⟨p, 5, none⟩ = some x5
theorem boxV6_new (w : World) (x0 x1 x2 x3 x4 x5 : Value) (ty : TypeId) : BoxV6 (w.alloc (.cells #[x0, x1, x2, x3, x4, x5] ty)) w.heap.size x0 x1 x2 x3 x4 x5 := ⟨by simp, by simp [go_sem], by simp [go_sem], by simp [go_sem], by simp [go_sem], by simp [go_sem], by simp [go_sem]⟩
theorem BoxV6.below {w w' : World} {p : Nat} {x0 x1 x2 x3 x4 x5 : Value} (h : BoxV6 w p x0 x1 x2 x3 x4 x5) (b : Below w.heap.size w w') : BoxV6 w' p x0 x1 x2 x3 x4 x5 := by
  obtain ⟨hp, h0, h1, h2, h3, h4, h5⟩ := h
  exact ⟨Nat.lt_of_lt_of_le hp b.size, by rw [b.cell (p := ⟨p, 0, none⟩) hp]; exact h0, by rw [b.cell (p := ⟨p, 1, none⟩) hp]; exact h1, by rw [b.cell (p := ⟨p, 2, none⟩) hp]; exact h2, by rw [b.cell (p := ⟨p, 3, none⟩) hp]; exact h3, by rw [b.cell (p := ⟨p, 4, none⟩) hp]; exact h4, by rw [b.cell (p := ⟨p, 5, none⟩) hp]; exact h5⟩
theorem gInE (x l m : Int) (b : Bool) (hb : decide (l ≤ x ∧ x ≤ m) = b) (w : World) :
    Calls Try.prog 40 #[.int .i64 x, .int .i64 l, .int .i64 m] w fun e w' => e = .returned (.bool b) ∧ w' = w := by
  rw [← hb]; exact inS x l m w
/-- what a state's numbers may be -/
def OIn (r : Nat) (P Q S : Nat → Int) : Prop := ∀ j, j < r → (-68719476736 ≤ P j ∧ P j ≤ 68719476736) ∧ (-4294967296 ≤ Q j ∧ Q j ≤ 4294967296) ∧ (0 ≤ S j ∧ S j ≤ 17179869184)
def OOk (r q s : Nat) (P Q S : Nat → Int) (n f o : Int) : Prop := (r : Int) ≤ 4096 ∧ q = r ∧ s = r ∧ (0 ≤ n ∧ n ≤ 1000000) ∧ (0 ≤ o ∧ o ≤ 1000000) ∧ OIn r P Q S ∧ fac f = true
noncomputable instance (r q s : Nat) (P Q S : Nat → Int) (n f o : Int) : Decidable (OOk r q s P Q S n f o) := Classical.propDecidable _
noncomputable def ook (r q s : Nat) (P Q S : Nat → Int) (n f o : Int) : Bool := decide (OOk r q s P Q S n f o)
theorem pw_pow (k : Nat) (h : k ≤ 16) : fac ((2 : Int) ^ k) = true := by
  have : ∀ k : Fin 17, fac ((2 : Int) ^ k.val) = true := by decide +kernel
  exact this ⟨k, by omega⟩
theorem pow_pw {f : Int} (h : fac f = true) : ∃ k : Nat, k ≤ 16 ∧ f = 2 ^ k := by
  unfold fac at h
  rw [Bool.and_eq_true] at h
  obtain ⟨h1, h2⟩ := h
  obtain ⟨f0, f1⟩ := of_decide_eq_true h1
  obtain ⟨n, rfl⟩ := Int.eq_ofNat_of_zero_le (show 0 ≤ f by omega)
  rw [Int.toNat_natCast] at h2
  unfold pwN at h2
  simp only [Bool.or_eq_true] at h2
  have c : ∀ (m : Nat), Nat.beq n m = true → n = m := fun m q => Nat.eq_of_beq_eq_true q
  rcases h2 with h2 | h2
  · rcases h2 with h2 | h2
    · rcases h2 with h2 | h2
      · rcases h2 with h2 | h2
        · rcases h2 with h2 | h2
          · rcases h2 with h2 | h2
            · rcases h2 with h2 | h2
              · rcases h2 with h2 | h2
                · rcases h2 with h2 | h2
                  · rcases h2 with h2 | h2
                    · rcases h2 with h2 | h2
                      · rcases h2 with h2 | h2
                        · rcases h2 with h2 | h2
                          · rcases h2 with h2 | h2
                            · rcases h2 with h2 | h2
                              · rcases h2 with h2 | h2
                                · exact ⟨0, by omega, by rw [c _ h2]; rfl⟩
                                · exact ⟨1, by omega, by rw [c _ h2]; rfl⟩
                              · exact ⟨2, by omega, by rw [c _ h2]; rfl⟩
                            · exact ⟨3, by omega, by rw [c _ h2]; rfl⟩
                          · exact ⟨4, by omega, by rw [c _ h2]; rfl⟩
                        · exact ⟨5, by omega, by rw [c _ h2]; rfl⟩
                      · exact ⟨6, by omega, by rw [c _ h2]; rfl⟩
                    · exact ⟨7, by omega, by rw [c _ h2]; rfl⟩
                  · exact ⟨8, by omega, by rw [c _ h2]; rfl⟩
                · exact ⟨9, by omega, by rw [c _ h2]; rfl⟩
              · exact ⟨10, by omega, by rw [c _ h2]; rfl⟩
            · exact ⟨11, by omega, by rw [c _ h2]; rfl⟩
          · exact ⟨12, by omega, by rw [c _ h2]; rfl⟩
        · exact ⟨13, by omega, by rw [c _ h2]; rfl⟩
      · exact ⟨14, by omega, by rw [c _ h2]; rfl⟩
    · exact ⟨15, by omega, by rw [c _ h2]; rfl⟩
  · exact ⟨16, by omega, by rw [c _ h2]; rfl⟩
theorem pow17 (k : Nat) (h : k ≤ 17) : (1 : Int) ≤ 2 ^ k ∧ (2 : Int) ^ k ≤ 131072 ∧ ((2 : Int) ^ k ≤ 65536 ↔ k ≤ 16) := by
  have : ∀ k : Fin 18, (1 : Int) ≤ 2 ^ k.val ∧ (2 : Int) ^ k.val ≤ 131072 ∧ ((2 : Int) ^ k.val ≤ 65536 ↔ k.val ≤ 16) := by decide +kernel
  exact this ⟨k, by omega⟩
set_option maxHeartbeats 1000000 in
theorem sOpt_len1 (a b c : Option Addr) (r q s cap dap eap : Nat) (P Q S : Nat → Int) (n f o : Int) (w : World) (hP : Ints w.heap.size w a r P) (hQ : Ints w.heap.size w b q Q) (hS : Ints w.heap.size w c s S) (hr : (r : Int) ≤ 1048576) (hn : bd n) (hf : bd f) (ho : bd o) (g : ¬ (r : Int) ≤ 4096) :
    Calls Try.prog 24 #[.agg #[.slice a r cap, .slice b q dap, .slice c s eap, .int .i64 n, .int .i64 f, .int .i64 o]] w fun e w' => e = .returned (.bool false) ∧ Below w.heap.size w w' := by
  clear hP hQ hS hn hf ho hr
  have g1 : (4096 : Int) < (r : Int) := by omega
  have g2 : 4096 < r := by omega
  clear g
  obtain ⟨WA, hWA⟩ : ∃ WA, w.alloc (.cells #[.slice a r cap, .slice b q dap, .slice c s eap, .int .i64 n, .int .i64 f, .int .i64 o] 30) = WA := ⟨_, rfl⟩
  have nWA : Below w.heap.size w WA := hWA ▸ (Below.refl _ _).alloc (Nat.le_refl _) _
  have mWA : BoxV6 WA w.heap.size (.slice a r cap) (.slice b q dap) (.slice c s eap) (.int .i64 n) (.int .i64 f) (.int .i64 o) := hWA ▸ boxV6_new _ _ _ _ _ _ _ _
  have BL := hide nWA
  have KA := hide mWA
  clear nWA mWA
  obtain ⟨-, cA0, cA1, cA2, cA3, cA4, cA5⟩ := KA.out
  go_enter Try.func24, Try.ntmps24
  go_wp2_with fail
  go_ret
  exact ⟨rfl, BL.out⟩
set_option maxHeartbeats 1000000 in
theorem sOpt_len2 (a b c : Option Addr) (r q s cap dap eap : Nat) (P Q S : Nat → Int) (n f o : Int) (w : World) (hP : Ints w.heap.size w a r P) (hQ : Ints w.heap.size w b q Q) (hS : Ints w.heap.size w c s S) (hr : (r : Int) ≤ 1048576) (hn : bd n) (hf : bd f) (ho : bd o) (r4 : (r : Int) ≤ 4096) (g : ¬ q = r) :
    Calls Try.prog 24 #[.agg #[.slice a r cap, .slice b q dap, .slice c s eap, .int .i64 n, .int .i64 f, .int .i64 o]] w fun e w' => e = .returned (.bool false) ∧ Below w.heap.size w w' := by
  clear hP hQ hS hn hf ho hr
  have g0 : decide ((4096 : Int) < (r : Int)) = false := decide_eq_false (by omega)
  have gN : decide (4096 < r) = false := decide_eq_false (by omega)
  have g1 : ¬ (q : Int) = (r : Int) := by omega
  clear r4
  obtain ⟨WA, hWA⟩ : ∃ WA, w.alloc (.cells #[.slice a r cap, .slice b q dap, .slice c s eap, .int .i64 n, .int .i64 f, .int .i64 o] 30) = WA := ⟨_, rfl⟩
  have nWA : Below w.heap.size w WA := hWA ▸ (Below.refl _ _).alloc (Nat.le_refl _) _
  have mWA : BoxV6 WA w.heap.size (.slice a r cap) (.slice b q dap) (.slice c s eap) (.int .i64 n) (.int .i64 f) (.int .i64 o) := hWA ▸ boxV6_new _ _ _ _ _ _ _ _
  have BL := hide nWA
  have KA := hide mWA
  clear nWA mWA
  obtain ⟨-, cA0, cA1, cA2, cA3, cA4, cA5⟩ := KA.out
  go_enter Try.func24, Try.ntmps24
  go_wp2_with fail
  go_ret
  exact ⟨rfl, BL.out⟩
set_option maxHeartbeats 1000000 in
theorem sOpt_len3 (a b c : Option Addr) (r s cap dap eap : Nat) (P Q S : Nat → Int) (n f o : Int) (w : World) (hP : Ints w.heap.size w a r P) (hQ : Ints w.heap.size w b r Q) (hS : Ints w.heap.size w c s S) (hr : (r : Int) ≤ 1048576) (hn : bd n) (hf : bd f) (ho : bd o) (r4 : (r : Int) ≤ 4096) (g : ¬ s = r) :
    Calls Try.prog 24 #[.agg #[.slice a r cap, .slice b r dap, .slice c s eap, .int .i64 n, .int .i64 f, .int .i64 o]] w fun e w' => e = .returned (.bool false) ∧ Below w.heap.size w w' := by
  clear hP hQ hS hn hf ho hr
  have g0 : decide ((4096 : Int) < (r : Int)) = false := decide_eq_false (by omega)
  have gN : decide (4096 < r) = false := decide_eq_false (by omega)
  have g1 : ¬ (s : Int) = (r : Int) := by omega
  clear r4
  obtain ⟨WA, hWA⟩ : ∃ WA, w.alloc (.cells #[.slice a r cap, .slice b r dap, .slice c s eap, .int .i64 n, .int .i64 f, .int .i64 o] 30) = WA := ⟨_, rfl⟩
  have nWA : Below w.heap.size w WA := hWA ▸ (Below.refl _ _).alloc (Nat.le_refl _) _
  have mWA : BoxV6 WA w.heap.size (.slice a r cap) (.slice b r dap) (.slice c s eap) (.int .i64 n) (.int .i64 f) (.int .i64 o) := hWA ▸ boxV6_new _ _ _ _ _ _ _ _
  have BL := hide nWA
  have KA := hide mWA
  clear nWA mWA
  obtain ⟨-, cA0, cA1, cA2, cA3, cA4, cA5⟩ := KA.out
  go_enter Try.func24, Try.ntmps24
  go_wp2_with fail
  go_ret
  exact ⟨rfl, BL.out⟩
set_option maxHeartbeats 1000000 in
theorem sOpt_no1 (a b c : Option Addr) (r cap dap eap : Nat) (P Q S : Nat → Int) (n f o : Int) (w : World) (hP : Ints w.heap.size w a r P) (hQ : Ints w.heap.size w b r Q) (hS : Ints w.heap.size w c r S) (hr : (r : Int) ≤ 1048576) (hn : bd n) (hf : bd f) (ho : bd o) (r4 : (r : Int) ≤ 4096)  (g1 : decide (0 ≤ n ∧ n ≤ 1000000) = false) :
    Calls Try.prog 24 #[.agg #[.slice a r cap, .slice b r dap, .slice c r eap, .int .i64 n, .int .i64 f, .int .i64 o]] w fun e w' => e = .returned (.bool false) ∧ Below w.heap.size w w' := by
  have HP := hide hP
  have HQ := hide hQ
  have HS := hide hS
  have Hn := hide hn
  have Hf := hide hf
  have Ho := hide ho
  clear hP hQ hS hn hf ho
  have g0 : decide ((4096 : Int) < (r : Int)) = false := decide_eq_false (by omega)
  have gN : decide (4096 < r) = false := decide_eq_false (by omega)
  have G1 := hide g1
  clear g1
  obtain ⟨WA, hWA⟩ : ∃ WA, w.alloc (.cells #[.slice a r cap, .slice b r dap, .slice c r eap, .int .i64 n, .int .i64 f, .int .i64 o] 30) = WA := ⟨_, rfl⟩
  have nWA : Below w.heap.size w WA := hWA ▸ (Below.refl _ _).alloc (Nat.le_refl _) _
  have mWA : BoxV6 WA w.heap.size (.slice a r cap) (.slice b r dap) (.slice c r eap) (.int .i64 n) (.int .i64 f) (.int .i64 o) := hWA ▸ boxV6_new _ _ _ _ _ _ _ _
  have BL := hide nWA
  have KA := hide mWA
  clear nWA mWA
  obtain ⟨-, cA0, cA1, cA2, cA3, cA4, cA5⟩ := KA.out
  go_enter Try.func24, Try.ntmps24
  go_wp2_with fail
  refine (gInS n 0 1000000 false G1.out _).mono ?_
  rintro e1 w1 ⟨rfl, q1⟩
  replace KA := hide (KA.out.below q1)
  clear cA0 cA1 cA2 cA3 cA4 cA5
  obtain ⟨-, cA0, cA1, cA2, cA3, cA4, cA5⟩ := KA.out
  replace BL := hide (BL.out.trans (q1.mono BL.out.size))
  clear q1
  go_wp2_with fail
  go_ret
  exact ⟨rfl, BL.out⟩
set_option maxHeartbeats 1000000 in
theorem sOpt_no2 (a b c : Option Addr) (r cap dap eap : Nat) (P Q S : Nat → Int) (n f o : Int) (w : World) (hP : Ints w.heap.size w a r P) (hQ : Ints w.heap.size w b r Q) (hS : Ints w.heap.size w c r S) (hr : (r : Int) ≤ 1048576) (hn : bd n) (hf : bd f) (ho : bd o) (r4 : (r : Int) ≤ 4096)  (g1 : decide (0 ≤ n ∧ n ≤ 1000000) = true) (g2 : decide (0 ≤ o ∧ o ≤ 1000000) = false) :
    Calls Try.prog 24 #[.agg #[.slice a r cap, .slice b r dap, .slice c r eap, .int .i64 n, .int .i64 f, .int .i64 o]] w fun e w' => e = .returned (.bool false) ∧ Below w.heap.size w w' := by
  have HP := hide hP
  have HQ := hide hQ
  have HS := hide hS
  have Hn := hide hn
  have Hf := hide hf
  have Ho := hide ho
  clear hP hQ hS hn hf ho
  have g0 : decide ((4096 : Int) < (r : Int)) = false := decide_eq_false (by omega)
  have gN : decide (4096 < r) = false := decide_eq_false (by omega)
  have G1 := hide g1
  have G2 := hide g2
  clear g1 g2
  obtain ⟨WA, hWA⟩ : ∃ WA, w.alloc (.cells #[.slice a r cap, .slice b r dap, .slice c r eap, .int .i64 n, .int .i64 f, .int .i64 o] 30) = WA := ⟨_, rfl⟩
  have nWA : Below w.heap.size w WA := hWA ▸ (Below.refl _ _).alloc (Nat.le_refl _) _
  have mWA : BoxV6 WA w.heap.size (.slice a r cap) (.slice b r dap) (.slice c r eap) (.int .i64 n) (.int .i64 f) (.int .i64 o) := hWA ▸ boxV6_new _ _ _ _ _ _ _ _
  have BL := hide nWA
  have KA := hide mWA
  clear nWA mWA
  obtain ⟨-, cA0, cA1, cA2, cA3, cA4, cA5⟩ := KA.out
  go_enter Try.func24, Try.ntmps24
  go_wp2_with fail
  refine (gInS n 0 1000000 true G1.out _).mono ?_
  rintro e1 w1 ⟨rfl, q1⟩
  replace KA := hide (KA.out.below q1)
  clear cA0 cA1 cA2 cA3 cA4 cA5
  obtain ⟨-, cA0, cA1, cA2, cA3, cA4, cA5⟩ := KA.out
  replace BL := hide (BL.out.trans (q1.mono BL.out.size))
  clear q1
  go_wp2_with fail
  refine (gInS o 0 1000000 false G2.out _).mono ?_
  rintro e1 w2 ⟨rfl, q2⟩
  replace KA := hide (KA.out.below q2)
  clear cA0 cA1 cA2 cA3 cA4 cA5
  obtain ⟨-, cA0, cA1, cA2, cA3, cA4, cA5⟩ := KA.out
  replace BL := hide (BL.out.trans (q2.mono BL.out.size))
  clear q2
  go_wp2_with fail
  go_ret
  exact ⟨rfl, BL.out⟩
set_option maxHeartbeats 1000000 in
theorem sOpt_yes (a b c : Option Addr) (r cap dap eap : Nat) (P Q S : Nat → Int) (n f o : Int) (w : World) (hP : Ints w.heap.size w a r P) (hQ : Ints w.heap.size w b r Q) (hS : Ints w.heap.size w c r S) (hr : (r : Int) ≤ 1048576) (hn : bd n) (hf : bd f) (ho : bd o) (r4 : (r : Int) ≤ 4096)  (g1 : decide (0 ≤ n ∧ n ≤ 1000000) = true) (g2 : decide (0 ≤ o ∧ o ≤ 1000000) = true) :
    Calls Try.prog 24 #[.agg #[.slice a r cap, .slice b r dap, .slice c r eap, .int .i64 n, .int .i64 f, .int .i64 o]] w fun e w' => e = .returned (.bool (ook r r r P Q S n f o)) ∧ Below w.heap.size w w' := by
  have R4 := hide r4
  have HP := hide hP
  have HQ := hide hQ
  have HS := hide hS
  have Hn := hide hn
  have Hf := hide hf
  have Ho := hide ho
  clear hP hQ hS hn hf ho
  have g0 : decide ((4096 : Int) < (r : Int)) = false := decide_eq_false (by omega)
  have gN : decide (4096 < r) = false := decide_eq_false (by omega)
  have G1 := hide g1
  have G2 := hide g2
  clear g1 g2
  obtain ⟨WA, hWA⟩ : ∃ WA, w.alloc (.cells #[.slice a r cap, .slice b r dap, .slice c r eap, .int .i64 n, .int .i64 f, .int .i64 o] 30) = WA := ⟨_, rfl⟩
  have nWA : Below w.heap.size w WA := hWA ▸ (Below.refl _ _).alloc (Nat.le_refl _) _
  have mWA : BoxV6 WA w.heap.size (.slice a r cap) (.slice b r dap) (.slice c r eap) (.int .i64 n) (.int .i64 f) (.int .i64 o) := hWA ▸ boxV6_new _ _ _ _ _ _ _ _
  have BL := hide nWA
  have KA := hide mWA
  clear nWA mWA
  obtain ⟨-, cA0, cA1, cA2, cA3, cA4, cA5⟩ := KA.out
  go_enter Try.func24, Try.ntmps24
  go_wp2_with fail
  refine (gInS n 0 1000000 true G1.out _).mono ?_
  rintro e1 w1 ⟨rfl, q1⟩
  replace KA := hide (KA.out.below q1)
  clear cA0 cA1 cA2 cA3 cA4 cA5
  obtain ⟨-, cA0, cA1, cA2, cA3, cA4, cA5⟩ := KA.out
  replace BL := hide (BL.out.trans (q1.mono BL.out.size))
  clear q1
  go_wp2_with fail
  refine (gInS o 0 1000000 true G2.out _).mono ?_
  rintro e1 w2 ⟨rfl, q2⟩
  replace KA := hide (KA.out.below q2)
  clear cA0 cA1 cA2 cA3 cA4 cA5
  obtain ⟨-, cA0, cA1, cA2, cA3, cA4, cA5⟩ := KA.out
  replace BL := hide (BL.out.trans (q2.mono BL.out.size))
  clear q2
  have BW := BL
  clear BL
  go_wp2_with fail
  go_loopw [3] (fun i wx => ∃ k : Nat, k ≤ r ∧ i = .int .i64 k ∧ OIn k P Q S ∧ wx = w2) (fun i _ => r - (intOf i).toNat)
  case atStart => exact ⟨0, Nat.zero_le _, rfl, fun j hj => by omega, rfl⟩
  case round =>
    obtain ⟨k, hk, rfl, hall, hw2⟩ := hrel
    have hw2 := hw2.symm
    subst hw2
    have HA := hide hall
    clear hall
    by_cases hlt : k < r
    · have kI : (k : Int) < (r : Int) := by omega
      obtain hz | ⟨b1, o1, rfl, -, hc1⟩ := HP.out.below BW.out
      · omega
      obtain hz | ⟨b2, o2, rfl, -, hc2⟩ := HQ.out.below BW.out
      · omega
      obtain hz | ⟨b3, o3, rfl, -, hc3⟩ := HS.out.below BW.out
      · omega
      have c1 := (hc1 k hlt).1
      have c2 := (hc2 k hlt).1
      have c3 := (hc3 k hlt).1
      clear hc1 hc2 hc3
      cases q1 : decide (-68719476736 ≤ P k ∧ P k ≤ 68719476736)
      · have E := hide (show ook r r r P Q S n f o = false from decide_eq_false (fun h => of_decide_eq_false q1 (h.2.2.2.2.2.1 k hlt).1))
        have C1 := hide (fun w => gInE (P k) (-68719476736) 68719476736 false q1 w)
        clear q1
        go_wp2_with fail
        refine (C1.out _).mono ?_
        rintro e1 w3 ⟨rfl, hq⟩; have hq := hq.symm; subst hq
        go_wp2_with fail
        go_ret
        exact ⟨ret_bool E.out.symm, BW.out⟩
      cases q2 : decide (-4294967296 ≤ Q k ∧ Q k ≤ 4294967296)
      · have E := hide (show ook r r r P Q S n f o = false from decide_eq_false (fun h => of_decide_eq_false q2 (h.2.2.2.2.2.1 k hlt).2.1))
        have C1 := hide (fun w => gInE (P k) (-68719476736) 68719476736 true q1 w)
        have C2 := hide (fun w => gInE (Q k) (-4294967296) 4294967296 false q2 w)
        clear q1 q2
        go_wp2_with fail
        refine (C1.out _).mono ?_
        rintro e1 w3 ⟨rfl, hq⟩; have hq := hq.symm; subst hq
        go_wp2_with fail
        refine (C2.out _).mono ?_
        rintro e1 w3 ⟨rfl, hq⟩; have hq := hq.symm; subst hq
        go_wp2_with fail
        go_ret
        exact ⟨ret_bool E.out.symm, BW.out⟩
      cases q3 : decide (0 ≤ S k ∧ S k ≤ 17179869184)
      · have E := hide (show ook r r r P Q S n f o = false from decide_eq_false (fun h => of_decide_eq_false q3 (h.2.2.2.2.2.1 k hlt).2.2))
        have C1 := hide (fun w => gInE (P k) (-68719476736) 68719476736 true q1 w)
        have C2 := hide (fun w => gInE (Q k) (-4294967296) 4294967296 true q2 w)
        have C3 := hide (fun w => gInE (S k) 0 17179869184 false q3 w)
        clear q1 q2 q3
        go_wp2_with fail
        refine (C1.out _).mono ?_
        rintro e1 w3 ⟨rfl, hq⟩; have hq := hq.symm; subst hq
        go_wp2_with fail
        refine (C2.out _).mono ?_
        rintro e1 w3 ⟨rfl, hq⟩; have hq := hq.symm; subst hq
        go_wp2_with fail
        refine (C3.out _).mono ?_
        rintro e1 w3 ⟨rfl, hq⟩; have hq := hq.symm; subst hq
        go_wp2_with fail
        go_ret
        exact ⟨ret_bool E.out.symm, BW.out⟩
      have C1 := hide (fun w => gInE (P k) (-68719476736) 68719476736 true q1 w)
      have C2 := hide (fun w => gInE (Q k) (-4294967296) 4294967296 true q2 w)
      have C3 := hide (fun w => gInE (S k) 0 17179869184 true q3 w)
      have NX := hide (show OIn (k + 1) P Q S from fun j hj => by
        by_cases ej : j = k
        · subst ej; exact ⟨of_decide_eq_true q1, of_decide_eq_true q2, of_decide_eq_true q3⟩
        · exact HA.out j (by omega))
      clear q1 q2 q3
      go_wp2_with fail
      refine (C1.out _).mono ?_
      rintro e1 w3 ⟨rfl, hq⟩; have hq := hq.symm; subst hq
      go_wp2_with fail
      refine (C2.out _).mono ?_
      rintro e1 w3 ⟨rfl, hq⟩; have hq := hq.symm; subst hq
      go_wp2_with fail
      refine (C3.out _).mono ?_
      rintro e1 w3 ⟨rfl, hq⟩; have hq := hq.symm; subst hq
      go_wp2_with fail
      go_roundw
      case rel => exact ⟨k + 1, by omega, by go_num, NX.out, trivial⟩
      case measure => simp [intOf]; omega
    · obtain rfl : k = r := by omega
      have lk : decide ((k : Int) < (k : Int)) = false := decide_eq_false (by omega)
      have VAL := hide (show ook k k k P Q S n f o = fac f by
        cases e : fac f
        · exact decide_eq_false (fun h => by have := h.2.2.2.2.2.2; rw [e] at this; exact absurd this Bool.false_ne_true)
        · exact decide_eq_true ⟨R4.out, rfl, rfl, of_decide_eq_true G1.out, of_decide_eq_true G2.out, HA.out, e⟩)
      clear HA hlt
      go_wp2_with fail
      go_loopw [4] (fun i wx => ∃ m : Nat, m ≤ 17 ∧ i = .int .i64 (2 ^ m) ∧ (∀ j, j < m → ¬ f = 2 ^ j) ∧ wx = w2) (fun i _ => (131072 - intOf i).toNat)
      case atStart => exact ⟨0, by omega, rfl, fun j hj => by omega, rfl⟩
      case round =>
        obtain ⟨m, hm, rfl, hall, hw2⟩ := hrel
        have hw2 := hw2.symm
        subst hw2
        obtain ⟨p1, p2, p3⟩ := pow17 m hm
        have NX : Hid ((2 : Int) ^ (m + 1) = 2 ^ m * 2) := hide (Int.pow_succ _ _)
        have NO := hide (fun (c : ¬ m ≤ 16) => show fac f = false from by
          cases e : fac f
          · rfl
          · obtain ⟨j, hj, ej⟩ := pow_pw e
            exact absurd ej (hall j (by omega)))
        have YES := hide (fun (c : m ≤ 16) (e : f = 2 ^ m) => show fac f = true from e ▸ pw_pow m c)
        have HA := hide hall
        clear hall
        obtain ⟨y, hy⟩ : ∃ y : Int, 2 ^ m = y := ⟨_, rfl⟩
        rw [hy] at p1 p2 p3 NX YES ⊢
        by_cases cm : m ≤ 16
        · have p4 : y ≤ 65536 := p3.2 cm
          clear p3
          by_cases ef : y = f
          · have E := hide (show ook k k k P Q S n f o = true by rw [VAL.out]; exact YES.out cm ef.symm)
            have ef' : (y == f) = true := beq_iff_eq.2 ef
            clear ef
            go_wp2_with fail
            go_ret
            exact ⟨ret_bool E.out.symm, BW.out⟩
          · have ef' : (y == f) = false := beq_eq_false_iff_ne.2 ef
            have R := hide (show ∀ j, j < m + 1 → ¬ f = 2 ^ j from fun j hj => by
              by_cases ej : j = m
              · subst ej; rw [hy]; exact fun h => ef h.symm
              · exact HA.out j (by omega))
            clear ef hy
            go_wp2_with fail
            go_roundw
            case rel => exact ⟨m + 1, by omega, by rw [NX.out], R.out, trivial⟩
            case measure => simp only [intOf]; omega
        · have p4 : decide (y ≤ 65536) = false := decide_eq_false (fun h => cm (p3.1 h))
          have E := hide (show ook k k k P Q S n f o = false by rw [VAL.out]; exact NO.out cm)
          clear p3 hy
          go_wp2_with fail
          go_ret
          exact ⟨ret_bool E.out.symm, BW.out⟩
theorem specOpt (a b c : Option Addr) (r q s cap dap eap : Nat) (P Q S : Nat → Int) (n f o : Int) (w : World) (hP : Ints w.heap.size w a r P) (hQ : Ints w.heap.size w b q Q) (hS : Ints w.heap.size w c s S) (hr : (r : Int) ≤ 1048576) (hn : bd n) (hf : bd f) (ho : bd o) (hq : (q : Int) ≤ 1048576) (hs : (s : Int) ≤ 1048576) :
    Calls Try.prog 24 #[.agg #[.slice a r cap, .slice b q dap, .slice c s eap, .int .i64 n, .int .i64 f, .int .i64 o]] w fun e w' => e = .returned (.bool (ook r q s P Q S n f o)) ∧ Below w.heap.size w w' := by
  by_cases l1 : ¬ (r : Int) ≤ 4096
  · rw [show ook r q s P Q S n f o = false from decide_eq_false (fun h => l1 h.1)]
    exact sOpt_len1 a b c r q s cap dap eap P Q S n f o w hP hQ hS hr hn hf ho l1
  replace l1 := Decidable.of_not_not l1
  by_cases l2 : ¬ q = r
  · rw [show ook r q s P Q S n f o = false from decide_eq_false (fun h => l2 h.2.1)]
    exact sOpt_len2 a b c r q s cap dap eap P Q S n f o w hP hQ hS hr hn hf ho l1 l2
  replace l2 := Decidable.of_not_not l2
  subst l2
  by_cases l3 : ¬ s = q
  · rw [show ook q q s P Q S n f o = false from decide_eq_false (fun h => l3 h.2.2.1)]
    exact sOpt_len3 a b c q s cap dap eap P Q S n f o w hP hQ hS hr hn hf ho l1 l3
  replace l3 := Decidable.of_not_not l3
  subst l3
  cases g1 : decide (0 ≤ n ∧ n ≤ 1000000)
  · rw [show ook s s s P Q S n f o = false from decide_eq_false (fun h => of_decide_eq_false g1 h.2.2.2.1)]
    exact sOpt_no1 a b c s cap dap eap P Q S n f o w hP hQ hS hr hn hf ho l1 g1
  cases g2 : decide (0 ≤ o ∧ o ≤ 1000000)
  · rw [show ook s s s P Q S n f o = false from decide_eq_false (fun h => of_decide_eq_false g2 h.2.2.2.2.1)]
    exact sOpt_no2 a b c s cap dap eap P Q S n f o w hP hQ hS hr hn hf ho l1 g1 g2
  exact sOpt_yes a b c s cap dap eap P Q S n f o w hP hQ hS hr hn hf ho l1 g1 g2
set_option maxHeartbeats 1000000 in
theorem iOpt_len1 (a b c : Option Addr) (r q s cap dap eap : Nat) (P Q S : Nat → Int) (n f o : Int) (w : World) (hP : Ints w.heap.size w a r P) (hQ : Ints w.heap.size w b q Q) (hS : Ints w.heap.size w c s S) (hr : (r : Int) ≤ 1048576) (hn : bd n) (hf : bd f) (ho : bd o) (g : ¬ (r : Int) ≤ 4096) :
    Calls Try.prog 35 #[.agg #[.slice a r cap, .slice b q dap, .slice c s eap, .int .i64 n, .int .i64 f, .int .i64 o]] w fun e w' => e = .returned (.bool false) ∧ Below w.heap.size w w' := by
  clear hP hQ hS hn hf ho hr
  have g1 : (4096 : Int) < (r : Int) := by omega
  have g2 : 4096 < r := by omega
  clear g
  obtain ⟨WA, hWA⟩ : ∃ WA, w.alloc (.cells #[.slice a r cap, .slice b q dap, .slice c s eap, .int .i64 n, .int .i64 f, .int .i64 o] 30) = WA := ⟨_, rfl⟩
  have nWA : Below w.heap.size w WA := hWA ▸ (Below.refl _ _).alloc (Nat.le_refl _) _
  have mWA : BoxV6 WA w.heap.size (.slice a r cap) (.slice b q dap) (.slice c s eap) (.int .i64 n) (.int .i64 f) (.int .i64 o) := hWA ▸ boxV6_new _ _ _ _ _ _ _ _
  have BL := hide nWA
  have KA := hide mWA
  clear nWA mWA
  obtain ⟨-, cA0, cA1, cA2, cA3, cA4, cA5⟩ := KA.out
  go_enter Try.func35, Try.ntmps35
  go_wp2_with fail
  go_ret
  exact ⟨rfl, BL.out⟩
set_option maxHeartbeats 1000000 in
theorem iOpt_len2 (a b c : Option Addr) (r q s cap dap eap : Nat) (P Q S : Nat → Int) (n f o : Int) (w : World) (hP : Ints w.heap.size w a r P) (hQ : Ints w.heap.size w b q Q) (hS : Ints w.heap.size w c s S) (hr : (r : Int) ≤ 1048576) (hn : bd n) (hf : bd f) (ho : bd o) (r4 : (r : Int) ≤ 4096) (g : ¬ q = r) :
    Calls Try.prog 35 #[.agg #[.slice a r cap, .slice b q dap, .slice c s eap, .int .i64 n, .int .i64 f, .int .i64 o]] w fun e w' => e = .returned (.bool false) ∧ Below w.heap.size w w' := by
  clear hP hQ hS hn hf ho hr
  have g0 : decide ((4096 : Int) < (r : Int)) = false := decide_eq_false (by omega)
  have gN : decide (4096 < r) = false := decide_eq_false (by omega)
  have g1 : ¬ (q : Int) = (r : Int) := by omega
  clear r4
  obtain ⟨WA, hWA⟩ : ∃ WA, w.alloc (.cells #[.slice a r cap, .slice b q dap, .slice c s eap, .int .i64 n, .int .i64 f, .int .i64 o] 30) = WA := ⟨_, rfl⟩
  have nWA : Below w.heap.size w WA := hWA ▸ (Below.refl _ _).alloc (Nat.le_refl _) _
  have mWA : BoxV6 WA w.heap.size (.slice a r cap) (.slice b q dap) (.slice c s eap) (.int .i64 n) (.int .i64 f) (.int .i64 o) := hWA ▸ boxV6_new _ _ _ _ _ _ _ _
  have BL := hide nWA
  have KA := hide mWA
  clear nWA mWA
  obtain ⟨-, cA0, cA1, cA2, cA3, cA4, cA5⟩ := KA.out
  go_enter Try.func35, Try.ntmps35
  go_wp2_with fail
  go_ret
  exact ⟨rfl, BL.out⟩
set_option maxHeartbeats 1000000 in
theorem iOpt_len3 (a b c : Option Addr) (r s cap dap eap : Nat) (P Q S : Nat → Int) (n f o : Int) (w : World) (hP : Ints w.heap.size w a r P) (hQ : Ints w.heap.size w b r Q) (hS : Ints w.heap.size w c s S) (hr : (r : Int) ≤ 1048576) (hn : bd n) (hf : bd f) (ho : bd o) (r4 : (r : Int) ≤ 4096) (g : ¬ s = r) :
    Calls Try.prog 35 #[.agg #[.slice a r cap, .slice b r dap, .slice c s eap, .int .i64 n, .int .i64 f, .int .i64 o]] w fun e w' => e = .returned (.bool false) ∧ Below w.heap.size w w' := by
  clear hP hQ hS hn hf ho hr
  have g0 : decide ((4096 : Int) < (r : Int)) = false := decide_eq_false (by omega)
  have gN : decide (4096 < r) = false := decide_eq_false (by omega)
  have g1 : ¬ (s : Int) = (r : Int) := by omega
  clear r4
  obtain ⟨WA, hWA⟩ : ∃ WA, w.alloc (.cells #[.slice a r cap, .slice b r dap, .slice c s eap, .int .i64 n, .int .i64 f, .int .i64 o] 30) = WA := ⟨_, rfl⟩
  have nWA : Below w.heap.size w WA := hWA ▸ (Below.refl _ _).alloc (Nat.le_refl _) _
  have mWA : BoxV6 WA w.heap.size (.slice a r cap) (.slice b r dap) (.slice c s eap) (.int .i64 n) (.int .i64 f) (.int .i64 o) := hWA ▸ boxV6_new _ _ _ _ _ _ _ _
  have BL := hide nWA
  have KA := hide mWA
  clear nWA mWA
  obtain ⟨-, cA0, cA1, cA2, cA3, cA4, cA5⟩ := KA.out
  go_enter Try.func35, Try.ntmps35
  go_wp2_with fail
  go_ret
  exact ⟨rfl, BL.out⟩
theorem gIb (l m : Int) (s : Nat) (S : Nat → Int) (a : Option Addr) (cap : Nat) (b : Bool) (w : World) {B : Nat} (hB : B ≤ w.heap.size) (h : Ints B w a s S) (hs : (s : Int) ≤ 1048576) (hl : l ≤ m) (hb : ib l m s S = b) :
    Calls Try.prog 45 #[.int .i64 l, .int .i64 m, .slice a s cap] w fun e w' => e = .returned (.bool b) ∧ Below w.heap.size w w' := by
  rw [← hb]; exact inBoundsF B a s cap S l m w hl hB h hs
set_option maxHeartbeats 1000000 in
theorem iOpt_no1 (a b c : Option Addr) (r cap dap eap : Nat) (P Q S : Nat → Int) (n f o : Int) (w : World) (hP : Ints w.heap.size w a r P) (hQ : Ints w.heap.size w b r Q) (hS : Ints w.heap.size w c r S) (hr : (r : Int) ≤ 1048576) (hn : bd n) (hf : bd f) (ho : bd o) (r4 : (r : Int) ≤ 4096)  (g1 : ib (-68719476736) 68719476736 r P = false) :
    Calls Try.prog 35 #[.agg #[.slice a r cap, .slice b r dap, .slice c r eap, .int .i64 n, .int .i64 f, .int .i64 o]] w fun e w' => e = .returned (.bool false) ∧ Below w.heap.size w w' := by
  have HP := hide hP
  have HQ := hide hQ
  have HS := hide hS
  have Hn := hide hn
  have Hf := hide hf
  have Ho := hide ho
  clear hP hQ hS hn hf ho
  have g0 : decide ((4096 : Int) < (r : Int)) = false := decide_eq_false (by omega)
  have gN : decide (4096 < r) = false := decide_eq_false (by omega)
  have G1 := hide g1
  clear g1
  obtain ⟨WA, hWA⟩ : ∃ WA, w.alloc (.cells #[.slice a r cap, .slice b r dap, .slice c r eap, .int .i64 n, .int .i64 f, .int .i64 o] 30) = WA := ⟨_, rfl⟩
  have nWA : Below w.heap.size w WA := hWA ▸ (Below.refl _ _).alloc (Nat.le_refl _) _
  have mWA : BoxV6 WA w.heap.size (.slice a r cap) (.slice b r dap) (.slice c r eap) (.int .i64 n) (.int .i64 f) (.int .i64 o) := hWA ▸ boxV6_new _ _ _ _ _ _ _ _
  have BL := hide nWA
  have KA := hide mWA
  clear nWA mWA
  obtain ⟨-, cA0, cA1, cA2, cA3, cA4, cA5⟩ := KA.out
  go_enter Try.func35, Try.ntmps35
  go_wp2_with fail
  refine (gIb (-68719476736) 68719476736 r P a cap false _ (BL.out.size) (HP.out.below BL.out) (by omega) (by decide) G1.out).mono ?_
  rintro e1 w1 ⟨rfl, q1⟩
  replace KA := hide (KA.out.below q1)
  clear cA0 cA1 cA2 cA3 cA4 cA5
  obtain ⟨-, cA0, cA1, cA2, cA3, cA4, cA5⟩ := KA.out
  replace BL := hide (BL.out.trans (q1.mono BL.out.size))
  clear q1
  go_wp2_with fail
  go_ret
  exact ⟨rfl, BL.out⟩
set_option maxHeartbeats 1000000 in
theorem iOpt_no2 (a b c : Option Addr) (r cap dap eap : Nat) (P Q S : Nat → Int) (n f o : Int) (w : World) (hP : Ints w.heap.size w a r P) (hQ : Ints w.heap.size w b r Q) (hS : Ints w.heap.size w c r S) (hr : (r : Int) ≤ 1048576) (hn : bd n) (hf : bd f) (ho : bd o) (r4 : (r : Int) ≤ 4096)  (g1 : ib (-68719476736) 68719476736 r P = true) (g2 : ib (-4294967296) 4294967296 r Q = false) :
    Calls Try.prog 35 #[.agg #[.slice a r cap, .slice b r dap, .slice c r eap, .int .i64 n, .int .i64 f, .int .i64 o]] w fun e w' => e = .returned (.bool false) ∧ Below w.heap.size w w' := by
  have HP := hide hP
  have HQ := hide hQ
  have HS := hide hS
  have Hn := hide hn
  have Hf := hide hf
  have Ho := hide ho
  clear hP hQ hS hn hf ho
  have g0 : decide ((4096 : Int) < (r : Int)) = false := decide_eq_false (by omega)
  have gN : decide (4096 < r) = false := decide_eq_false (by omega)
  have G1 := hide g1
  have G2 := hide g2
  clear g1 g2
  obtain ⟨WA, hWA⟩ : ∃ WA, w.alloc (.cells #[.slice a r cap, .slice b r dap, .slice c r eap, .int .i64 n, .int .i64 f, .int .i64 o] 30) = WA := ⟨_, rfl⟩
  have nWA : Below w.heap.size w WA := hWA ▸ (Below.refl _ _).alloc (Nat.le_refl _) _
  have mWA : BoxV6 WA w.heap.size (.slice a r cap) (.slice b r dap) (.slice c r eap) (.int .i64 n) (.int .i64 f) (.int .i64 o) := hWA ▸ boxV6_new _ _ _ _ _ _ _ _
  have BL := hide nWA
  have KA := hide mWA
  clear nWA mWA
  obtain ⟨-, cA0, cA1, cA2, cA3, cA4, cA5⟩ := KA.out
  go_enter Try.func35, Try.ntmps35
  go_wp2_with fail
  refine (gIb (-68719476736) 68719476736 r P a cap true _ (BL.out.size) (HP.out.below BL.out) (by omega) (by decide) G1.out).mono ?_
  rintro e1 w1 ⟨rfl, q1⟩
  replace KA := hide (KA.out.below q1)
  clear cA0 cA1 cA2 cA3 cA4 cA5
  obtain ⟨-, cA0, cA1, cA2, cA3, cA4, cA5⟩ := KA.out
  replace BL := hide (BL.out.trans (q1.mono BL.out.size))
  clear q1
  go_wp2_with fail
  refine (gIb (-4294967296) 4294967296 r Q b dap false _ (BL.out.size) (HQ.out.below BL.out) (by omega) (by decide) G2.out).mono ?_
  rintro e1 w2 ⟨rfl, q2⟩
  replace KA := hide (KA.out.below q2)
  clear cA0 cA1 cA2 cA3 cA4 cA5
  obtain ⟨-, cA0, cA1, cA2, cA3, cA4, cA5⟩ := KA.out
  replace BL := hide (BL.out.trans (q2.mono BL.out.size))
  clear q2
  go_wp2_with fail
  go_ret
  exact ⟨rfl, BL.out⟩
set_option maxHeartbeats 1000000 in
theorem iOpt_no3 (a b c : Option Addr) (r cap dap eap : Nat) (P Q S : Nat → Int) (n f o : Int) (w : World) (hP : Ints w.heap.size w a r P) (hQ : Ints w.heap.size w b r Q) (hS : Ints w.heap.size w c r S) (hr : (r : Int) ≤ 1048576) (hn : bd n) (hf : bd f) (ho : bd o) (r4 : (r : Int) ≤ 4096)  (g1 : ib (-68719476736) 68719476736 r P = true) (g2 : ib (-4294967296) 4294967296 r Q = true) (g3 : ib (0) 17179869184 r S = false) :
    Calls Try.prog 35 #[.agg #[.slice a r cap, .slice b r dap, .slice c r eap, .int .i64 n, .int .i64 f, .int .i64 o]] w fun e w' => e = .returned (.bool false) ∧ Below w.heap.size w w' := by
  have HP := hide hP
  have HQ := hide hQ
  have HS := hide hS
  have Hn := hide hn
  have Hf := hide hf
  have Ho := hide ho
  clear hP hQ hS hn hf ho
  have g0 : decide ((4096 : Int) < (r : Int)) = false := decide_eq_false (by omega)
  have gN : decide (4096 < r) = false := decide_eq_false (by omega)
  have G1 := hide g1
  have G2 := hide g2
  have G3 := hide g3
  clear g1 g2 g3
  obtain ⟨WA, hWA⟩ : ∃ WA, w.alloc (.cells #[.slice a r cap, .slice b r dap, .slice c r eap, .int .i64 n, .int .i64 f, .int .i64 o] 30) = WA := ⟨_, rfl⟩
  have nWA : Below w.heap.size w WA := hWA ▸ (Below.refl _ _).alloc (Nat.le_refl _) _
  have mWA : BoxV6 WA w.heap.size (.slice a r cap) (.slice b r dap) (.slice c r eap) (.int .i64 n) (.int .i64 f) (.int .i64 o) := hWA ▸ boxV6_new _ _ _ _ _ _ _ _
  have BL := hide nWA
  have KA := hide mWA
  clear nWA mWA
  obtain ⟨-, cA0, cA1, cA2, cA3, cA4, cA5⟩ := KA.out
  go_enter Try.func35, Try.ntmps35
  go_wp2_with fail
  refine (gIb (-68719476736) 68719476736 r P a cap true _ (BL.out.size) (HP.out.below BL.out) (by omega) (by decide) G1.out).mono ?_
  rintro e1 w1 ⟨rfl, q1⟩
  replace KA := hide (KA.out.below q1)
  clear cA0 cA1 cA2 cA3 cA4 cA5
  obtain ⟨-, cA0, cA1, cA2, cA3, cA4, cA5⟩ := KA.out
  replace BL := hide (BL.out.trans (q1.mono BL.out.size))
  clear q1
  go_wp2_with fail
  refine (gIb (-4294967296) 4294967296 r Q b dap true _ (BL.out.size) (HQ.out.below BL.out) (by omega) (by decide) G2.out).mono ?_
  rintro e1 w2 ⟨rfl, q2⟩
  replace KA := hide (KA.out.below q2)
  clear cA0 cA1 cA2 cA3 cA4 cA5
  obtain ⟨-, cA0, cA1, cA2, cA3, cA4, cA5⟩ := KA.out
  replace BL := hide (BL.out.trans (q2.mono BL.out.size))
  clear q2
  go_wp2_with fail
  refine (gIb (0) 17179869184 r S c eap false _ (BL.out.size) (HS.out.below BL.out) (by omega) (by decide) G3.out).mono ?_
  rintro e1 w3 ⟨rfl, q3⟩
  replace KA := hide (KA.out.below q3)
  clear cA0 cA1 cA2 cA3 cA4 cA5
  obtain ⟨-, cA0, cA1, cA2, cA3, cA4, cA5⟩ := KA.out
  replace BL := hide (BL.out.trans (q3.mono BL.out.size))
  clear q3
  go_wp2_with fail
  go_ret
  exact ⟨rfl, BL.out⟩
set_option maxHeartbeats 1000000 in
theorem iOpt_no4 (a b c : Option Addr) (r cap dap eap : Nat) (P Q S : Nat → Int) (n f o : Int) (w : World) (hP : Ints w.heap.size w a r P) (hQ : Ints w.heap.size w b r Q) (hS : Ints w.heap.size w c r S) (hr : (r : Int) ≤ 1048576) (hn : bd n) (hf : bd f) (ho : bd o) (r4 : (r : Int) ≤ 4096)  (g1 : ib (-68719476736) 68719476736 r P = true) (g2 : ib (-4294967296) 4294967296 r Q = true) (g3 : ib (0) 17179869184 r S = true) (g4 : decide ((0 ≤ n ∧ n ≤ 1000000) ∧ (0 ≤ o ∧ o ≤ 1000000)) = false) :
    Calls Try.prog 35 #[.agg #[.slice a r cap, .slice b r dap, .slice c r eap, .int .i64 n, .int .i64 f, .int .i64 o]] w fun e w' => e = .returned (.bool false) ∧ Below w.heap.size w w' := by
  have HP := hide hP
  have HQ := hide hQ
  have HS := hide hS
  have Hn := hide hn
  have Hf := hide hf
  have Ho := hide ho
  clear hP hQ hS hn hf ho
  have g0 : decide ((4096 : Int) < (r : Int)) = false := decide_eq_false (by omega)
  have gN : decide (4096 < r) = false := decide_eq_false (by omega)
  have G1 := hide g1
  have G2 := hide g2
  have G3 := hide g3
  have G4 := hide g4
  clear g1 g2 g3 g4
  obtain ⟨WA, hWA⟩ : ∃ WA, w.alloc (.cells #[.slice a r cap, .slice b r dap, .slice c r eap, .int .i64 n, .int .i64 f, .int .i64 o] 30) = WA := ⟨_, rfl⟩
  have nWA : Below w.heap.size w WA := hWA ▸ (Below.refl _ _).alloc (Nat.le_refl _) _
  have mWA : BoxV6 WA w.heap.size (.slice a r cap) (.slice b r dap) (.slice c r eap) (.int .i64 n) (.int .i64 f) (.int .i64 o) := hWA ▸ boxV6_new _ _ _ _ _ _ _ _
  have BL := hide nWA
  have KA := hide mWA
  clear nWA mWA
  obtain ⟨-, cA0, cA1, cA2, cA3, cA4, cA5⟩ := KA.out
  go_enter Try.func35, Try.ntmps35
  go_wp2_with fail
  refine (gIb (-68719476736) 68719476736 r P a cap true _ (BL.out.size) (HP.out.below BL.out) (by omega) (by decide) G1.out).mono ?_
  rintro e1 w1 ⟨rfl, q1⟩
  replace KA := hide (KA.out.below q1)
  clear cA0 cA1 cA2 cA3 cA4 cA5
  obtain ⟨-, cA0, cA1, cA2, cA3, cA4, cA5⟩ := KA.out
  replace BL := hide (BL.out.trans (q1.mono BL.out.size))
  clear q1
  go_wp2_with fail
  refine (gIb (-4294967296) 4294967296 r Q b dap true _ (BL.out.size) (HQ.out.below BL.out) (by omega) (by decide) G2.out).mono ?_
  rintro e1 w2 ⟨rfl, q2⟩
  replace KA := hide (KA.out.below q2)
  clear cA0 cA1 cA2 cA3 cA4 cA5
  obtain ⟨-, cA0, cA1, cA2, cA3, cA4, cA5⟩ := KA.out
  replace BL := hide (BL.out.trans (q2.mono BL.out.size))
  clear q2
  go_wp2_with fail
  refine (gIb (0) 17179869184 r S c eap true _ (BL.out.size) (HS.out.below BL.out) (by omega) (by decide) G3.out).mono ?_
  rintro e1 w3 ⟨rfl, q3⟩
  replace KA := hide (KA.out.below q3)
  clear cA0 cA1 cA2 cA3 cA4 cA5
  obtain ⟨-, cA0, cA1, cA2, cA3, cA4, cA5⟩ := KA.out
  replace BL := hide (BL.out.trans (q3.mono BL.out.size))
  clear q3
  go_wp2_with fail
  refine (steps_two n o false _ _ Hn.out Ho.out G4.out rfl).mono ?_
  rintro e1 w4 ⟨rfl, q4⟩
  replace KA := hide (KA.out.below q4)
  clear cA0 cA1 cA2 cA3 cA4 cA5
  obtain ⟨-, cA0, cA1, cA2, cA3, cA4, cA5⟩ := KA.out
  replace BL := hide (BL.out.trans (q4.mono BL.out.size))
  clear q4
  go_wp2_with fail
  go_ret
  exact ⟨rfl, BL.out⟩
set_option maxHeartbeats 1000000 in
theorem iOpt_no5 (a b c : Option Addr) (r cap dap eap : Nat) (P Q S : Nat → Int) (n f o : Int) (w : World) (hP : Ints w.heap.size w a r P) (hQ : Ints w.heap.size w b r Q) (hS : Ints w.heap.size w c r S) (hr : (r : Int) ≤ 1048576) (hn : bd n) (hf : bd f) (ho : bd o) (r4 : (r : Int) ≤ 4096)  (g1 : ib (-68719476736) 68719476736 r P = true) (g2 : ib (-4294967296) 4294967296 r Q = true) (g3 : ib (0) 17179869184 r S = true) (g4 : decide ((0 ≤ n ∧ n ≤ 1000000) ∧ (0 ≤ o ∧ o ≤ 1000000)) = true) (g5 : fac f = false) :
    Calls Try.prog 35 #[.agg #[.slice a r cap, .slice b r dap, .slice c r eap, .int .i64 n, .int .i64 f, .int .i64 o]] w fun e w' => e = .returned (.bool false) ∧ Below w.heap.size w w' := by
  have HP := hide hP
  have HQ := hide hQ
  have HS := hide hS
  have Hn := hide hn
  have Hf := hide hf
  have Ho := hide ho
  clear hP hQ hS hn hf ho
  have g0 : decide ((4096 : Int) < (r : Int)) = false := decide_eq_false (by omega)
  have gN : decide (4096 < r) = false := decide_eq_false (by omega)
  have G1 := hide g1
  have G2 := hide g2
  have G3 := hide g3
  have G4 := hide g4
  have G5 := hide g5
  clear g1 g2 g3 g4 g5
  obtain ⟨WA, hWA⟩ : ∃ WA, w.alloc (.cells #[.slice a r cap, .slice b r dap, .slice c r eap, .int .i64 n, .int .i64 f, .int .i64 o] 30) = WA := ⟨_, rfl⟩
  have nWA : Below w.heap.size w WA := hWA ▸ (Below.refl _ _).alloc (Nat.le_refl _) _
  have mWA : BoxV6 WA w.heap.size (.slice a r cap) (.slice b r dap) (.slice c r eap) (.int .i64 n) (.int .i64 f) (.int .i64 o) := hWA ▸ boxV6_new _ _ _ _ _ _ _ _
  have BL := hide nWA
  have KA := hide mWA
  clear nWA mWA
  obtain ⟨-, cA0, cA1, cA2, cA3, cA4, cA5⟩ := KA.out
  go_enter Try.func35, Try.ntmps35
  go_wp2_with fail
  refine (gIb (-68719476736) 68719476736 r P a cap true _ (BL.out.size) (HP.out.below BL.out) (by omega) (by decide) G1.out).mono ?_
  rintro e1 w1 ⟨rfl, q1⟩
  replace KA := hide (KA.out.below q1)
  clear cA0 cA1 cA2 cA3 cA4 cA5
  obtain ⟨-, cA0, cA1, cA2, cA3, cA4, cA5⟩ := KA.out
  replace BL := hide (BL.out.trans (q1.mono BL.out.size))
  clear q1
  go_wp2_with fail
  refine (gIb (-4294967296) 4294967296 r Q b dap true _ (BL.out.size) (HQ.out.below BL.out) (by omega) (by decide) G2.out).mono ?_
  rintro e1 w2 ⟨rfl, q2⟩
  replace KA := hide (KA.out.below q2)
  clear cA0 cA1 cA2 cA3 cA4 cA5
  obtain ⟨-, cA0, cA1, cA2, cA3, cA4, cA5⟩ := KA.out
  replace BL := hide (BL.out.trans (q2.mono BL.out.size))
  clear q2
  go_wp2_with fail
  refine (gIb (0) 17179869184 r S c eap true _ (BL.out.size) (HS.out.below BL.out) (by omega) (by decide) G3.out).mono ?_
  rintro e1 w3 ⟨rfl, q3⟩
  replace KA := hide (KA.out.below q3)
  clear cA0 cA1 cA2 cA3 cA4 cA5
  obtain ⟨-, cA0, cA1, cA2, cA3, cA4, cA5⟩ := KA.out
  replace BL := hide (BL.out.trans (q3.mono BL.out.size))
  clear q3
  go_wp2_with fail
  refine (steps_two n o true _ _ Hn.out Ho.out G4.out rfl).mono ?_
  rintro e1 w4 ⟨rfl, q4⟩
  replace KA := hide (KA.out.below q4)
  clear cA0 cA1 cA2 cA3 cA4 cA5
  obtain ⟨-, cA0, cA1, cA2, cA3, cA4, cA5⟩ := KA.out
  replace BL := hide (BL.out.trans (q4.mono BL.out.size))
  clear q4
  go_wp2_with fail
  refine (isFactorF f false Hf.out G5.out _).mono ?_
  rintro e1 w5 ⟨rfl, q5⟩
  replace KA := hide (KA.out.below q5)
  clear cA0 cA1 cA2 cA3 cA4 cA5
  obtain ⟨-, cA0, cA1, cA2, cA3, cA4, cA5⟩ := KA.out
  replace BL := hide (BL.out.trans (q5.mono BL.out.size))
  clear q5
  go_wp2_with fail
  go_ret
  exact ⟨rfl, BL.out⟩
set_option maxHeartbeats 1000000 in
theorem iOpt_yes (a b c : Option Addr) (r cap dap eap : Nat) (P Q S : Nat → Int) (n f o : Int) (w : World) (hP : Ints w.heap.size w a r P) (hQ : Ints w.heap.size w b r Q) (hS : Ints w.heap.size w c r S) (hr : (r : Int) ≤ 1048576) (hn : bd n) (hf : bd f) (ho : bd o) (r4 : (r : Int) ≤ 4096)  (g1 : ib (-68719476736) 68719476736 r P = true) (g2 : ib (-4294967296) 4294967296 r Q = true) (g3 : ib (0) 17179869184 r S = true) (g4 : decide ((0 ≤ n ∧ n ≤ 1000000) ∧ (0 ≤ o ∧ o ≤ 1000000)) = true) (g5 : fac f = true) :
    Calls Try.prog 35 #[.agg #[.slice a r cap, .slice b r dap, .slice c r eap, .int .i64 n, .int .i64 f, .int .i64 o]] w fun e w' => e = .returned (.bool true) ∧ Below w.heap.size w w' := by
  have HP := hide hP
  have HQ := hide hQ
  have HS := hide hS
  have Hn := hide hn
  have Hf := hide hf
  have Ho := hide ho
  clear hP hQ hS hn hf ho
  have g0 : decide ((4096 : Int) < (r : Int)) = false := decide_eq_false (by omega)
  have gN : decide (4096 < r) = false := decide_eq_false (by omega)
  have G1 := hide g1
  have G2 := hide g2
  have G3 := hide g3
  have G4 := hide g4
  have G5 := hide g5
  clear g1 g2 g3 g4 g5
  obtain ⟨WA, hWA⟩ : ∃ WA, w.alloc (.cells #[.slice a r cap, .slice b r dap, .slice c r eap, .int .i64 n, .int .i64 f, .int .i64 o] 30) = WA := ⟨_, rfl⟩
  have nWA : Below w.heap.size w WA := hWA ▸ (Below.refl _ _).alloc (Nat.le_refl _) _
  have mWA : BoxV6 WA w.heap.size (.slice a r cap) (.slice b r dap) (.slice c r eap) (.int .i64 n) (.int .i64 f) (.int .i64 o) := hWA ▸ boxV6_new _ _ _ _ _ _ _ _
  have BL := hide nWA
  have KA := hide mWA
  clear nWA mWA
  obtain ⟨-, cA0, cA1, cA2, cA3, cA4, cA5⟩ := KA.out
  go_enter Try.func35, Try.ntmps35
  go_wp2_with fail
  refine (gIb (-68719476736) 68719476736 r P a cap true _ (BL.out.size) (HP.out.below BL.out) (by omega) (by decide) G1.out).mono ?_
  rintro e1 w1 ⟨rfl, q1⟩
  replace KA := hide (KA.out.below q1)
  clear cA0 cA1 cA2 cA3 cA4 cA5
  obtain ⟨-, cA0, cA1, cA2, cA3, cA4, cA5⟩ := KA.out
  replace BL := hide (BL.out.trans (q1.mono BL.out.size))
  clear q1
  go_wp2_with fail
  refine (gIb (-4294967296) 4294967296 r Q b dap true _ (BL.out.size) (HQ.out.below BL.out) (by omega) (by decide) G2.out).mono ?_
  rintro e1 w2 ⟨rfl, q2⟩
  replace KA := hide (KA.out.below q2)
  clear cA0 cA1 cA2 cA3 cA4 cA5
  obtain ⟨-, cA0, cA1, cA2, cA3, cA4, cA5⟩ := KA.out
  replace BL := hide (BL.out.trans (q2.mono BL.out.size))
  clear q2
  go_wp2_with fail
  refine (gIb (0) 17179869184 r S c eap true _ (BL.out.size) (HS.out.below BL.out) (by omega) (by decide) G3.out).mono ?_
  rintro e1 w3 ⟨rfl, q3⟩
  replace KA := hide (KA.out.below q3)
  clear cA0 cA1 cA2 cA3 cA4 cA5
  obtain ⟨-, cA0, cA1, cA2, cA3, cA4, cA5⟩ := KA.out
  replace BL := hide (BL.out.trans (q3.mono BL.out.size))
  clear q3
  go_wp2_with fail
  refine (steps_two n o true _ _ Hn.out Ho.out G4.out rfl).mono ?_
  rintro e1 w4 ⟨rfl, q4⟩
  replace KA := hide (KA.out.below q4)
  clear cA0 cA1 cA2 cA3 cA4 cA5
  obtain ⟨-, cA0, cA1, cA2, cA3, cA4, cA5⟩ := KA.out
  replace BL := hide (BL.out.trans (q4.mono BL.out.size))
  clear q4
  go_wp2_with fail
  refine (isFactorF f true Hf.out G5.out _).mono ?_
  rintro e1 w5 ⟨rfl, q5⟩
  replace KA := hide (KA.out.below q5)
  clear cA0 cA1 cA2 cA3 cA4 cA5
  obtain ⟨-, cA0, cA1, cA2, cA3, cA4, cA5⟩ := KA.out
  replace BL := hide (BL.out.trans (q5.mono BL.out.size))
  clear q5
  go_wp2_with fail
  go_ret
  exact ⟨rfl, BL.out⟩
theorem implOpt (a b c : Option Addr) (r q s cap dap eap : Nat) (P Q S : Nat → Int) (n f o : Int) (w : World) (hP : Ints w.heap.size w a r P) (hQ : Ints w.heap.size w b q Q) (hS : Ints w.heap.size w c s S) (hr : (r : Int) ≤ 1048576) (hn : bd n) (hf : bd f) (ho : bd o) (hq : (q : Int) ≤ 1048576) (hs : (s : Int) ≤ 1048576) :
    Calls Try.prog 35 #[.agg #[.slice a r cap, .slice b q dap, .slice c s eap, .int .i64 n, .int .i64 f, .int .i64 o]] w fun e w' => e = .returned (.bool (ook r q s P Q S n f o)) ∧ Below w.heap.size w w' := by
  by_cases l1 : ¬ (r : Int) ≤ 4096
  · rw [show ook r q s P Q S n f o = false from decide_eq_false (fun h => l1 h.1)]
    exact iOpt_len1 a b c r q s cap dap eap P Q S n f o w hP hQ hS hr hn hf ho l1
  replace l1 := Decidable.of_not_not l1
  by_cases l2 : ¬ q = r
  · rw [show ook r q s P Q S n f o = false from decide_eq_false (fun h => l2 h.2.1)]
    exact iOpt_len2 a b c r q s cap dap eap P Q S n f o w hP hQ hS hr hn hf ho l1 l2
  replace l2 := Decidable.of_not_not l2
  subst l2
  by_cases l3 : ¬ s = q
  · rw [show ook q q s P Q S n f o = false from decide_eq_false (fun h => l3 h.2.2.1)]
    exact iOpt_len3 a b c q s cap dap eap P Q S n f o w hP hQ hS hr hn hf ho l1 l3
  replace l3 := Decidable.of_not_not l3
  subst l3
  cases g1 : ib (-68719476736) 68719476736 s P
  · rw [show ook s s s P Q S n f o = false from decide_eq_false (fun h => absurd (decide_eq_true (fun j hj => (h.2.2.2.2.2.1 j hj).1)) (by show ¬ ib _ _ _ _ = true; rw [g1]; exact Bool.false_ne_true))]
    exact iOpt_no1 a b c s cap dap eap P Q S n f o w hP hQ hS hr hn hf ho l1 g1
  cases g2 : ib (-4294967296) 4294967296 s Q
  · rw [show ook s s s P Q S n f o = false from decide_eq_false (fun h => absurd (decide_eq_true (fun j hj => (h.2.2.2.2.2.1 j hj).2.1)) (by show ¬ ib _ _ _ _ = true; rw [g2]; exact Bool.false_ne_true))]
    exact iOpt_no2 a b c s cap dap eap P Q S n f o w hP hQ hS hr hn hf ho l1 g1 g2
  cases g3 : ib (0) 17179869184 s S
  · rw [show ook s s s P Q S n f o = false from decide_eq_false (fun h => absurd (decide_eq_true (fun j hj => (h.2.2.2.2.2.1 j hj).2.2)) (by show ¬ ib _ _ _ _ = true; rw [g3]; exact Bool.false_ne_true))]
    exact iOpt_no3 a b c s cap dap eap P Q S n f o w hP hQ hS hr hn hf ho l1 g1 g2 g3
  cases g4 : decide ((0 ≤ n ∧ n ≤ 1000000) ∧ (0 ≤ o ∧ o ≤ 1000000))
  · rw [show ook s s s P Q S n f o = false from decide_eq_false (fun h => of_decide_eq_false g4 ⟨h.2.2.2.1, h.2.2.2.2.1⟩)]
    exact iOpt_no4 a b c s cap dap eap P Q S n f o w hP hQ hS hr hn hf ho l1 g1 g2 g3 g4
  cases g5 : fac f
  · rw [show ook s s s P Q S n f o = false from decide_eq_false (fun h => absurd h.2.2.2.2.2.2 (by rw [g5]; exact Bool.false_ne_true))]
    exact iOpt_no5 a b c s cap dap eap P Q S n f o w hP hQ hS hr hn hf ho l1 g1 g2 g3 g4 g5
  have f1 := of_decide_eq_true g1
  have f2 := of_decide_eq_true g2
  have f3 := of_decide_eq_true g3
  have f4 := of_decide_eq_true g4
  rw [show ook s s s P Q S n f o = true from decide_eq_true ⟨l1, rfl, rfl, f4.1, f4.2, fun j hj => ⟨f1 j hj, f2 j hj, f3 j hj⟩, g5⟩]
  exact iOpt_yes a b c s cap dap eap P Q S n f o w hP hQ hS hr hn hf ho l1 g1 g2 g3 g4 g5
end Vo
end Go.Proofs.Ytajljeegkmkkcaa
