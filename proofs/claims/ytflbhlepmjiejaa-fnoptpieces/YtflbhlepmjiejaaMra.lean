/- Lemmas for the proof of the law. -/
import Derived.Test.YtflbhlepmjiejaaOs
import Derived.Test.YtflbhlepmjiejaaOo
import Derived.Test.YtflbhlepmjiejaaOma
import Derived.Test.YtflbhlepmjiejaaOmb
import Derived.Test.YtflbhlepmjiejaaOmc
import Derived.Test.YtflbhlepmjiejaaEk
import Derived.Test.YtflbhlepmjiejaaEa
import Derived.Test.YtflbhlepmjiejaaQf
import Derived.Test.YtflbhlepmjiejaaVc
import Derived.Test.YtflbhlepmjiejaaVo
import Derived.Deep.RegionHeld3
/- A step of the program: what comes of a state, whatever the kind of rule. -/
namespace Go.Proofs.Ytflbhlepmjiejaa
namespace Vo
open Go.ChangeShapes Go.WideShapes Go.ChangeAt Go.RowKit Go.Joins Go.Sort
open Vl
set_option linter.unusedVariables false
/-- does the factor grow -/
def grows (good gr : Int) : Prop := 0 < gr ∧ gr ≤ min (good + 1) 1000000
instance (good gr : Int) : Decidable (grows good gr) := by unfold grows; infer_instance
def nFac (fac good gr : Int) : Int := if grows good gr then min (fac * 2) 65536 else fac
def nGood (good gr : Int) : Int := if grows good gr then 0 else min (good + 1) 1000000
theorem praiseO (P n cP cF cS : Nat) (aP aF aS : Option Addr) (cnt fac good gr : Int) (w : World) (h : C6 w P (OV aP aF aS n cP cF cS cnt fac good)) (g0 : 0 ≤ good) (g1 : good ≤ 1000000) (f0 : 0 ≤ fac) (f1 : fac ≤ 65536) :
    Calls Try.prog 62 #[.pointer (some ⟨P, 0, none⟩), .int .i64 gr] w fun e w' => (∃ v, e = .returned v) ∧ C6 w' P (OV aP aF aS n cP cF cS cnt (nFac fac good gr) (nGood good gr)) ∧ Kept (· = P) w w' := by
  unfold nFac nGood
  by_cases c : grows good gr
  · rw [if_pos c, if_pos c]
    exact praiseB P n cP cF cS aP aF aS cnt fac good gr _ _ w h g0 g1 f0 f1 rfl rfl c.1 c.2
  · rw [if_neg c, if_neg c]
    refine praiseA P n cP cF cS aP aF aS cnt fac good gr _ w h g0 g1 rfl ?_
    unfold grows at c
    omega
theorem moveO (B P n cP cF cS cap gP gF gS : Nat) (aP aF aS a : Option Addr) (cnt fac good u d r1 r2 r3 r4 k z o y mo gr : Int) (PP FF SS G Gr : Nat → Int) (w : World) (hd : 1 ≤ d ∧ d ≤ 3)
    (hO : C6 w P (OV aP aF aS n cP cF cS cnt fac good)) (hA : n = 0 ∨ (aP = some ⟨gP, 0, none⟩ ∧ aF = some ⟨gF, 0, none⟩ ∧ aS = some ⟨gS, 0, none⟩)) (hP : Rw w gP n PP) (hF : Rw w gF n FF) (hS : Rw w gS n SS)
    (dd : (gP ≠ gF ∧ gP ≠ gS ∧ gF ≠ gS) ∧ (P ≠ gP ∧ P ≠ gF ∧ P ≠ gS) ∧ (B ≤ gP ∧ B ≤ gF ∧ B ≤ gS)) (hB : B ≤ w.heap.size) (hI : Ints B w a n Gr) (n4 : (n : Int) ≤ 4096)
    (hRt : ∀ w, Calls Try.prog 63 #[.agg #[.int .i64 r1, .int .i64 r2, .int .i64 r3, .int .i64 r4], .int .i64 cnt] w fun e w' => e = .returned (.int .i64 u) ∧ Below w.heap.size w w')
    (hG : ∀ w, Ints w.heap.size w a n Gr → Calls Try.prog 65 #[.agg #[.int .i64 d, .int .i64 r1, .int .i64 r2, .int .i64 r3, .int .i64 r4, .int .i64 k, .int .i64 z, .int .i64 o, .int .i64 y, .int .i64 mo, .int .i64 gr], .slice a n cap, .int .i64 fac] w (ListR n G w))
    (hin : ∀ j, j < n → PIn k z o y u (PP j) (FF j) (SS j) (G j)) :
    Calls Try.prog 61 #[.pointer (some ⟨P, 0, none⟩), .agg #[.int .i64 d, .int .i64 r1, .int .i64 r2, .int .i64 r3, .int .i64 r4, .int .i64 k, .int .i64 z, .int .i64 o, .int .i64 y, .int .i64 mo, .int .i64 gr], .slice a n cap] w fun e w' => (∃ v, e = .returned v) ∧ (Rw w' gP n (fun j => nP d k z o y u (PP j) (FF j) (SS j) (G j)) ∧ Rw w' gF n (fun j => nF d k (FF j) (G j)) ∧ Rw w' gS n (fun j => nS d z (SS j) (G j))) ∧ Kept (T3 gP gF gS) w w' := by
  have hb : ∀ (d' : Int) (j : Nat), j < n → bd (nP d' k z o y u (PP j) (FF j) (SS j) (G j)) ∧ bd (nF d' k (FF j) (G j)) ∧ bd (nS d' z (SS j) (G j)) := fun d' j hj => by
    have h := hin j hj
    have q1 := brg_rng (dcy y u (PP j) - nW d' k z o u (FF j) (SS j) (G j))
    have q2 := nF_rng (d := d') h.k0 h.k1 h.f0 h.f1 h.g0 h.g1
    have q3 := nS_rng (d := d') h.z0 h.z1 h.s0 h.s1 h.g0 h.g1
    exact ⟨⟨by unfold nP; omega, by unfold nP; omega⟩, ⟨by omega, by omega⟩, by omega, by omega⟩
  rcases (by omega : d = 1 ∨ d = 2 ∨ d = 3) with rfl | rfl | rfl
  · exact move1 B P n cP cF cS cap gP gF gS aP aF aS a cnt fac good u r1 r2 r3 r4 k z o y mo gr PP FF SS G Gr _ _ _ (fun j => y * PP j) (fun j => nrv (y * PP j) 65536) (fun j => u * nrv (y * PP j) 65536) (fun j => nrv (u * nrv (y * PP j) 65536) 65536) (fun j => dcy y u (PP j)) w hO hA hP hF hS dd hB hI n4 hRt hG (fun j hj => decay_ok (hin j hj)) (fun j hj => ⟨hb 1 j hj, fun w => plain_ok (hin j hj) w⟩)
  · exact move2 B P n cP cF cS cap gP gF gS aP aF aS a cnt fac good u r1 r2 r3 r4 k z o y mo gr PP FF SS G Gr _ _ _ (fun j => y * PP j) (fun j => nrv (y * PP j) 65536) (fun j => u * nrv (y * PP j) 65536) (fun j => nrv (u * nrv (y * PP j) 65536) 65536) (fun j => dcy y u (PP j)) w hO hA hP hF hS dd hB hI n4 hRt hG (fun j hj => decay_ok (hin j hj)) (fun j hj => ⟨hb 2 j hj, fun w => heavy_ok (hin j hj) w⟩)
  · exact move3 B P n cP cF cS cap gP gF gS aP aF aS a cnt fac good u r1 r2 r3 r4 k z o y mo gr PP FF SS G Gr _ _ _ (fun j => y * PP j) (fun j => nrv (y * PP j) 65536) (fun j => u * nrv (y * PP j) 65536) (fun j => nrv (u * nrv (y * PP j) 65536) 65536) (fun j => dcy y u (PP j)) w hO hA hP hF hS dd hB hI n4 hRt hG (fun j hj => decay_ok (hin j hj)) (fun j hj => ⟨hb 3 j hj, fun w => even_ok (hin j hj) w⟩)
end Vo
end Go.Proofs.Ytflbhlepmjiejaa

/- States of a rule that can be, on both sides (written by tools/gen15c.py). -/
namespace Go.Proofs.Ytflbhlepmjiejaa
namespace Vo
open Go.ChangeShapes Go.WideShapes Go.ChangeAt Go.RowKit Go.Joins Go.Sort
open Vl
set_option linter.unusedVariables false
set_option linter.unusedSimpArgs false
/-- six cells in a variable -/
def BoxV6 (w : World) (p : Nat) (x0 x1 x2 x3 x4 x5 : Value) : Prop := p < w.heap.size ∧ w.cell? ⟨p, 0, none⟩ = some x0 ∧ w.cell? ⟨p, 1, none⟩ = some x1 ∧ w.cell? ⟨p, 2, none⟩ = some x2 ∧ w.cell? ⟨p, 3, none⟩ = some x3 ∧ w.cell? ⟨p, 4, none⟩ = some x4 ∧ w.cell? ⟨p, 5, none⟩ = some x5
theorem boxV6_new (w : World) (x0 x1 x2 x3 x4 x5 : Value) (ty : TypeId) : BoxV6 (w.alloc (.cells #[x0, x1, x2, x3, x4, x5] ty)) w.heap.size x0 x1 x2 x3 x4 x5 := ⟨by simp, by simp [go_sem], by simp [go_sem], by simp [go_sem], by simp [go_sem], by simp [go_sem], by simp [go_sem]⟩
theorem BoxV6.below {w w' : World} {p : Nat} {x0 x1 x2 x3 x4 x5 : Value} (h : BoxV6 w p x0 x1 x2 x3 x4 x5) (b : Below w.heap.size w w') : BoxV6 w' p x0 x1 x2 x3 x4 x5 := by
  obtain ⟨hp, h0, h1, h2, h3, h4, h5⟩ := h
  exact ⟨Nat.lt_of_lt_of_le hp b.size, by rw [b.cell (p := ⟨p, 0, none⟩) hp]; exact h0, by rw [b.cell (p := ⟨p, 1, none⟩) hp]; exact h1, by rw [b.cell (p := ⟨p, 2, none⟩) hp]; exact h2, by rw [b.cell (p := ⟨p, 3, none⟩) hp]; exact h3, by rw [b.cell (p := ⟨p, 4, none⟩) hp]; exact h4, by rw [b.cell (p := ⟨p, 5, none⟩) hp]; exact h5⟩
theorem gInE (x l m : Int) (b : Bool) (hb : decide (l ≤ x ∧ x ≤ m) = b) (w : World) :
    Calls Try.prog 29 #[.int .i64 x, .int .i64 l, .int .i64 m] w fun e w' => e = .returned (.bool b) ∧ w' = w := by
  rw [← hb]; exact inS x l m w
/-- what a state's numbers may be -/
def OIn (r : Nat) (P Q S : Nat → Int) : Prop := ∀ j, j < r → (-68719476736 ≤ P j ∧ P j ≤ 68719476736) ∧ (-4294967296 ≤ Q j ∧ Q j ≤ 4294967296) ∧ (0 ≤ S j ∧ S j ≤ 17179869184)
def OOk (r q s : Nat) (P Q S : Nat → Int) (n f o : Int) : Prop := (r : Int) ≤ 4096 ∧ q = r ∧ s = r ∧ (0 ≤ n ∧ n ≤ 1000000) ∧ (0 ≤ o ∧ o ≤ 1000000) ∧ OIn r P Q S ∧ fac f = true
noncomputable instance (r q s : Nat) (P Q S : Nat → Int) (n f o : Int) : Decidable (OOk r q s P Q S n f o) := Classical.propDecidable _
noncomputable def ook (r q s : Nat) (P Q S : Nat → Int) (n f o : Int) : Bool := decide (OOk r q s P Q S n f o)
theorem pw_pow (k : Nat) (h : k ≤ 16) : fac ((2 : Int) ^ k) = true := by
  have : ∀ k : Fin 17, fac ((2 : Int) ^ k.val) = true := by decide +kernel
  exact this ⟨k, by omega⟩
theorem pow_pw {f : Int} (h : fac f = true) : ∃ k : Nat, k ≤ 16 ∧ f = 2 ^ k := by
  unfold fac at h
  rw [Bool.and_eq_true] at h
  obtain ⟨h1, h2⟩ := h
  obtain ⟨f0, f1⟩ := of_decide_eq_true h1
  obtain ⟨n, rfl⟩ := Int.eq_ofNat_of_zero_le (show 0 ≤ f by omega)
  rw [Int.toNat_natCast] at h2
  unfold pwN at h2
  simp only [Bool.or_eq_true] at h2
  have c : ∀ (m : Nat), Nat.beq n m = true → n = m := fun m q => Nat.eq_of_beq_eq_true q
  rcases h2 with h2 | h2
  · rcases h2 with h2 | h2
    · rcases h2 with h2 | h2
      · rcases h2 with h2 | h2
        · rcases h2 with h2 | h2
          · rcases h2 with h2 | h2
            · rcases h2 with h2 | h2
              · rcases h2 with h2 | h2
                · rcases h2 with h2 | h2
                  · rcases h2 with h2 | h2
                    · rcases h2 with h2 | h2
                      · rcases h2 with h2 | h2
                        · rcases h2 with h2 | h2
                          · rcases h2 with h2 | h2
                            · rcases h2 with h2 | h2
                              · rcases h2 with h2 | h2
                                · exact ⟨0, by omega, by rw [c _ h2]; rfl⟩
                                · exact ⟨1, by omega, by rw [c _ h2]; rfl⟩
                              · exact ⟨2, by omega, by rw [c _ h2]; rfl⟩
                            · exact ⟨3, by omega, by rw [c _ h2]; rfl⟩
                          · exact ⟨4, by omega, by rw [c _ h2]; rfl⟩
                        · exact ⟨5, by omega, by rw [c _ h2]; rfl⟩
                      · exact ⟨6, by omega, by rw [c _ h2]; rfl⟩
                    · exact ⟨7, by omega, by rw [c _ h2]; rfl⟩
                  · exact ⟨8, by omega, by rw [c _ h2]; rfl⟩
                · exact ⟨9, by omega, by rw [c _ h2]; rfl⟩
              · exact ⟨10, by omega, by rw [c _ h2]; rfl⟩
            · exact ⟨11, by omega, by rw [c _ h2]; rfl⟩
          · exact ⟨12, by omega, by rw [c _ h2]; rfl⟩
        · exact ⟨13, by omega, by rw [c _ h2]; rfl⟩
      · exact ⟨14, by omega, by rw [c _ h2]; rfl⟩
    · exact ⟨15, by omega, by rw [c _ h2]; rfl⟩
  · exact ⟨16, by omega, by rw [c _ h2]; rfl⟩
theorem pow17 (k : Nat) (h : k ≤ 17) : (1 : Int) ≤ 2 ^ k ∧ (2 : Int) ^ k ≤ 131072 ∧ ((2 : Int) ^ k ≤ 65536 ↔ k ≤ 16) := by
  have : ∀ k : Fin 18, (1 : Int) ≤ 2 ^ k.val ∧ (2 : Int) ^ k.val ≤ 131072 ∧ ((2 : Int) ^ k.val ≤ 65536 ↔ k.val ≤ 16) := by decide +kernel
  exact this ⟨k, by omega⟩
set_option maxHeartbeats 1000000 in
theorem sOpt_len1 (a b c : Option Addr) (r q s cap dap eap : Nat) (P Q S : Nat → Int) (n f o : Int) (w : World) (hP : Ints w.heap.size w a r P) (hQ : Ints w.heap.size w b q Q) (hS : Ints w.heap.size w c s S) (hr : (r : Int) ≤ 1048576) (hn : bd n) (hf : bd f) (ho : bd o) (g : ¬ (r : Int) ≤ 4096) :
    Calls Try.prog 11 #[.agg #[.slice a r cap, .slice b q dap, .slice c s eap, .int .i64 n, .int .i64 f, .int .i64 o]] w fun e w' => e = .returned (.bool false) ∧ Below w.heap.size w w' := by
  clear hP hQ hS hn hf ho hr
  have g1 : (4096 : Int) < (r : Int) := by omega
  have g2 : 4096 < r := by omega
  clear g
  obtain ⟨WA, hWA⟩ : ∃ WA, w.alloc (.cells #[.slice a r cap, .slice b q dap, .slice c s eap, .int .i64 n, .int .i64 f, .int .i64 o] 30) = WA := ⟨_, rfl⟩
  have nWA : Below w.heap.size w WA := hWA ▸ (Below.refl _ _).alloc (Nat.le_refl _) _
  have mWA : BoxV6 WA w.heap.size (.slice a r cap) (.slice b q dap) (.slice c s eap) (.int .i64 n) (.int .i64 f) (.int .i64 o) := hWA ▸ boxV6_new _ _ _ _ _ _ _ _
  have BL := hide nWA
  have KA := hide mWA
  clear nWA mWA
  obtain ⟨-, cA0, cA1, cA2, cA3, cA4, cA5⟩ := KA.out
  go_enter Try.func11, Try.ntmps11
  go_wp2_with fail
  go_ret
  exact ⟨rfl, BL.out⟩
set_option maxHeartbeats 1000000 in
theorem sOpt_len2 (a b c : Option Addr) (r q s cap dap eap : Nat) (P Q S : Nat → Int) (n f o : Int) (w : World) (hP : Ints w.heap.size w a r P) (hQ : Ints w.heap.size w b q Q) (hS : Ints w.heap.size w c s S) (hr : (r : Int) ≤ 1048576) (hn : bd n) (hf : bd f) (ho : bd o) (r4 : (r : Int) ≤ 4096) (g : ¬ q = r) :
    Calls Try.prog 11 #[.agg #[.slice a r cap, .slice b q dap, .slice c s eap, .int .i64 n, .int .i64 f, .int .i64 o]] w fun e w' => e = .returned (.bool false) ∧ Below w.heap.size w w' := by
  clear hP hQ hS hn hf ho hr
  have g0 : decide ((4096 : Int) < (r : Int)) = false := decide_eq_false (by omega)
  have gN : decide (4096 < r) = false := decide_eq_false (by omega)
  have g1 : ¬ (q : Int) = (r : Int) := by omega
  clear r4
  obtain ⟨WA, hWA⟩ : ∃ WA, w.alloc (.cells #[.slice a r cap, .slice b q dap, .slice c s eap, .int .i64 n, .int .i64 f, .int .i64 o] 30) = WA := ⟨_, rfl⟩
  have nWA : Below w.heap.size w WA := hWA ▸ (Below.refl _ _).alloc (Nat.le_refl _) _
  have mWA : BoxV6 WA w.heap.size (.slice a r cap) (.slice b q dap) (.slice c s eap) (.int .i64 n) (.int .i64 f) (.int .i64 o) := hWA ▸ boxV6_new _ _ _ _ _ _ _ _
  have BL := hide nWA
  have KA := hide mWA
  clear nWA mWA
  obtain ⟨-, cA0, cA1, cA2, cA3, cA4, cA5⟩ := KA.out
  go_enter Try.func11, Try.ntmps11
  go_wp2_with fail
  go_ret
  exact ⟨rfl, BL.out⟩
set_option maxHeartbeats 1000000 in
theorem sOpt_len3 (a b c : Option Addr) (r s cap dap eap : Nat) (P Q S : Nat → Int) (n f o : Int) (w : World) (hP : Ints w.heap.size w a r P) (hQ : Ints w.heap.size w b r Q) (hS : Ints w.heap.size w c s S) (hr : (r : Int) ≤ 1048576) (hn : bd n) (hf : bd f) (ho : bd o) (r4 : (r : Int) ≤ 4096) (g : ¬ s = r) :
    Calls Try.prog 11 #[.agg #[.slice a r cap, .slice b r dap, .slice c s eap, .int .i64 n, .int .i64 f, .int .i64 o]] w fun e w' => e = .returned (.bool false) ∧ Below w.heap.size w w' := by
  clear hP hQ hS hn hf ho hr
  have g0 : decide ((4096 : Int) < (r : Int)) = false := decide_eq_false (by omega)
  have gN : decide (4096 < r) = false := decide_eq_false (by omega)
  have g1 : ¬ (s : Int) = (r : Int) := by omega
  clear r4
  obtain ⟨WA, hWA⟩ : ∃ WA, w.alloc (.cells #[.slice a r cap, .slice b r dap, .slice c s eap, .int .i64 n, .int .i64 f, .int .i64 o] 30) = WA := ⟨_, rfl⟩
  have nWA : Below w.heap.size w WA := hWA ▸ (Below.refl _ _).alloc (Nat.le_refl _) _
  have mWA : BoxV6 WA w.heap.size (.slice a r cap) (.slice b r dap) (.slice c s eap) (.int .i64 n) (.int .i64 f) (.int .i64 o) := hWA ▸ boxV6_new _ _ _ _ _ _ _ _
  have BL := hide nWA
  have KA := hide mWA
  clear nWA mWA
  obtain ⟨-, cA0, cA1, cA2, cA3, cA4, cA5⟩ := KA.out
  go_enter Try.func11, Try.ntmps11
  go_wp2_with fail
  go_ret
  exact ⟨rfl, BL.out⟩
set_option maxHeartbeats 1000000 in
theorem sOpt_no1 (a b c : Option Addr) (r cap dap eap : Nat) (P Q S : Nat → Int) (n f o : Int) (w : World) (hP : Ints w.heap.size w a r P) (hQ : Ints w.heap.size w b r Q) (hS : Ints w.heap.size w c r S) (hr : (r : Int) ≤ 1048576) (hn : bd n) (hf : bd f) (ho : bd o) (r4 : (r : Int) ≤ 4096)  (g1 : decide (0 ≤ n ∧ n ≤ 1000000) = false) :
    Calls Try.prog 11 #[.agg #[.slice a r cap, .slice b r dap, .slice c r eap, .int .i64 n, .int .i64 f, .int .i64 o]] w fun e w' => e = .returned (.bool false) ∧ Below w.heap.size w w' := by
  have HP := hide hP
  have HQ := hide hQ
  have HS := hide hS
  have Hn := hide hn
  have Hf := hide hf
  have Ho := hide ho
  clear hP hQ hS hn hf ho
  have g0 : decide ((4096 : Int) < (r : Int)) = false := decide_eq_false (by omega)
  have gN : decide (4096 < r) = false := decide_eq_false (by omega)
  have G1 := hide g1
  clear g1
  obtain ⟨WA, hWA⟩ : ∃ WA, w.alloc (.cells #[.slice a r cap, .slice b r dap, .slice c r eap, .int .i64 n, .int .i64 f, .int .i64 o] 30) = WA := ⟨_, rfl⟩
  have nWA : Below w.heap.size w WA := hWA ▸ (Below.refl _ _).alloc (Nat.le_refl _) _
  have mWA : BoxV6 WA w.heap.size (.slice a r cap) (.slice b r dap) (.slice c r eap) (.int .i64 n) (.int .i64 f) (.int .i64 o) := hWA ▸ boxV6_new _ _ _ _ _ _ _ _
  have BL := hide nWA
  have KA := hide mWA
  clear nWA mWA
  obtain ⟨-, cA0, cA1, cA2, cA3, cA4, cA5⟩ := KA.out
  go_enter Try.func11, Try.ntmps11
  go_wp2_with fail
  refine (gInS n 0 1000000 false G1.out _).mono ?_
  rintro e1 w1 ⟨rfl, q1⟩
  replace KA := hide (KA.out.below q1)
  clear cA0 cA1 cA2 cA3 cA4 cA5
  obtain ⟨-, cA0, cA1, cA2, cA3, cA4, cA5⟩ := KA.out
  replace BL := hide (BL.out.trans (q1.mono BL.out.size))
  clear q1
  go_wp2_with fail
  go_ret
  exact ⟨rfl, BL.out⟩
set_option maxHeartbeats 1000000 in
theorem sOpt_no2 (a b c : Option Addr) (r cap dap eap : Nat) (P Q S : Nat → Int) (n f o : Int) (w : World) (hP : Ints w.heap.size w a r P) (hQ : Ints w.heap.size w b r Q) (hS : Ints w.heap.size w c r S) (hr : (r : Int) ≤ 1048576) (hn : bd n) (hf : bd f) (ho : bd o) (r4 : (r : Int) ≤ 4096)  (g1 : decide (0 ≤ n ∧ n ≤ 1000000) = true) (g2 : decide (0 ≤ o ∧ o ≤ 1000000) = false) :
    Calls Try.prog 11 #[.agg #[.slice a r cap, .slice b r dap, .slice c r eap, .int .i64 n, .int .i64 f, .int .i64 o]] w fun e w' => e = .returned (.bool false) ∧ Below w.heap.size w w' := by
  have HP := hide hP
  have HQ := hide hQ
  have HS := hide hS
  have Hn := hide hn
  have Hf := hide hf
  have Ho := hide ho
  clear hP hQ hS hn hf ho
  have g0 : decide ((4096 : Int) < (r : Int)) = false := decide_eq_false (by omega)
  have gN : decide (4096 < r) = false := decide_eq_false (by omega)
  have G1 := hide g1
  have G2 := hide g2
  clear g1 g2
  obtain ⟨WA, hWA⟩ : ∃ WA, w.alloc (.cells #[.slice a r cap, .slice b r dap, .slice c r eap, .int .i64 n, .int .i64 f, .int .i64 o] 30) = WA := ⟨_, rfl⟩
  have nWA : Below w.heap.size w WA := hWA ▸ (Below.refl _ _).alloc (Nat.le_refl _) _
  have mWA : BoxV6 WA w.heap.size (.slice a r cap) (.slice b r dap) (.slice c r eap) (.int .i64 n) (.int .i64 f) (.int .i64 o) := hWA ▸ boxV6_new _ _ _ _ _ _ _ _
  have BL := hide nWA
  have KA := hide mWA
  clear nWA mWA
  obtain ⟨-, cA0, cA1, cA2, cA3, cA4, cA5⟩ := KA.out
  go_enter Try.func11, Try.ntmps11
  go_wp2_with fail
  refine (gInS n 0 1000000 true G1.out _).mono ?_
  rintro e1 w1 ⟨rfl, q1⟩
  replace KA := hide (KA.out.below q1)
  clear cA0 cA1 cA2 cA3 cA4 cA5
  obtain ⟨-, cA0, cA1, cA2, cA3, cA4, cA5⟩ := KA.out
  replace BL := hide (BL.out.trans (q1.mono BL.out.size))
  clear q1
  go_wp2_with fail
  refine (gInS o 0 1000000 false G2.out _).mono ?_
  rintro e1 w2 ⟨rfl, q2⟩
  replace KA := hide (KA.out.below q2)
  clear cA0 cA1 cA2 cA3 cA4 cA5
  obtain ⟨-, cA0, cA1, cA2, cA3, cA4, cA5⟩ := KA.out
  replace BL := hide (BL.out.trans (q2.mono BL.out.size))
  clear q2
  go_wp2_with fail
  go_ret
  exact ⟨rfl, BL.out⟩
set_option maxHeartbeats 1000000 in
theorem sOpt_yes (a b c : Option Addr) (r cap dap eap : Nat) (P Q S : Nat → Int) (n f o : Int) (w : World) (hP : Ints w.heap.size w a r P) (hQ : Ints w.heap.size w b r Q) (hS : Ints w.heap.size w c r S) (hr : (r : Int) ≤ 1048576) (hn : bd n) (hf : bd f) (ho : bd o) (r4 : (r : Int) ≤ 4096)  (g1 : decide (0 ≤ n ∧ n ≤ 1000000) = true) (g2 : decide (0 ≤ o ∧ o ≤ 1000000) = true) :
    Calls Try.prog 11 #[.agg #[.slice a r cap, .slice b r dap, .slice c r eap, .int .i64 n, .int .i64 f, .int .i64 o]] w fun e w' => e = .returned (.bool (ook r r r P Q S n f o)) ∧ Below w.heap.size w w' := by
  have R4 := hide r4
  have HP := hide hP
  have HQ := hide hQ
  have HS := hide hS
  have Hn := hide hn
  have Hf := hide hf
  have Ho := hide ho
  clear hP hQ hS hn hf ho
  have g0 : decide ((4096 : Int) < (r : Int)) = false := decide_eq_false (by omega)
  have gN : decide (4096 < r) = false := decide_eq_false (by omega)
  have G1 := hide g1
  have G2 := hide g2
  clear g1 g2
  obtain ⟨WA, hWA⟩ : ∃ WA, w.alloc (.cells #[.slice a r cap, .slice b r dap, .slice c r eap, .int .i64 n, .int .i64 f, .int .i64 o] 30) = WA := ⟨_, rfl⟩
  have nWA : Below w.heap.size w WA := hWA ▸ (Below.refl _ _).alloc (Nat.le_refl _) _
  have mWA : BoxV6 WA w.heap.size (.slice a r cap) (.slice b r dap) (.slice c r eap) (.int .i64 n) (.int .i64 f) (.int .i64 o) := hWA ▸ boxV6_new _ _ _ _ _ _ _ _
  have BL := hide nWA
  have KA := hide mWA
  clear nWA mWA
  obtain ⟨-, cA0, cA1, cA2, cA3, cA4, cA5⟩ := KA.out
  go_enter Try.func11, Try.ntmps11
  go_wp2_with fail
  refine (gInS n 0 1000000 true G1.out _).mono ?_
  rintro e1 w1 ⟨rfl, q1⟩
  replace KA := hide (KA.out.below q1)
  clear cA0 cA1 cA2 cA3 cA4 cA5
  obtain ⟨-, cA0, cA1, cA2, cA3, cA4, cA5⟩ := KA.out
  replace BL := hide (BL.out.trans (q1.mono BL.out.size))
  clear q1
  go_wp2_with fail
  refine (gInS o 0 1000000 true G2.out _).mono ?_
  rintro e1 w2 ⟨rfl, q2⟩
  replace KA := hide (KA.out.below q2)
  clear cA0 cA1 cA2 cA3 cA4 cA5
  obtain ⟨-, cA0, cA1, cA2, cA3, cA4, cA5⟩ := KA.out
  replace BL := hide (BL.out.trans (q2.mono BL.out.size))
  clear q2
  have BW := BL
  clear BL
  go_wp2_with fail
  go_loopw [3] (fun i wx => ∃ k : Nat, k ≤ r ∧ i = .int .i64 k ∧ OIn k P Q S ∧ wx = w2) (fun i _ => r - (intOf i).toNat)
  case atStart => exact ⟨0, Nat.zero_le _, rfl, fun j hj => by omega, rfl⟩
  case round =>
    obtain ⟨k, hk, rfl, hall, hw2⟩ := hrel
    have hw2 := hw2.symm
    subst hw2
    have HA := hide hall
    clear hall
    by_cases hlt : k < r
    · have kI : (k : Int) < (r : Int) := by omega
      obtain hz | ⟨b1, o1, rfl, -, hc1⟩ := HP.out.below BW.out
      · omega
      obtain hz | ⟨b2, o2, rfl, -, hc2⟩ := HQ.out.below BW.out
      · omega
      obtain hz | ⟨b3, o3, rfl, -, hc3⟩ := HS.out.below BW.out
      · omega
      have c1 := (hc1 k hlt).1
      have c2 := (hc2 k hlt).1
      have c3 := (hc3 k hlt).1
      clear hc1 hc2 hc3
      cases q1 : decide (-68719476736 ≤ P k ∧ P k ≤ 68719476736)
      · have E := hide (show ook r r r P Q S n f o = false from decide_eq_false (fun h => of_decide_eq_false q1 (h.2.2.2.2.2.1 k hlt).1))
        have C1 := hide (fun w => gInE (P k) (-68719476736) 68719476736 false q1 w)
        clear q1
        go_wp2_with fail
        refine (C1.out _).mono ?_
        rintro e1 w3 ⟨rfl, hq⟩; have hq := hq.symm; subst hq
        go_wp2_with fail
        go_ret
        exact ⟨ret_bool E.out.symm, BW.out⟩
      cases q2 : decide (-4294967296 ≤ Q k ∧ Q k ≤ 4294967296)
      · have E := hide (show ook r r r P Q S n f o = false from decide_eq_false (fun h => of_decide_eq_false q2 (h.2.2.2.2.2.1 k hlt).2.1))
        have C1 := hide (fun w => gInE (P k) (-68719476736) 68719476736 true q1 w)
        have C2 := hide (fun w => gInE (Q k) (-4294967296) 4294967296 false q2 w)
        clear q1 q2
        go_wp2_with fail
        refine (C1.out _).mono ?_
        rintro e1 w3 ⟨rfl, hq⟩; have hq := hq.symm; subst hq
        go_wp2_with fail
        refine (C2.out _).mono ?_
        rintro e1 w3 ⟨rfl, hq⟩; have hq := hq.symm; subst hq
        go_wp2_with fail
        go_ret
        exact ⟨ret_bool E.out.symm, BW.out⟩
      cases q3 : decide (0 ≤ S k ∧ S k ≤ 17179869184)
      · have E := hide (show ook r r r P Q S n f o = false from decide_eq_false (fun h => of_decide_eq_false q3 (h.2.2.2.2.2.1 k hlt).2.2))
        have C1 := hide (fun w => gInE (P k) (-68719476736) 68719476736 true q1 w)
        have C2 := hide (fun w => gInE (Q k) (-4294967296) 4294967296 true q2 w)
        have C3 := hide (fun w => gInE (S k) 0 17179869184 false q3 w)
        clear q1 q2 q3
        go_wp2_with fail
        refine (C1.out _).mono ?_
        rintro e1 w3 ⟨rfl, hq⟩; have hq := hq.symm; subst hq
        go_wp2_with fail
        refine (C2.out _).mono ?_
        rintro e1 w3 ⟨rfl, hq⟩; have hq := hq.symm; subst hq
        go_wp2_with fail
        refine (C3.out _).mono ?_
        rintro e1 w3 ⟨rfl, hq⟩; have hq := hq.symm; subst hq
        go_wp2_with fail
        go_ret
        exact ⟨ret_bool E.out.symm, BW.out⟩
      have C1 := hide (fun w => gInE (P k) (-68719476736) 68719476736 true q1 w)
      have C2 := hide (fun w => gInE (Q k) (-4294967296) 4294967296 true q2 w)
      have C3 := hide (fun w => gInE (S k) 0 17179869184 true q3 w)
      have NX := hide (show OIn (k + 1) P Q S from fun j hj => by
        by_cases ej : j = k
        · subst ej; exact ⟨of_decide_eq_true q1, of_decide_eq_true q2, of_decide_eq_true q3⟩
        · exact HA.out j (by omega))
      clear q1 q2 q3
      go_wp2_with fail
      refine (C1.out _).mono ?_
      rintro e1 w3 ⟨rfl, hq⟩; have hq := hq.symm; subst hq
      go_wp2_with fail
      refine (C2.out _).mono ?_
      rintro e1 w3 ⟨rfl, hq⟩; have hq := hq.symm; subst hq
      go_wp2_with fail
      refine (C3.out _).mono ?_
      rintro e1 w3 ⟨rfl, hq⟩; have hq := hq.symm; subst hq
      go_wp2_with fail
      go_roundw
      case rel => exact ⟨k + 1, by omega, by go_num, NX.out, trivial⟩
      case measure => simp [intOf]; omega
    · obtain rfl : k = r := by omega
      have lk : decide ((k : Int) < (k : Int)) = false := decide_eq_false (by omega)
      have VAL := hide (show ook k k k P Q S n f o = fac f by
        cases e : fac f
        · exact decide_eq_false (fun h => by have := h.2.2.2.2.2.2; rw [e] at this; exact absurd this Bool.false_ne_true)
        · exact decide_eq_true ⟨R4.out, rfl, rfl, of_decide_eq_true G1.out, of_decide_eq_true G2.out, HA.out, e⟩)
      clear HA hlt
      go_wp2_with fail
      go_loopw [4] (fun i wx => ∃ m : Nat, m ≤ 17 ∧ i = .int .i64 (2 ^ m) ∧ (∀ j, j < m → ¬ f = 2 ^ j) ∧ wx = w2) (fun i _ => (131072 - intOf i).toNat)
      case atStart => exact ⟨0, by omega, rfl, fun j hj => by omega, rfl⟩
      case round =>
        obtain ⟨m, hm, rfl, hall, hw2⟩ := hrel
        have hw2 := hw2.symm
        subst hw2
        obtain ⟨p1, p2, p3⟩ := pow17 m hm
        have NX : Hid ((2 : Int) ^ (m + 1) = 2 ^ m * 2) := hide (Int.pow_succ _ _)
        have NO := hide (fun (c : ¬ m ≤ 16) => show fac f = false from by
          cases e : fac f
          · rfl
          · obtain ⟨j, hj, ej⟩ := pow_pw e
            exact absurd ej (hall j (by omega)))
        have YES := hide (fun (c : m ≤ 16) (e : f = 2 ^ m) => show fac f = true from e ▸ pw_pow m c)
        have HA := hide hall
        clear hall
        obtain ⟨y, hy⟩ : ∃ y : Int, 2 ^ m = y := ⟨_, rfl⟩
        rw [hy] at p1 p2 p3 NX YES ⊢
        by_cases cm : m ≤ 16
        · have p4 : y ≤ 65536 := p3.2 cm
          clear p3
          by_cases ef : y = f
          · have E := hide (show ook k k k P Q S n f o = true by rw [VAL.out]; exact YES.out cm ef.symm)
            have ef' : (y == f) = true := beq_iff_eq.2 ef
            clear ef
            go_wp2_with fail
            go_ret
            exact ⟨ret_bool E.out.symm, BW.out⟩
          · have ef' : (y == f) = false := beq_eq_false_iff_ne.2 ef
            have R := hide (show ∀ j, j < m + 1 → ¬ f = 2 ^ j from fun j hj => by
              by_cases ej : j = m
              · subst ej; rw [hy]; exact fun h => ef h.symm
              · exact HA.out j (by omega))
            clear ef hy
            go_wp2_with fail
            go_roundw
            case rel => exact ⟨m + 1, by omega, by rw [NX.out], R.out, trivial⟩
            case measure => simp only [intOf]; omega
        · have p4 : decide (y ≤ 65536) = false := decide_eq_false (fun h => cm (p3.1 h))
          have E := hide (show ook k k k P Q S n f o = false by rw [VAL.out]; exact NO.out cm)
          clear p3 hy
          go_wp2_with fail
          go_ret
          exact ⟨ret_bool E.out.symm, BW.out⟩
theorem specOpt (a b c : Option Addr) (r q s cap dap eap : Nat) (P Q S : Nat → Int) (n f o : Int) (w : World) (hP : Ints w.heap.size w a r P) (hQ : Ints w.heap.size w b q Q) (hS : Ints w.heap.size w c s S) (hr : (r : Int) ≤ 1048576) (hn : bd n) (hf : bd f) (ho : bd o) (hq : (q : Int) ≤ 1048576) (hs : (s : Int) ≤ 1048576) :
    Calls Try.prog 11 #[.agg #[.slice a r cap, .slice b q dap, .slice c s eap, .int .i64 n, .int .i64 f, .int .i64 o]] w fun e w' => e = .returned (.bool (ook r q s P Q S n f o)) ∧ Below w.heap.size w w' := by
  by_cases l1 : ¬ (r : Int) ≤ 4096
  · rw [show ook r q s P Q S n f o = false from decide_eq_false (fun h => l1 h.1)]
    exact sOpt_len1 a b c r q s cap dap eap P Q S n f o w hP hQ hS hr hn hf ho l1
  replace l1 := Decidable.of_not_not l1
  by_cases l2 : ¬ q = r
  · rw [show ook r q s P Q S n f o = false from decide_eq_false (fun h => l2 h.2.1)]
    exact sOpt_len2 a b c r q s cap dap eap P Q S n f o w hP hQ hS hr hn hf ho l1 l2
  replace l2 := Decidable.of_not_not l2
  subst l2
  by_cases l3 : ¬ s = q
  · rw [show ook q q s P Q S n f o = false from decide_eq_false (fun h => l3 h.2.2.1)]
    exact sOpt_len3 a b c q s cap dap eap P Q S n f o w hP hQ hS hr hn hf ho l1 l3
  replace l3 := Decidable.of_not_not l3
  subst l3
  cases g1 : decide (0 ≤ n ∧ n ≤ 1000000)
  · rw [show ook s s s P Q S n f o = false from decide_eq_false (fun h => of_decide_eq_false g1 h.2.2.2.1)]
    exact sOpt_no1 a b c s cap dap eap P Q S n f o w hP hQ hS hr hn hf ho l1 g1
  cases g2 : decide (0 ≤ o ∧ o ≤ 1000000)
  · rw [show ook s s s P Q S n f o = false from decide_eq_false (fun h => of_decide_eq_false g2 h.2.2.2.2.1)]
    exact sOpt_no2 a b c s cap dap eap P Q S n f o w hP hQ hS hr hn hf ho l1 g1 g2
  exact sOpt_yes a b c s cap dap eap P Q S n f o w hP hQ hS hr hn hf ho l1 g1 g2
set_option maxHeartbeats 1000000 in
theorem iOpt_len1 (a b c : Option Addr) (r q s cap dap eap : Nat) (P Q S : Nat → Int) (n f o : Int) (w : World) (hP : Ints w.heap.size w a r P) (hQ : Ints w.heap.size w b q Q) (hS : Ints w.heap.size w c s S) (hr : (r : Int) ≤ 1048576) (hn : bd n) (hf : bd f) (ho : bd o) (g : ¬ (r : Int) ≤ 4096) :
    Calls Try.prog 7 #[.agg #[.slice a r cap, .slice b q dap, .slice c s eap, .int .i64 n, .int .i64 f, .int .i64 o]] w fun e w' => e = .returned (.bool false) ∧ Below w.heap.size w w' := by
  clear hP hQ hS hn hf ho hr
  have g1 : (4096 : Int) < (r : Int) := by omega
  have g2 : 4096 < r := by omega
  clear g
  obtain ⟨WA, hWA⟩ : ∃ WA, w.alloc (.cells #[.slice a r cap, .slice b q dap, .slice c s eap, .int .i64 n, .int .i64 f, .int .i64 o] 30) = WA := ⟨_, rfl⟩
  have nWA : Below w.heap.size w WA := hWA ▸ (Below.refl _ _).alloc (Nat.le_refl _) _
  have mWA : BoxV6 WA w.heap.size (.slice a r cap) (.slice b q dap) (.slice c s eap) (.int .i64 n) (.int .i64 f) (.int .i64 o) := hWA ▸ boxV6_new _ _ _ _ _ _ _ _
  have BL := hide nWA
  have KA := hide mWA
  clear nWA mWA
  obtain ⟨-, cA0, cA1, cA2, cA3, cA4, cA5⟩ := KA.out
  go_enter Try.func7, Try.ntmps7
  go_wp2_with fail
  go_ret
  exact ⟨rfl, BL.out⟩
set_option maxHeartbeats 1000000 in
theorem iOpt_len2 (a b c : Option Addr) (r q s cap dap eap : Nat) (P Q S : Nat → Int) (n f o : Int) (w : World) (hP : Ints w.heap.size w a r P) (hQ : Ints w.heap.size w b q Q) (hS : Ints w.heap.size w c s S) (hr : (r : Int) ≤ 1048576) (hn : bd n) (hf : bd f) (ho : bd o) (r4 : (r : Int) ≤ 4096) (g : ¬ q = r) :
    Calls Try.prog 7 #[.agg #[.slice a r cap, .slice b q dap, .slice c s eap, .int .i64 n, .int .i64 f, .int .i64 o]] w fun e w' => e = .returned (.bool false) ∧ Below w.heap.size w w' := by
  clear hP hQ hS hn hf ho hr
  have g0 : decide ((4096 : Int) < (r : Int)) = false := decide_eq_false (by omega)
  have gN : decide (4096 < r) = false := decide_eq_false (by omega)
  have g1 : ¬ (q : Int) = (r : Int) := by omega
  clear r4
  obtain ⟨WA, hWA⟩ : ∃ WA, w.alloc (.cells #[.slice a r cap, .slice b q dap, .slice c s eap, .int .i64 n, .int .i64 f, .int .i64 o] 30) = WA := ⟨_, rfl⟩
  have nWA : Below w.heap.size w WA := hWA ▸ (Below.refl _ _).alloc (Nat.le_refl _) _
  have mWA : BoxV6 WA w.heap.size (.slice a r cap) (.slice b q dap) (.slice c s eap) (.int .i64 n) (.int .i64 f) (.int .i64 o) := hWA ▸ boxV6_new _ _ _ _ _ _ _ _
  have BL := hide nWA
  have KA := hide mWA
  clear nWA mWA
  obtain ⟨-, cA0, cA1, cA2, cA3, cA4, cA5⟩ := KA.out
  go_enter Try.func7, Try.ntmps7
  go_wp2_with fail
  go_ret
  exact ⟨rfl, BL.out⟩
set_option maxHeartbeats 1000000 in
theorem iOpt_len3 (a b c : Option Addr) (r s cap dap eap : Nat) (P Q S : Nat → Int) (n f o : Int) (w : World) (hP : Ints w.heap.size w a r P) (hQ : Ints w.heap.size w b r Q) (hS : Ints w.heap.size w c s S) (hr : (r : Int) ≤ 1048576) (hn : bd n) (hf : bd f) (ho : bd o) (r4 : (r : Int) ≤ 4096) (g : ¬ s = r) :
    Calls Try.prog 7 #[.agg #[.slice a r cap, .slice b r dap, .slice c s eap, .int .i64 n, .int .i64 f, .int .i64 o]] w fun e w' => e = .returned (.bool false) ∧ Below w.heap.size w w' := by
  clear hP hQ hS hn hf ho hr
  have g0 : decide ((4096 : Int) < (r : Int)) = false := decide_eq_false (by omega)
  have gN : decide (4096 < r) = false := decide_eq_false (by omega)
  have g1 : ¬ (s : Int) = (r : Int) := by omega
  clear r4
  obtain ⟨WA, hWA⟩ : ∃ WA, w.alloc (.cells #[.slice a r cap, .slice b r dap, .slice c s eap, .int .i64 n, .int .i64 f, .int .i64 o] 30) = WA := ⟨_, rfl⟩
  have nWA : Below w.heap.size w WA := hWA ▸ (Below.refl _ _).alloc (Nat.le_refl _) _
  have mWA : BoxV6 WA w.heap.size (.slice a r cap) (.slice b r dap) (.slice c s eap) (.int .i64 n) (.int .i64 f) (.int .i64 o) := hWA ▸ boxV6_new _ _ _ _ _ _ _ _
  have BL := hide nWA
  have KA := hide mWA
  clear nWA mWA
  obtain ⟨-, cA0, cA1, cA2, cA3, cA4, cA5⟩ := KA.out
  go_enter Try.func7, Try.ntmps7
  go_wp2_with fail
  go_ret
  exact ⟨rfl, BL.out⟩
theorem gIb (l m : Int) (s : Nat) (S : Nat → Int) (a : Option Addr) (cap : Nat) (b : Bool) (w : World) {B : Nat} (hB : B ≤ w.heap.size) (h : Ints B w a s S) (hs : (s : Int) ≤ 1048576) (hl : l ≤ m) (hb : ib l m s S = b) :
    Calls Try.prog 22 #[.int .i64 l, .int .i64 m, .slice a s cap] w fun e w' => e = .returned (.bool b) ∧ Below w.heap.size w w' := by
  rw [← hb]; exact inBoundsF B a s cap S l m w hl hB h hs
set_option maxHeartbeats 1000000 in
theorem iOpt_no1 (a b c : Option Addr) (r cap dap eap : Nat) (P Q S : Nat → Int) (n f o : Int) (w : World) (hP : Ints w.heap.size w a r P) (hQ : Ints w.heap.size w b r Q) (hS : Ints w.heap.size w c r S) (hr : (r : Int) ≤ 1048576) (hn : bd n) (hf : bd f) (ho : bd o) (r4 : (r : Int) ≤ 4096)  (g1 : ib (-68719476736) 68719476736 r P = false) :
    Calls Try.prog 7 #[.agg #[.slice a r cap, .slice b r dap, .slice c r eap, .int .i64 n, .int .i64 f, .int .i64 o]] w fun e w' => e = .returned (.bool false) ∧ Below w.heap.size w w' := by
  have HP := hide hP
  have HQ := hide hQ
  have HS := hide hS
  have Hn := hide hn
  have Hf := hide hf
  have Ho := hide ho
  clear hP hQ hS hn hf ho
  have g0 : decide ((4096 : Int) < (r : Int)) = false := decide_eq_false (by omega)
  have gN : decide (4096 < r) = false := decide_eq_false (by omega)
  have G1 := hide g1
  clear g1
  obtain ⟨WA, hWA⟩ : ∃ WA, w.alloc (.cells #[.slice a r cap, .slice b r dap, .slice c r eap, .int .i64 n, .int .i64 f, .int .i64 o] 30) = WA := ⟨_, rfl⟩
  have nWA : Below w.heap.size w WA := hWA ▸ (Below.refl _ _).alloc (Nat.le_refl _) _
  have mWA : BoxV6 WA w.heap.size (.slice a r cap) (.slice b r dap) (.slice c r eap) (.int .i64 n) (.int .i64 f) (.int .i64 o) := hWA ▸ boxV6_new _ _ _ _ _ _ _ _
  have BL := hide nWA
  have KA := hide mWA
  clear nWA mWA
  obtain ⟨-, cA0, cA1, cA2, cA3, cA4, cA5⟩ := KA.out
  go_enter Try.func7, Try.ntmps7
  go_wp2_with fail
  refine (gIb (-68719476736) 68719476736 r P a cap false _ (BL.out.size) (HP.out.below BL.out) (by omega) (by decide) G1.out).mono ?_
  rintro e1 w1 ⟨rfl, q1⟩
  replace KA := hide (KA.out.below q1)
  clear cA0 cA1 cA2 cA3 cA4 cA5
  obtain ⟨-, cA0, cA1, cA2, cA3, cA4, cA5⟩ := KA.out
  replace BL := hide (BL.out.trans (q1.mono BL.out.size))
  clear q1
  go_wp2_with fail
  go_ret
  exact ⟨rfl, BL.out⟩
set_option maxHeartbeats 1000000 in
theorem iOpt_no2 (a b c : Option Addr) (r cap dap eap : Nat) (P Q S : Nat → Int) (n f o : Int) (w : World) (hP : Ints w.heap.size w a r P) (hQ : Ints w.heap.size w b r Q) (hS : Ints w.heap.size w c r S) (hr : (r : Int) ≤ 1048576) (hn : bd n) (hf : bd f) (ho : bd o) (r4 : (r : Int) ≤ 4096)  (g1 : ib (-68719476736) 68719476736 r P = true) (g2 : ib (-4294967296) 4294967296 r Q = false) :
    Calls Try.prog 7 #[.agg #[.slice a r cap, .slice b r dap, .slice c r eap, .int .i64 n, .int .i64 f, .int .i64 o]] w fun e w' => e = .returned (.bool false) ∧ Below w.heap.size w w' := by
  have HP := hide hP
  have HQ := hide hQ
  have HS := hide hS
  have Hn := hide hn
  have Hf := hide hf
  have Ho := hide ho
  clear hP hQ hS hn hf ho
  have g0 : decide ((4096 : Int) < (r : Int)) = false := decide_eq_false (by omega)
  have gN : decide (4096 < r) = false := decide_eq_false (by omega)
  have G1 := hide g1
  have G2 := hide g2
  clear g1 g2
  obtain ⟨WA, hWA⟩ : ∃ WA, w.alloc (.cells #[.slice a r cap, .slice b r dap, .slice c r eap, .int .i64 n, .int .i64 f, .int .i64 o] 30) = WA := ⟨_, rfl⟩
  have nWA : Below w.heap.size w WA := hWA ▸ (Below.refl _ _).alloc (Nat.le_refl _) _
  have mWA : BoxV6 WA w.heap.size (.slice a r cap) (.slice b r dap) (.slice c r eap) (.int .i64 n) (.int .i64 f) (.int .i64 o) := hWA ▸ boxV6_new _ _ _ _ _ _ _ _
  have BL := hide nWA
  have KA := hide mWA
  clear nWA mWA
  obtain ⟨-, cA0, cA1, cA2, cA3, cA4, cA5⟩ := KA.out
  go_enter Try.func7, Try.ntmps7
  go_wp2_with fail
  refine (gIb (-68719476736) 68719476736 r P a cap true _ (BL.out.size) (HP.out.below BL.out) (by omega) (by decide) G1.out).mono ?_
  rintro e1 w1 ⟨rfl, q1⟩
  replace KA := hide (KA.out.below q1)
  clear cA0 cA1 cA2 cA3 cA4 cA5
  obtain ⟨-, cA0, cA1, cA2, cA3, cA4, cA5⟩ := KA.out
  replace BL := hide (BL.out.trans (q1.mono BL.out.size))
  clear q1
  go_wp2_with fail
  refine (gIb (-4294967296) 4294967296 r Q b dap false _ (BL.out.size) (HQ.out.below BL.out) (by omega) (by decide) G2.out).mono ?_
  rintro e1 w2 ⟨rfl, q2⟩
  replace KA := hide (KA.out.below q2)
  clear cA0 cA1 cA2 cA3 cA4 cA5
  obtain ⟨-, cA0, cA1, cA2, cA3, cA4, cA5⟩ := KA.out
  replace BL := hide (BL.out.trans (q2.mono BL.out.size))
  clear q2
  go_wp2_with fail
  go_ret
  exact ⟨rfl, BL.out⟩
set_option maxHeartbeats 1000000 in
theorem iOpt_no3 (a b c : Option Addr) (r cap dap eap : Nat) (P Q S : Nat → Int) (n f o : Int) (w : World) (hP : Ints w.heap.size w a r P) (hQ : Ints w.heap.size w b r Q) (hS : Ints w.heap.size w c r S) (hr : (r : Int) ≤ 1048576) (hn : bd n) (hf : bd f) (ho : bd o) (r4 : (r : Int) ≤ 4096)  (g1 : ib (-68719476736) 68719476736 r P = true) (g2 : ib (-4294967296) 4294967296 r Q = true) (g3 : ib (0) 17179869184 r S = false) :
    Calls Try.prog 7 #[.agg #[.slice a r cap, .slice b r dap, .slice c r eap, .int .i64 n, .int .i64 f, .int .i64 o]] w fun e w' => e = .returned (.bool false) ∧ Below w.heap.size w w' := by
  have HP := hide hP
  have HQ := hide hQ
  have HS := hide hS
  have Hn := hide hn
  have Hf := hide hf
  have Ho := hide ho
  clear hP hQ hS hn hf ho
  have g0 : decide ((4096 : Int) < (r : Int)) = false := decide_eq_false (by omega)
  have gN : decide (4096 < r) = false := decide_eq_false (by omega)
  have G1 := hide g1
  have G2 := hide g2
  have G3 := hide g3
  clear g1 g2 g3
  obtain ⟨WA, hWA⟩ : ∃ WA, w.alloc (.cells #[.slice a r cap, .slice b r dap, .slice c r eap, .int .i64 n, .int .i64 f, .int .i64 o] 30) = WA := ⟨_, rfl⟩
  have nWA : Below w.heap.size w WA := hWA ▸ (Below.refl _ _).alloc (Nat.le_refl _) _
  have mWA : BoxV6 WA w.heap.size (.slice a r cap) (.slice b r dap) (.slice c r eap) (.int .i64 n) (.int .i64 f) (.int .i64 o) := hWA ▸ boxV6_new _ _ _ _ _ _ _ _
  have BL := hide nWA
  have KA := hide mWA
  clear nWA mWA
  obtain ⟨-, cA0, cA1, cA2, cA3, cA4, cA5⟩ := KA.out
  go_enter Try.func7, Try.ntmps7
  go_wp2_with fail
  refine (gIb (-68719476736) 68719476736 r P a cap true _ (BL.out.size) (HP.out.below BL.out) (by omega) (by decide) G1.out).mono ?_
  rintro e1 w1 ⟨rfl, q1⟩
  replace KA := hide (KA.out.below q1)
  clear cA0 cA1 cA2 cA3 cA4 cA5
  obtain ⟨-, cA0, cA1, cA2, cA3, cA4, cA5⟩ := KA.out
  replace BL := hide (BL.out.trans (q1.mono BL.out.size))
  clear q1
  go_wp2_with fail
  refine (gIb (-4294967296) 4294967296 r Q b dap true _ (BL.out.size) (HQ.out.below BL.out) (by omega) (by decide) G2.out).mono ?_
  rintro e1 w2 ⟨rfl, q2⟩
  replace KA := hide (KA.out.below q2)
  clear cA0 cA1 cA2 cA3 cA4 cA5
  obtain ⟨-, cA0, cA1, cA2, cA3, cA4, cA5⟩ := KA.out
  replace BL := hide (BL.out.trans (q2.mono BL.out.size))
  clear q2
  go_wp2_with fail
  refine (gIb (0) 17179869184 r S c eap false _ (BL.out.size) (HS.out.below BL.out) (by omega) (by decide) G3.out).mono ?_
  rintro e1 w3 ⟨rfl, q3⟩
  replace KA := hide (KA.out.below q3)
  clear cA0 cA1 cA2 cA3 cA4 cA5
  obtain ⟨-, cA0, cA1, cA2, cA3, cA4, cA5⟩ := KA.out
  replace BL := hide (BL.out.trans (q3.mono BL.out.size))
  clear q3
  go_wp2_with fail
  go_ret
  exact ⟨rfl, BL.out⟩
set_option maxHeartbeats 1000000 in
theorem iOpt_no4 (a b c : Option Addr) (r cap dap eap : Nat) (P Q S : Nat → Int) (n f o : Int) (w : World) (hP : Ints w.heap.size w a r P) (hQ : Ints w.heap.size w b r Q) (hS : Ints w.heap.size w c r S) (hr : (r : Int) ≤ 1048576) (hn : bd n) (hf : bd f) (ho : bd o) (r4 : (r : Int) ≤ 4096)  (g1 : ib (-68719476736) 68719476736 r P = true) (g2 : ib (-4294967296) 4294967296 r Q = true) (g3 : ib (0) 17179869184 r S = true) (g4 : decide ((0 ≤ n ∧ n ≤ 1000000) ∧ (0 ≤ o ∧ o ≤ 1000000)) = false) :
    Calls Try.prog 7 #[.agg #[.slice a r cap, .slice b r dap, .slice c r eap, .int .i64 n, .int .i64 f, .int .i64 o]] w fun e w' => e = .returned (.bool false) ∧ Below w.heap.size w w' := by
  have HP := hide hP
  have HQ := hide hQ
  have HS := hide hS
  have Hn := hide hn
  have Hf := hide hf
  have Ho := hide ho
  clear hP hQ hS hn hf ho
  have g0 : decide ((4096 : Int) < (r : Int)) = false := decide_eq_false (by omega)
  have gN : decide (4096 < r) = false := decide_eq_false (by omega)
  have G1 := hide g1
  have G2 := hide g2
  have G3 := hide g3
  have G4 := hide g4
  clear g1 g2 g3 g4
  obtain ⟨WA, hWA⟩ : ∃ WA, w.alloc (.cells #[.slice a r cap, .slice b r dap, .slice c r eap, .int .i64 n, .int .i64 f, .int .i64 o] 30) = WA := ⟨_, rfl⟩
  have nWA : Below w.heap.size w WA := hWA ▸ (Below.refl _ _).alloc (Nat.le_refl _) _
  have mWA : BoxV6 WA w.heap.size (.slice a r cap) (.slice b r dap) (.slice c r eap) (.int .i64 n) (.int .i64 f) (.int .i64 o) := hWA ▸ boxV6_new _ _ _ _ _ _ _ _
  have BL := hide nWA
  have KA := hide mWA
  clear nWA mWA
  obtain ⟨-, cA0, cA1, cA2, cA3, cA4, cA5⟩ := KA.out
  go_enter Try.func7, Try.ntmps7
  go_wp2_with fail
  refine (gIb (-68719476736) 68719476736 r P a cap true _ (BL.out.size) (HP.out.below BL.out) (by omega) (by decide) G1.out).mono ?_
  rintro e1 w1 ⟨rfl, q1⟩
  replace KA := hide (KA.out.below q1)
  clear cA0 cA1 cA2 cA3 cA4 cA5
  obtain ⟨-, cA0, cA1, cA2, cA3, cA4, cA5⟩ := KA.out
  replace BL := hide (BL.out.trans (q1.mono BL.out.size))
  clear q1
  go_wp2_with fail
  refine (gIb (-4294967296) 4294967296 r Q b dap true _ (BL.out.size) (HQ.out.below BL.out) (by omega) (by decide) G2.out).mono ?_
  rintro e1 w2 ⟨rfl, q2⟩
  replace KA := hide (KA.out.below q2)
  clear cA0 cA1 cA2 cA3 cA4 cA5
  obtain ⟨-, cA0, cA1, cA2, cA3, cA4, cA5⟩ := KA.out
  replace BL := hide (BL.out.trans (q2.mono BL.out.size))
  clear q2
  go_wp2_with fail
  refine (gIb (0) 17179869184 r S c eap true _ (BL.out.size) (HS.out.below BL.out) (by omega) (by decide) G3.out).mono ?_
  rintro e1 w3 ⟨rfl, q3⟩
  replace KA := hide (KA.out.below q3)
  clear cA0 cA1 cA2 cA3 cA4 cA5
  obtain ⟨-, cA0, cA1, cA2, cA3, cA4, cA5⟩ := KA.out
  replace BL := hide (BL.out.trans (q3.mono BL.out.size))
  clear q3
  go_wp2_with fail
  refine (steps_two n o false _ _ Hn.out Ho.out G4.out rfl).mono ?_
  rintro e1 w4 ⟨rfl, q4⟩
  replace KA := hide (KA.out.below q4)
  clear cA0 cA1 cA2 cA3 cA4 cA5
  obtain ⟨-, cA0, cA1, cA2, cA3, cA4, cA5⟩ := KA.out
  replace BL := hide (BL.out.trans (q4.mono BL.out.size))
  clear q4
  go_wp2_with fail
  go_ret
  exact ⟨rfl, BL.out⟩
set_option maxHeartbeats 1000000 in
theorem iOpt_no5 (a b c : Option Addr) (r cap dap eap : Nat) (P Q S : Nat → Int) (n f o : Int) (w : World) (hP : Ints w.heap.size w a r P) (hQ : Ints w.heap.size w b r Q) (hS : Ints w.heap.size w c r S) (hr : (r : Int) ≤ 1048576) (hn : bd n) (hf : bd f) (ho : bd o) (r4 : (r : Int) ≤ 4096)  (g1 : ib (-68719476736) 68719476736 r P = true) (g2 : ib (-4294967296) 4294967296 r Q = true) (g3 : ib (0) 17179869184 r S = true) (g4 : decide ((0 ≤ n ∧ n ≤ 1000000) ∧ (0 ≤ o ∧ o ≤ 1000000)) = true) (g5 : fac f = false) :
    Calls Try.prog 7 #[.agg #[.slice a r cap, .slice b r dap, .slice c r eap, .int .i64 n, .int .i64 f, .int .i64 o]] w fun e w' => e = .returned (.bool false) ∧ Below w.heap.size w w' := by
  have HP := hide hP
  have HQ := hide hQ
  have HS := hide hS
  have Hn := hide hn
  have Hf := hide hf
  have Ho := hide ho
  clear hP hQ hS hn hf ho
  have g0 : decide ((4096 : Int) < (r : Int)) = false := decide_eq_false (by omega)
  have gN : decide (4096 < r) = false := decide_eq_false (by omega)
  have G1 := hide g1
  have G2 := hide g2
  have G3 := hide g3
  have G4 := hide g4
  have G5 := hide g5
  clear g1 g2 g3 g4 g5
  obtain ⟨WA, hWA⟩ : ∃ WA, w.alloc (.cells #[.slice a r cap, .slice b r dap, .slice c r eap, .int .i64 n, .int .i64 f, .int .i64 o] 30) = WA := ⟨_, rfl⟩
  have nWA : Below w.heap.size w WA := hWA ▸ (Below.refl _ _).alloc (Nat.le_refl _) _
  have mWA : BoxV6 WA w.heap.size (.slice a r cap) (.slice b r dap) (.slice c r eap) (.int .i64 n) (.int .i64 f) (.int .i64 o) := hWA ▸ boxV6_new _ _ _ _ _ _ _ _
  have BL := hide nWA
  have KA := hide mWA
  clear nWA mWA
  obtain ⟨-, cA0, cA1, cA2, cA3, cA4, cA5⟩ := KA.out
  go_enter Try.func7, Try.ntmps7
  go_wp2_with fail
  refine (gIb (-68719476736) 68719476736 r P a cap true _ (BL.out.size) (HP.out.below BL.out) (by omega) (by decide) G1.out).mono ?_
  rintro e1 w1 ⟨rfl, q1⟩
  replace KA := hide (KA.out.below q1)
  clear cA0 cA1 cA2 cA3 cA4 cA5
  obtain ⟨-, cA0, cA1, cA2, cA3, cA4, cA5⟩ := KA.out
  replace BL := hide (BL.out.trans (q1.mono BL.out.size))
  clear q1
  go_wp2_with fail
  refine (gIb (-4294967296) 4294967296 r Q b dap true _ (BL.out.size) (HQ.out.below BL.out) (by omega) (by decide) G2.out).mono ?_
  rintro e1 w2 ⟨rfl, q2⟩
  replace KA := hide (KA.out.below q2)
  clear cA0 cA1 cA2 cA3 cA4 cA5
  obtain ⟨-, cA0, cA1, cA2, cA3, cA4, cA5⟩ := KA.out
  replace BL := hide (BL.out.trans (q2.mono BL.out.size))
  clear q2
  go_wp2_with fail
  refine (gIb (0) 17179869184 r S c eap true _ (BL.out.size) (HS.out.below BL.out) (by omega) (by decide) G3.out).mono ?_
  rintro e1 w3 ⟨rfl, q3⟩
  replace KA := hide (KA.out.below q3)
  clear cA0 cA1 cA2 cA3 cA4 cA5
  obtain ⟨-, cA0, cA1, cA2, cA3, cA4, cA5⟩ := KA.out
  replace BL := hide (BL.out.trans (q3.mono BL.out.size))
  clear q3
  go_wp2_with fail
  refine (steps_two n o true _ _ Hn.out Ho.out G4.out rfl).mono ?_
  rintro e1 w4 ⟨rfl, q4⟩
  replace KA := hide (KA.out.below q4)
  clear cA0 cA1 cA2 cA3 cA4 cA5
  obtain ⟨-, cA0, cA1, cA2, cA3, cA4, cA5⟩ := KA.out
  replace BL := hide (BL.out.trans (q4.mono BL.out.size))
  clear q4
  go_wp2_with fail
  refine (isFactorF f false Hf.out G5.out _).mono ?_
  rintro e1 w5 ⟨rfl, q5⟩
  replace KA := hide (KA.out.below q5)
  clear cA0 cA1 cA2 cA3 cA4 cA5
  obtain ⟨-, cA0, cA1, cA2, cA3, cA4, cA5⟩ := KA.out
  replace BL := hide (BL.out.trans (q5.mono BL.out.size))
  clear q5
  go_wp2_with fail
  go_ret
  exact ⟨rfl, BL.out⟩
set_option maxHeartbeats 1000000 in
theorem iOpt_yes (a b c : Option Addr) (r cap dap eap : Nat) (P Q S : Nat → Int) (n f o : Int) (w : World) (hP : Ints w.heap.size w a r P) (hQ : Ints w.heap.size w b r Q) (hS : Ints w.heap.size w c r S) (hr : (r : Int) ≤ 1048576) (hn : bd n) (hf : bd f) (ho : bd o) (r4 : (r : Int) ≤ 4096)  (g1 : ib (-68719476736) 68719476736 r P = true) (g2 : ib (-4294967296) 4294967296 r Q = true) (g3 : ib (0) 17179869184 r S = true) (g4 : decide ((0 ≤ n ∧ n ≤ 1000000) ∧ (0 ≤ o ∧ o ≤ 1000000)) = true) (g5 : fac f = true) :
    Calls Try.prog 7 #[.agg #[.slice a r cap, .slice b r dap, .slice c r eap, .int .i64 n, .int .i64 f, .int .i64 o]] w fun e w' => e = .returned (.bool true) ∧ Below w.heap.size w w' := by
  have HP := hide hP
  have HQ := hide hQ
  have HS := hide hS
  have Hn := hide hn
  have Hf := hide hf
  have Ho := hide ho
  clear hP hQ hS hn hf ho
  have g0 : decide ((4096 : Int) < (r : Int)) = false := decide_eq_false (by omega)
  have gN : decide (4096 < r) = false := decide_eq_false (by omega)
  have G1 := hide g1
  have G2 := hide g2
  have G3 := hide g3
  have G4 := hide g4
  have G5 := hide g5
  clear g1 g2 g3 g4 g5
  obtain ⟨WA, hWA⟩ : ∃ WA, w.alloc (.cells #[.slice a r cap, .slice b r dap, .slice c r eap, .int .i64 n, .int .i64 f, .int .i64 o] 30) = WA := ⟨_, rfl⟩
  have nWA : Below w.heap.size w WA := hWA ▸ (Below.refl _ _).alloc (Nat.le_refl _) _
  have mWA : BoxV6 WA w.heap.size (.slice a r cap) (.slice b r dap) (.slice c r eap) (.int .i64 n) (.int .i64 f) (.int .i64 o) := hWA ▸ boxV6_new _ _ _ _ _ _ _ _
  have BL := hide nWA
  have KA := hide mWA
  clear nWA mWA
  obtain ⟨-, cA0, cA1, cA2, cA3, cA4, cA5⟩ := KA.out
  go_enter Try.func7, Try.ntmps7
  go_wp2_with fail
  refine (gIb (-68719476736) 68719476736 r P a cap true _ (BL.out.size) (HP.out.below BL.out) (by omega) (by decide) G1.out).mono ?_
  rintro e1 w1 ⟨rfl, q1⟩
  replace KA := hide (KA.out.below q1)
  clear cA0 cA1 cA2 cA3 cA4 cA5
  obtain ⟨-, cA0, cA1, cA2, cA3, cA4, cA5⟩ := KA.out
  replace BL := hide (BL.out.trans (q1.mono BL.out.size))
  clear q1
  go_wp2_with fail
  refine (gIb (-4294967296) 4294967296 r Q b dap true _ (BL.out.size) (HQ.out.below BL.out) (by omega) (by decide) G2.out).mono ?_
  rintro e1 w2 ⟨rfl, q2⟩
  replace KA := hide (KA.out.below q2)
  clear cA0 cA1 cA2 cA3 cA4 cA5
  obtain ⟨-, cA0, cA1, cA2, cA3, cA4, cA5⟩ := KA.out
  replace BL := hide (BL.out.trans (q2.mono BL.out.size))
  clear q2
  go_wp2_with fail
  refine (gIb (0) 17179869184 r S c eap true _ (BL.out.size) (HS.out.below BL.out) (by omega) (by decide) G3.out).mono ?_
  rintro e1 w3 ⟨rfl, q3⟩
  replace KA := hide (KA.out.below q3)
  clear cA0 cA1 cA2 cA3 cA4 cA5
  obtain ⟨-, cA0, cA1, cA2, cA3, cA4, cA5⟩ := KA.out
  replace BL := hide (BL.out.trans (q3.mono BL.out.size))
  clear q3
  go_wp2_with fail
  refine (steps_two n o true _ _ Hn.out Ho.out G4.out rfl).mono ?_
  rintro e1 w4 ⟨rfl, q4⟩
  replace KA := hide (KA.out.below q4)
  clear cA0 cA1 cA2 cA3 cA4 cA5
  obtain ⟨-, cA0, cA1, cA2, cA3, cA4, cA5⟩ := KA.out
  replace BL := hide (BL.out.trans (q4.mono BL.out.size))
  clear q4
  go_wp2_with fail
  refine (isFactorF f true Hf.out G5.out _).mono ?_
  rintro e1 w5 ⟨rfl, q5⟩
  replace KA := hide (KA.out.below q5)
  clear cA0 cA1 cA2 cA3 cA4 cA5
  obtain ⟨-, cA0, cA1, cA2, cA3, cA4, cA5⟩ := KA.out
  replace BL := hide (BL.out.trans (q5.mono BL.out.size))
  clear q5
  go_wp2_with fail
  go_ret
  exact ⟨rfl, BL.out⟩
theorem implOpt (a b c : Option Addr) (r q s cap dap eap : Nat) (P Q S : Nat → Int) (n f o : Int) (w : World) (hP : Ints w.heap.size w a r P) (hQ : Ints w.heap.size w b q Q) (hS : Ints w.heap.size w c s S) (hr : (r : Int) ≤ 1048576) (hn : bd n) (hf : bd f) (ho : bd o) (hq : (q : Int) ≤ 1048576) (hs : (s : Int) ≤ 1048576) :
    Calls Try.prog 7 #[.agg #[.slice a r cap, .slice b q dap, .slice c s eap, .int .i64 n, .int .i64 f, .int .i64 o]] w fun e w' => e = .returned (.bool (ook r q s P Q S n f o)) ∧ Below w.heap.size w w' := by
  by_cases l1 : ¬ (r : Int) ≤ 4096
  · rw [show ook r q s P Q S n f o = false from decide_eq_false (fun h => l1 h.1)]
    exact iOpt_len1 a b c r q s cap dap eap P Q S n f o w hP hQ hS hr hn hf ho l1
  replace l1 := Decidable.of_not_not l1
  by_cases l2 : ¬ q = r
  · rw [show ook r q s P Q S n f o = false from decide_eq_false (fun h => l2 h.2.1)]
    exact iOpt_len2 a b c r q s cap dap eap P Q S n f o w hP hQ hS hr hn hf ho l1 l2
  replace l2 := Decidable.of_not_not l2
  subst l2
  by_cases l3 : ¬ s = q
  · rw [show ook q q s P Q S n f o = false from decide_eq_false (fun h => l3 h.2.2.1)]
    exact iOpt_len3 a b c q s cap dap eap P Q S n f o w hP hQ hS hr hn hf ho l1 l3
  replace l3 := Decidable.of_not_not l3
  subst l3
  cases g1 : ib (-68719476736) 68719476736 s P
  · rw [show ook s s s P Q S n f o = false from decide_eq_false (fun h => absurd (decide_eq_true (fun j hj => (h.2.2.2.2.2.1 j hj).1)) (by show ¬ ib _ _ _ _ = true; rw [g1]; exact Bool.false_ne_true))]
    exact iOpt_no1 a b c s cap dap eap P Q S n f o w hP hQ hS hr hn hf ho l1 g1
  cases g2 : ib (-4294967296) 4294967296 s Q
  · rw [show ook s s s P Q S n f o = false from decide_eq_false (fun h => absurd (decide_eq_true (fun j hj => (h.2.2.2.2.2.1 j hj).2.1)) (by show ¬ ib _ _ _ _ = true; rw [g2]; exact Bool.false_ne_true))]
    exact iOpt_no2 a b c s cap dap eap P Q S n f o w hP hQ hS hr hn hf ho l1 g1 g2
  cases g3 : ib (0) 17179869184 s S
  · rw [show ook s s s P Q S n f o = false from decide_eq_false (fun h => absurd (decide_eq_true (fun j hj => (h.2.2.2.2.2.1 j hj).2.2)) (by show ¬ ib _ _ _ _ = true; rw [g3]; exact Bool.false_ne_true))]
    exact iOpt_no3 a b c s cap dap eap P Q S n f o w hP hQ hS hr hn hf ho l1 g1 g2 g3
  cases g4 : decide ((0 ≤ n ∧ n ≤ 1000000) ∧ (0 ≤ o ∧ o ≤ 1000000))
  · rw [show ook s s s P Q S n f o = false from decide_eq_false (fun h => of_decide_eq_false g4 ⟨h.2.2.2.1, h.2.2.2.2.1⟩)]
    exact iOpt_no4 a b c s cap dap eap P Q S n f o w hP hQ hS hr hn hf ho l1 g1 g2 g3 g4
  cases g5 : fac f
  · rw [show ook s s s P Q S n f o = false from decide_eq_false (fun h => absurd h.2.2.2.2.2.2 (by rw [g5]; exact Bool.false_ne_true))]
    exact iOpt_no5 a b c s cap dap eap P Q S n f o w hP hQ hS hr hn hf ho l1 g1 g2 g3 g4 g5
  have f1 := of_decide_eq_true g1
  have f2 := of_decide_eq_true g2
  have f3 := of_decide_eq_true g3
  have f4 := of_decide_eq_true g4
  rw [show ook s s s P Q S n f o = true from decide_eq_true ⟨l1, rfl, rfl, f4.1, f4.2, fun j hj => ⟨f1 j hj, f2 j hj, f3 j hj⟩, g5⟩]
  exact iOpt_yes a b c s cap dap eap P Q S n f o w hP hQ hS hr hn hf ho l1 g1 g2 g3 g4 g5
end Vo
end Go.Proofs.Ytflbhlepmjiejaa

/- A whole step of the program. -/
namespace Go.Proofs.Ytflbhlepmjiejaa
namespace Vo
open Go.ChangeShapes Go.WideShapes Go.ChangeAt Go.RowKit Go.Joins Go.Sort
open Vl
set_option linter.unusedVariables false
theorem stepI (B P n cP cF cS cap gP gF gS : Nat) (aP aF aS a : Option Addr) (cnt fac good u d r1 r2 r3 r4 k z o y mo gr : Int) (PP FF SS G Gr : Nat → Int) (okg : Bool) (w : World) (hd : 1 ≤ d ∧ d ≤ 3) (hg : ib (-16777216) 16777216 n Gr = okg)
    (hO : C6 w P (OV aP aF aS n cP cF cS cnt fac good)) (hA : n = 0 ∨ (aP = some ⟨gP, 0, none⟩ ∧ aF = some ⟨gF, 0, none⟩ ∧ aS = some ⟨gS, 0, none⟩)) (hP : Rw w gP n PP) (hF : Rw w gF n FF) (hS : Rw w gS n SS)
    (dd : (gP ≠ gF ∧ gP ≠ gS ∧ gF ≠ gS) ∧ (P ≠ gP ∧ P ≠ gF ∧ P ≠ gS) ∧ (B ≤ gP ∧ B ≤ gF ∧ B ≤ gS)) (gz : w.heap.size ≠ gP ∧ w.heap.size ≠ gF ∧ w.heap.size ≠ gS) (hB : B ≤ w.heap.size) (hI : Ints B w a n Gr) (n4 : (n : Int) ≤ 4096)
    (c0 : 0 ≤ cnt) (c1 : cnt < 1000000) (f0 : 1 ≤ fac) (f1 : fac ≤ 65536) (g0 : 0 ≤ good) (g1 : good ≤ 1000000)
    (hRt : ∀ w, Calls Try.prog 63 #[.agg #[.int .i64 r1, .int .i64 r2, .int .i64 r3, .int .i64 r4], .int .i64 cnt] w fun e w' => e = .returned (.int .i64 u) ∧ Below w.heap.size w w')
    (hG : okg = true → ∀ w, Ints w.heap.size w a n Gr → Calls Try.prog 65 #[.agg #[.int .i64 d, .int .i64 r1, .int .i64 r2, .int .i64 r3, .int .i64 r4, .int .i64 k, .int .i64 z, .int .i64 o, .int .i64 y, .int .i64 mo, .int .i64 gr], .slice a n cap, .int .i64 fac] w (ListR n G w))
    (hin : okg = true → ∀ j, j < n → PIn k z o y u (PP j) (FF j) (SS j) (G j)) :
    Calls Try.prog 51 #[.pointer (some ⟨P, 0, none⟩), .agg #[.int .i64 d, .int .i64 r1, .int .i64 r2, .int .i64 r3, .int .i64 r4, .int .i64 k, .int .i64 z, .int .i64 o, .int .i64 y, .int .i64 mo, .int .i64 gr], .slice a n cap] w fun e w' => (∃ v, e = .returned v) ∧
      C6 w' P (OV aP aF aS n cP cF cS (cnt + 1) (if okg = true then nFac fac good gr else max (fac.tdiv 2) 1) (if okg = true then nGood good gr else 0)) ∧
      (Rw w' gP n (fun j => if okg = true then nP d k z o y u (PP j) (FF j) (SS j) (G j) else PP j) ∧ Rw w' gF n (fun j => if okg = true then nF d k (FF j) (G j) else FF j) ∧ Rw w' gS n (fun j => if okg = true then nS d z (SS j) (G j) else SS j)) ∧ Kept (fun b => b = P ∨ T3 gP gF gS b) w w' := by
  cases okg
  · simp only [Bool.false_eq_true, if_false]
    refine (stepNo P n cP cF cS aP aF aS cnt fac good B cap a Gr d r1 r2 r3 r4 k z o y mo gr w hO hB hI n4 c0 c1 f0 f1 _ hg rfl).mono ?_
    rintro e w' ⟨h1, h2, h3⟩
    exact ⟨h1, h2, ⟨hP.kept h3 (fun e => dd.2.1.1 e.symm), hF.kept h3 (fun e => dd.2.1.2.1 e.symm), hS.kept h3 (fun e => dd.2.1.2.2 e.symm)⟩, h3.mono (fun _ _ q => .inl q)⟩
  · simp only [if_true]
    refine stepYes P n cP cF cS aP aF aS cnt fac good B cap a Gr d r1 r2 r3 r4 k z o y mo gr w hO hB hI n4 c0 c1 f0 f1 gP gF gS _ _ _ (nFac fac good gr) (nGood good gr) dd.2.1 hg (fun W b h => ?_) (fun W h => praiseO P n cP cF cS aP aF aS cnt fac good gr W h g0 g1 (by omega) f1) (fun q => ⟨hP.lt q, hF.lt q, hS.lt q⟩) gz
    exact moveO B P n cP cF cS cap gP gF gS aP aF aS a cnt fac good u d r1 r2 r3 r4 k z o y mo gr PP FF SS G Gr W hd h hA (hP.kept (Kept.of_below (S := fun _ => False) b) id) (hF.kept (Kept.of_below (S := fun _ => False) b) id) (hS.kept (Kept.of_below (S := fun _ => False) b) id) dd (Nat.le_trans hB b.size) (hI.below (b.mono hB)) n4 hRt (hG rfl) (hin rfl)
/-- a state -/
structure St where
  P : Nat → Int
  F : Nat → Int
  S : Nat → Int
  c : Int
  f : Int
  g : Int
/-- a rule's numbers -/
structure Rl where
  d : Int
  r1 : Int
  r2 : Int
  r3 : Int
  r4 : Int
  k : Int
  z : Int
  o : Int
  y : Int
  mo : Int
  gr : Int
/-- the state behind a step: u the rate, G what the step goes by -/
noncomputable def St.next (R : Rl) (n : Nat) (u : Int) (G Gr : Nat → Int) (s : St) : St :=
  if ib (-16777216) 16777216 n Gr = true then ⟨fun j => nP R.d R.k R.z R.o R.y u (s.P j) (s.F j) (s.S j) (G j), fun j => nF R.d R.k (s.F j) (G j), fun j => nS R.d R.z (s.S j) (G j), s.c + 1, nFac s.f s.g R.gr, nGood s.g R.gr⟩
  else ⟨s.P, s.F, s.S, s.c + 1, max (s.f.tdiv 2) 1, 0⟩
def St.ok (n : Nat) (s : St) : Prop := OOk n n n s.P s.F s.S s.c s.f s.g
def Rl.ok (R : Rl) : Prop := rulOk R.d R.r1 R.r2 R.r3 R.r4 R.k R.z R.o R.y R.mo R.gr = true
theorem fac_up {f : Int} (h : fac f = true) : fac (min (f * 2) 65536) = true := by
  obtain ⟨k, k1, rfl⟩ := pow_pw h
  by_cases c : k = 16
  · subst c; decide +kernel
  · have e : (2 : Int) ^ k * 2 = 2 ^ (k + 1) := (Int.pow_succ 2 k).symm
    have : (2 : Int) ^ (k + 1) ≤ 65536 := by
      have : ∀ k : Fin 16, (2 : Int) ^ (k.val + 1) ≤ 65536 := by decide +kernel
      exact this ⟨k, by omega⟩
    rw [e, Int.min_eq_left this]
    exact pw_pow (k + 1) (by omega)
theorem fac_dn {f : Int} (h : fac f = true) : fac (max (f.tdiv 2) 1) = true := by
  obtain ⟨k, k1, rfl⟩ := pow_pw h
  cases k with
  | zero => decide +kernel
  | succ k =>
    have e : ((2 : Int) ^ (k + 1)).tdiv 2 = 2 ^ k := by rw [Int.pow_succ, Int.mul_tdiv_cancel _ (by decide)]
    have : (1 : Int) ≤ 2 ^ k := by
      have : ∀ k : Fin 16, (1 : Int) ≤ 2 ^ k.val := by decide +kernel
      exact this ⟨k, by omega⟩
    rw [e, Int.max_eq_left this]
    exact pw_pow k (by omega)
theorem St.next_ok {R : Rl} {n : Nat} {u : Int} {G Gr : Nat → Int} {s : St} (h : s.ok n) (hR : R.ok) (u0 : 0 ≤ u) (u1 : u ≤ 16777216) (hG : ib (-16777216) 16777216 n Gr = true → ∀ j, j < n → -16777216 ≤ G j ∧ G j ≤ 16777216) (hc : s.c ≠ 1000000) : (s.next R n u G Gr).ok n := by
  obtain ⟨n4, -, -, ⟨c0, c1⟩, ⟨g0, g1⟩, hin, hf⟩ := h
  obtain ⟨-, -, ⟨k0, k1⟩, ⟨z0, z1⟩, ⟨y0, y1⟩, ⟨o0, o1⟩, -, -⟩ := rul_of hR
  unfold St.next St.ok
  split
  · rename_i hb
    refine ⟨n4, rfl, rfl, ⟨by show 0 ≤ s.c + 1; omega, by show s.c + 1 ≤ 1000000; omega⟩, ?_, fun j hj => ?_, ?_⟩
    · show 0 ≤ nGood s.g R.gr ∧ nGood s.g R.gr ≤ 1000000
      unfold nGood; split <;> omega
    · obtain ⟨⟨p0, p1⟩, ⟨f0, f1⟩, s0, s1⟩ := hin j hj
      obtain ⟨a, b⟩ := hG hb j hj
      exact ⟨brg_rng _, nF_rng k0 k1 f0 f1 a b, nS_rng z0 z1 s0 s1 a b⟩
    · show fac (nFac s.f s.g R.gr) = true
      unfold nFac; split
      · exact fac_up hf
      · exact hf
  · exact ⟨n4, rfl, rfl, ⟨by show 0 ≤ s.c + 1; omega, by show s.c + 1 ≤ 1000000; omega⟩, ⟨by show (0 : Int) ≤ 0; omega, by show (0 : Int) ≤ 1000000; omega⟩, hin, fac_dn hf⟩
theorem St.pin {R : Rl} {n : Nat} {u : Int} {G : Nat → Int} {s : St} (h : s.ok n) (hR : R.ok) (u0 : 0 ≤ u) (u1 : u ≤ 16777216) {j : Nat} (hj : j < n) (g0 : -16777216 ≤ G j) (g1 : G j ≤ 16777216) : PIn R.k R.z R.o R.y u (s.P j) (s.F j) (s.S j) (G j) := by
  obtain ⟨-, -, -, -, -, hin, -⟩ := h
  obtain ⟨-, -, ⟨k0, k1⟩, ⟨z0, z1⟩, ⟨y0, y1⟩, ⟨o0, o1⟩, -, -⟩ := rul_of hR
  obtain ⟨⟨p0, p1⟩, ⟨f0, f1⟩, s0, s1⟩ := hin j hj
  exact ⟨k0, k1, z0, z1, o0, o1, y0, y1, u0, u1, p0, p1, f0, f1, s0, s1, g0, g1⟩
end Vo
end Go.Proofs.Ytflbhlepmjiejaa

/- As Qf, where a fact may speak of the operations that were waited for too (lists that must lie apart). -/
namespace Go.Proofs.Ytflbhlepmjiejaa
namespace Qf
open Go.RowKit
set_option linter.unusedVariables false
variable {P : Program}
theorem factsJ {id : Nat} {Q : Exit → Act → World → Prop} {a : Act} {w : World} {l : List Oper} (n : Nat) (hm : P.follows .mixedOrders = true) (hB : Region.lexTailB .any l.toArray n = true) (hfb : factB l.toArray n = true)
    (F : Nat → (Nat → Value) → World → Prop) (hL : ∀ i s s' w1, (∀ j, (j = i ∨ Region.waitsFor .any l.toArray i j = true) → s j = s' j) → F i s w1 → F i s' w1) (hF : ∀ i s w1 w2, F i s w1 → Below w1.heap.size w1 w2 → F i s w2)
    (hS : ∀ i o, i < n → l[i]? = some o → ∀ s w1, Below w.heap.size w w1 → (∀ k, Region.waitsFor .any l.toArray i k = true → F k s w1) → lands P o (lay all1 s (l.take n) 0 a) w1 (fun v w2 => Below w1.heap.size w1 w2 ∧ F i (upd s i v) w2))
    (hQ : ∀ s w1, Below w.heap.size w w1 → (∀ k, k < n → F k s w1) → wpList P l.toArray Q (l.drop n) (lay all1 s (l.take n) 0 a) w1) : (Code.region id l.toArray true).wp P Q a w := by
  simp only [Region.lexTailB, Bool.and_eq_true, decide_eq_true_eq] at hB
  obtain ⟨⟨⟨⟨hsel, hn⟩, hs⟩, hc⟩, hlex⟩ := hB
  have fs := factS hfb
  have hn' : n < l.length := by simpa using hn
  have hdl : (l.drop n).length = l.toArray.size - n := by simp
  have tk : ∀ i, i < n → (l.take n)[i]? = l[i]? := fun i hi => by rw [List.getElem?_take, if_pos hi]
  have hdist : ∀ (x y : Nat) (ox oy : Oper), (l.take n)[x]? = some ox → (l.take n)[y]? = some oy → x ≠ y → ∀ t, ox.dst = some t → oy.dst ≠ some t := by
    intro x y ox oy hx hy hne t ht
    have hx' : x < n := by have := (List.getElem?_eq_some_iff.1 hx).1; simp at this; omega
    have hy' : y < n := by have := (List.getElem?_eq_some_iff.1 hy).1; simp at this; omega
    obtain ⟨o2, e2, _, _, h2⟩ := fs.at' y hy'
    rw [tk y hy'] at hy
    rw [tk x hx'] at hx
    have : o2 = oy := by have e3 : l.toArray[y]? = some oy := by simpa using hy
                         rw [e2] at e3; exact Option.some.inj e3
    subst this
    exact (h2 x ox t hx' (by simpa using hx) ht).2 (Ne.symm hne)
  have key : ∀ (f : Nat) (li : Array Bool) (s : Nat → Value) (w1 : World), HeadInv .any l.toArray n li → ((List.range n).filter (fun i => !li.getD i false)).length = f → Below w.heap.size w w1 →
      (∀ k, li.getD k false = true → F k s w1) → wpAny P .any l.toArray Q (f + (l.toArray.size - n)) li (lay (fun j => li.getD j false) s (l.take n) 0 a) w1 := by
    intro f
    induction f with
    | zero =>
      intro li s w1 inv hf hb hfa
      have hli : ∀ k, k < n → li.getD k false = true := fun k hk => by
        have := List.filter_eq_nil_iff.1 (List.length_eq_zero_iff.1 hf) k (List.mem_range.2 hk)
        simpa using this
      have el : li = Array.replicate n true ++ Array.replicate (l.toArray.size - n) false := by
        apply Array.ext
        · rw [inv.size]; simp; omega
        · intro k h1 h2
          by_cases hk : k < n
          · have := hli k hk
            rw [Array.getElem_append_left (by simpa using hk)]
            simp [h1] at this
            simp [this]
          · have hk2 : k < l.toArray.size := by rw [← inv.size]; exact h1
            have := inv.tail k (by omega) hk2
            rw [Array.getElem_append_right (by simp; omega)]
            simp [h1] at this
            simp [this]
      rw [Nat.zero_add, ← hdl]
      have e1 : lay (fun j => li.getD j false) s (l.take n) 0 a = lay all1 s (l.take n) 0 a := by
        have : ∀ (l' : List Oper) (k : Nat) (a' : Act), k + l'.length ≤ n → lay (fun j => li.getD j false) s l' k a' = lay all1 s l' k a' := by
          intro l'
          induction l' with
          | nil => intro k a' _; rfl
          | cons o l' ih =>
            intro k a' hk
            simp only [List.length_cons] at hk
            unfold lay
            rw [hli k (by omega), ih (k + 1) _ (by omega)]
            rfl
        exact this _ _ _ (by simp; omega)
      rw [e1]
      refine wpAny_of_seq (l.drop n) n li _ w1 (fun j => by simp [List.getElem?_drop]) ?_ (hQ s w1 hb (fun k hk => hfa k (hli k hk)))
      rw [hdl, el]; exact fs.seq
    | succ f ih =>
      intro li s w1 inv hf hb hfa
      have hex : ∃ i, i < n ∧ li.getD i false = false := by
        have hne : (List.range n).filter (fun i => !li.getD i false) ≠ [] := fun e => by rw [e] at hf; simp at hf
        obtain ⟨x, hx⟩ := List.exists_mem_of_ne_nil _ hne
        obtain ⟨h1, h2⟩ := List.mem_filter.1 hx
        exact ⟨x, List.mem_range.1 h1, by simpa using h2⟩
      obtain ⟨i0, hi0, hu0⟩ := hex
      have sz : ∀ i, i < n → i < li.size := fun i hi => by rw [inv.size]; simp; omega
      have hall : ∀ j ∈ Region.ready .any l.toArray li, j < n := fun j hj => Nat.lt_of_not_le fun h => absurd hj (tail_waits hs hc hn inv _ i0 rfl hi0 (getD_in (sz i0 hi0) hu0) j h)
      have hsome : Region.ready .any l.toArray li ≠ [] := by
        have : ∀ d i, i ≤ d → i < n → li.getD i false = false → ∃ j, j ∈ Region.ready .any l.toArray li := by
          intro d
          induction d with
          | zero =>
            intro i hi hin hu
            obtain rfl : i = 0 := by omega
            obtain ⟨oi, ho, _, hbf, _⟩ := fs.at' 0 hin
            exact ⟨0, mem_ready.2 ⟨getD_in (sz 0 hin) hu, oi, ho, fun e he hbd => absurd (hbf e he hbd) (by omega)⟩⟩
          | succ d ihd =>
            intro i hi hin hu
            obtain ⟨oi, ho, _, hbf, _⟩ := fs.at' i hin
            by_cases hz : ∃ e ∈ oi.after, Region.binds .any e = true ∧ li.getD e.on false = false
            · obtain ⟨e, he, hbd, hue⟩ := hz
              have := hbf e he hbd
              exact ihd e.on (by omega) (by omega) hue
            · refine ⟨i, mem_ready.2 ⟨getD_in (sz i hin) hu, oi, ho, fun e he hbd => ?_⟩⟩
              cases hx : li.getD e.on false with
              | true => rfl
              | false => exact absurd ⟨e, he, hbd, hx⟩ hz
        obtain ⟨j, hj⟩ := this i0 i0 (Nat.le_refl _) hi0 hu0
        exact List.ne_nil_of_mem hj
      rw [show f + 1 + (l.toArray.size - n) = f + (l.toArray.size - n) + 1 by omega]
      refine ⟨fun e => absurd e hsome, fun i hi => ?_⟩
      have hin := hall i hi
      obtain ⟨hun, o, ho, hdep⟩ := mem_ready.1 hi
      obtain ⟨o2, ho2, hg, hbf, hrd⟩ := fs.at' i hin
      obtain rfl : o2 = o := by rw [ho] at ho2; exact (Option.some.inj ho2).symm
      have hlo : l[i]? = some o2 := by simpa using ho
      have hstep := hS i o2 hin hlo s w1 hb (fun k hk => by
        obtain ⟨oj, hoj, e, he, hbd, hon⟩ := Region.waitsFor_spec hk
        obtain rfl : oj = o2 := by rw [ho] at hoj; exact (Option.some.inj hoj).symm
        exact hfa k (by rw [← hon]; exact hdep e he hbd))
      have hexec : execOp (lay (fun j => li.getD j false) s (l.take n) 0 a).eval o2 = execOp (lay all1 s (l.take n) 0 a).eval o2 := by
        refine execOp_congr o2 (fun cs b => Region.noSelect_spec hsel i o2 cs b ho) (fun x hx => lay_eval _ _ _ _ rfl rfl (fun j oj hj d hd hxd => ?_))
        have hj' : j < n := by have := (List.getElem?_eq_some_iff.1 hj).1; simp at this; omega
        rw [tk j hj'] at hj
        have hlook : d ∈ o2.looksAt l.toArray := by
          subst hxd
          exact List.mem_append_left _ (List.mem_filterMap.2 ⟨.tmp d, by simpa using hx, rfl⟩)
        have hw := (hrd j oj d hj' (by simpa using hj) hd).1 hlook
        obtain ⟨oj2, hoj2, e, he, hbd, hon⟩ := Region.waitsFor_spec hw
        obtain rfl : oj2 = o2 := by rw [ho] at hoj2; exact (Option.some.inj hoj2).symm
        rw [Nat.zero_add, ← hon]
        exact hdep e he hbd
      have hnext : ∀ v w2, Below w1.heap.size w1 w2 ∧ F i (upd s i v) w2 → wpAny P .any l.toArray Q (f + (l.toArray.size - n)) (li.setIfInBounds i true) ((lay (fun j => li.getD j false) s (l.take n) 0 a).put o2.dst v) w2 := by
        intro v w2 ⟨hb2, hfi⟩
        rw [lay_more (getD_both hun) (l.take n) 0 a (Nat.zero_le _) (by rw [Nat.sub_zero, tk i hin]; exact hlo) hdist]
        have e2 : upd (fun j => li.getD j false) i true = fun j => (li.setIfInBounds i true).getD j false := funext fun k => (getD_upd (sz i hin)).symm
        rw [e2]
        refine ih _ _ w2 (inv.set hi hin) ?_ (hb.trans (hb2.mono hb.size)) (fun k hk => ?_)
        · have e3 : (List.range n).filter (fun j => !(li.setIfInBounds i true).getD j false) = ((List.range n).filter (fun j => !li.getD j false)).erase i := by
            have nd : ((List.range n).filter (fun j => !li.getD j false)).Nodup := List.Pairwise.filter _ List.nodup_range
            rw [nd.erase_eq_filter, List.filter_filter]
            refine List.filter_congr (fun j hj => ?_)
            rw [getD_upd (sz i hin)]
            unfold upd
            by_cases e : j = i
            · subst e; simp
            · simp [e]
          rw [e3, List.length_erase_of_mem (List.mem_filter.2 ⟨List.mem_range.2 hin, by rw [getD_both hun]; rfl⟩), hf]
          rfl
        · rw [getD_upd (sz i hin)] at hk
          by_cases e : k = i
          · subst e; exact hfi
          · unfold upd at hk
            rw [if_neg e] at hk
            refine hF k _ w1 w2 (hL k s _ w1 (fun j hj => ?_) (hfa k hk)) hb2
            have hji : j ≠ i := by
              rcases hj with rfl | hw
              · exact e
              · rintro rfl
                obtain ⟨ok, hok, e', he', hbd, hon⟩ := Region.waitsFor_spec hw
                have := inv.closed k ok hok hk e' he' hbd
                rw [hon, getD_both hun] at this
                cases this
            unfold upd
            rw [if_neg hji]
      unfold wpOp
      rw [ho]
      dsimp only
      rw [if_pos (by unfold Region.wanted; rw [hg])]
      refine .inl ?_
      unfold Oper.wp
      unfold lands at hstep
      rw [hexec]
      generalize (execOp (lay all1 s (l.take n) 0 a).eval o2).run P w1 = r at hstep
      cases r with
      | ok nx w' =>
        cases nx <;> simp only at hstep <;> simp only [Oper.upon]
        case value v => exact hnext v w' hstep
        case skip => exact hnext undef w' hstep
        case enter f' args =>
          exact hstep.mono (fun e w'' ⟨v, he, hk⟩ => by subst he; exact hnext v w'' hk)
      | halt x w' => cases x <;> simp only at hstep
  refine wp_region_any hm ?_
  have inv0 : HeadInv .any l.toArray n (Array.replicate l.toArray.size false) := ⟨by simp, fun j oj _ hl => (by rw [getD_replicate_false] at hl; cases hl), fun t _ ht => getD_in (by simpa using ht) (getD_replicate_false _ _)⟩
  have := key n (Array.replicate l.toArray.size false) (fun _ => undef) { w with drawn := w.drawn + 1 } inv0 (by
    rw [List.filter_eq_self.2 (fun x _ => by rw [getD_replicate_false]; rfl)]; simp) (Below.refl w.heap.size w).drew (fun k hk => by rw [getD_replicate_false] at hk; cases hk)
  have e0 : lay (fun j => (Array.replicate l.toArray.size false).getD j false) (fun _ => undef) (l.take n) 0 a = a := by
    have : ∀ (l' : List Oper) (k : Nat) (a' : Act), lay (fun j => (Array.replicate l.toArray.size false).getD j false) (fun _ => undef) l' k a' = a' := by
      intro l'
      induction l' with
      | nil => intro k a'; rfl
      | cons o l' ih => intro k a'; unfold lay; rw [getD_replicate_false, if_neg (by simp)]; exact ih _ _
    exact this _ _ _
  rw [e0, show n + (l.toArray.size - n) = l.toArray.size by omega] at this
  exact this
/-- the same, each operation in a frame of which only what it needs is known -/
theorem factsJ2 {id : Nat} {Q : Exit → Act → World → Prop} {a : Act} {w : World} {l : List Oper} (n : Nat) (hm : P.follows .mixedOrders = true) (hB : Region.lexTailB .any l.toArray n = true) (hfb : factB l.toArray n = true)
    (F : Nat → (Nat → Value) → World → Prop) (hL : ∀ i s s' w1, (∀ j, (j = i ∨ Region.waitsFor .any l.toArray i j = true) → s j = s' j) → F i s w1 → F i s' w1) (hF : ∀ i s w1 w2, F i s w1 → Below w1.heap.size w1 w2 → F i s w2)
    (hS : ∀ i o, i < n → l[i]? = some o → ∀ (s : Nat → Value) (A : Act) (w1 : World), Below w.heap.size w w1 → (∀ k, Region.waitsFor .any l.toArray i k = true → F k s w1) →
      (∀ k ok t, k < n → l[k]? = some ok → ok.dst = some t → t < a.tmps.size → A.eval (.tmp t) = s k) → (∀ t, (l.take n).all (fun ok => ok.dst != some t) = true → A.eval (.tmp t) = a.eval (.tmp t)) →
      lands P o A w1 (fun v w2 => Below w1.heap.size w1 w2 ∧ F i (upd s i v) w2))
    (hQ : ∀ s w1, Below w.heap.size w w1 → (∀ k, k < n → F k s w1) → wpList P l.toArray Q (l.drop n) (lay all1 s (l.take n) 0 a) w1) : (Code.region id l.toArray true).wp P Q a w := by
  have fs := factS hfb
  have tk : ∀ i, i < n → (l.take n)[i]? = l[i]? := fun i hi => by rw [List.getElem?_take, if_pos hi]
  have hdist : ∀ (x y : Nat) (ox oy : Oper), (l.take n)[x]? = some ox → (l.take n)[y]? = some oy → x ≠ y → ∀ t, ox.dst = some t → oy.dst ≠ some t := by
    intro x y ox oy hx hy hne t ht
    have hx' : x < n := by have := (List.getElem?_eq_some_iff.1 hx).1; simp at this; omega
    have hy' : y < n := by have := (List.getElem?_eq_some_iff.1 hy).1; simp at this; omega
    obtain ⟨o2, e2, _, _, h2⟩ := fs.at' y hy'
    rw [tk y hy'] at hy
    rw [tk x hx'] at hx
    have e3 : l.toArray[y]? = some oy := by simpa using hy
    obtain rfl : o2 = oy := by rw [e2] at e3; exact Option.some.inj e3
    exact (h2 x ox t hx' (by simpa using hx) ht).2 (Ne.symm hne)
  refine factsJ n hm hB hfb F hL hF (fun i o hi ho s w1 hb hk => hS i o hi ho s _ w1 hb hk (fun k ok t hk' hok ht hz => ?_) (fun t ht => lay_old _ _ _ (fun ok hok => by simpa using List.all_eq_true.1 ht ok hok))) hQ
  have := lay_at (s := s) (l.take n) 0 a k ok (by rw [tk k hk']; exact hok) ht hdist hz
  rwa [Nat.zero_add] at this
end Qf
end Go.Proofs.Ytflbhlepmjiejaa

/- A state is copied: the program (written by tools/genoq.py). -/
namespace Go.Proofs.Ytflbhlepmjiejaa
namespace Vo
open Go.ChangeShapes Go.WideShapes Go.ChangeAt Go.RowKit Go.Joins Go.Sort
open Vl
set_option linter.unusedVariables false
set_option linter.unusedSimpArgs false
/-- a list of one's own is behind another one -/
def Bhd (a b : Option Addr) (n : Nat) : Prop := ∃ N, (∀ k, Blk a n k → k < N) ∧ (∀ k, Blk b n k → N ≤ k)
theorem Bhd.trans {B : Nat} {w : World} {a b c : Option Addr} {n : Nat} {D : Nat → Int} (h : Bhd a b n) (k : Bhd b c n) (hb : OwnL B w b n D) : Bhd a c n := by
  obtain ⟨N, p, q⟩ := h
  obtain ⟨M, r, s⟩ := k
  refine ⟨N, p, fun i hi => ?_⟩
  have hn : n ≠ 0 := hi.1
  rcases hb with e | ⟨g, e, _, _⟩
  · exact absurd e hn
  · have b1 : Blk b n g := ⟨hn, ⟨g, 0, none⟩, e, rfl⟩
    have := q g b1
    have := r g b1
    have := s i hi
    omega
theorem wk {p q r : Prop} (h : p → q ∧ r) : p → q ∧ True := fun x => ⟨(h x).1, trivial⟩
set_option maxHeartbeats 1000000 in
theorem cloneT (B : Nat) (a : Option Addr) (r cap : Nat) (D : Nat → Int) (w : World) (h : Ints B w a r D) (hB : B ≤ w.heap.size) (hr : (r : Int) ≤ 1048576) (hn : a = none → r = 0) :
    Calls Try.prog 50 #[.slice a r cap] w fun e w' => ∃ v, e = .returned v ∧ RowV w.heap.size w' v r D ∧ Below w.heap.size w w' := by
  obtain ⟨i0, hi0, hz0, hz1, hz2⟩ := info_parts infoInt
  have hbd : ∀ j, j < r → bd (D j) := fun j hj => h.bd j hj
  cases a with
  | none =>
    obtain rfl := hn rfl
    have heq := fun (W : World) => Lib.run_eql_slice_nil_nil (P := Try.prog) W 0 cap Try.underlying28
    clear h
    go_enter Try.func50, Try.ntmps50
    go_wp2_with fail
    go_ret
    exact ⟨_, rfl, ⟨World.ownsRow_nil _ _ _ _, hbd⟩, Below.refl _ _⟩
  | some ad =>
    have H := hide h
    have HB := hide hbd
    clear h hn hbd
    have hown0 : (w.alloc (.cells #[] 3)).ownsRow w.heap.size 3 1 (.slice (some ⟨w.heap.size, 0, none⟩) 0 0) 0 [] :=
      ⟨rfl, .inr ⟨w.heap.size, 0, #[], rfl, Nat.le_refl _, heap_alloc_new w _, Nat.le_refl _, by simp [maxLen], rfl, rfl⟩⟩
    have B0 := hide (show Below w.heap.size w (w.alloc (.cells #[] 3)) from (Below.refl _ _).alloc (Nat.le_refl _) _)
    have heq := fun (W : World) => Lib.run_eql_slice_some_nil (P := Try.prog) W ad r cap Try.underlying28
    have hnews := hide (ints_of (H.out.below (B0.out.mono hB)) rfl)
    go_enter Try.func50, Try.ntmps50
    go_wp2_with (at_builtin; refine wpList_append_own _ rfl _ _ 28 rfl w.heap.size 3 i0 (.int .i64 0) 1 8 Try.underlying28 hi0 hz0 hz1 hz2 rfl (by decide) _ _ _ rfl hown0 ad r cap (ints r D) rfl (by rw [ints_len]; omega) hnews.out (ints_one r D) (by unfold maxLen; omega) (by omega) (by simp) ?_; intro v' w1 hown1 hgrow1 _)
    go_ret
    rw [List.nil_append, Nat.zero_add] at hown1
    exact ⟨v', rfl, ⟨hown1, HB.out⟩, B0.out.grown hgrow1 (by simp) (by rintro k ⟨⟩; exact Nat.le_refl _)⟩
/-- a state of one's own: three lists that lie one behind the other -/
def CpR (n : Nat) (PP FF SS : Nat → Int) (cnt fac good : Int) (w : World) (e : Ending) (w' : World) : Prop :=
  ∃ (p f s : Option Addr) (c d g : Nat), e = .returned (.agg #[.slice p n c, .slice f n d, .slice s n g, .int .i64 cnt, .int .i64 fac, .int .i64 good]) ∧ (OwnL w.heap.size w' p n PP ∧ OwnL w.heap.size w' f n FF ∧ OwnL w.heap.size w' s n SS) ∧ (Bhd p f n ∧ Bhd f s n) ∧ Below w.heap.size w w'
set_option maxHeartbeats 4000000 in
set_option maxRecDepth 100000 in
theorem copiedO (aP aF aS : Option Addr) (n cP cF cS : Nat) (PP FF SS : Nat → Int) (cnt fac good : Int) (w : World) (h1 : Ints w.heap.size w aP n PP) (h2 : Ints w.heap.size w aF n FF) (h3 : Ints w.heap.size w aS n SS) (z1 : aP = none → n = 0 ∧ True) (z2 : aF = none → n = 0 ∧ True) (z3 : aS = none → n = 0 ∧ True) (n4 : (n : Int) ≤ 4096) :
    Calls Try.prog 26 #[.agg #[.slice aP n cP, .slice aF n cF, .slice aS n cS, .int .i64 cnt, .int .i64 fac, .int .i64 good]] w (CpR n PP FF SS cnt fac good w) := by
  obtain ⟨W1, hW1⟩ : ∃ W1, w.alloc (.cells #[.slice aP n cP, .slice aF n cF, .slice aS n cS, .int .i64 cnt, .int .i64 fac, .int .i64 good] 30) = W1 := ⟨_, rfl⟩
  have n1 : Below w.heap.size w W1 := hW1 ▸ (Below.refl _ _).alloc (Nat.le_refl _) _
  have y1 : w.heap.size < W1.heap.size := by rw [← hW1]; simp
  obtain ⟨W2, hW2⟩ : ∃ W2, W1.alloc (.cells #[.slice none 0 0, .slice none 0 0, .slice none 0 0, .int .i64 0, .int .i64 0, .int .i64 0] 30) = W2 := ⟨_, rfl⟩
  have n2 : Below W1.heap.size W1 W2 := hW2 ▸ (Below.refl _ _).alloc (Nat.le_refl _) _
  have y2 : W1.heap.size < W2.heap.size := by rw [← hW2]; simp
  have O1 := hide ((show C6 W1 w.heap.size (OV aP aF aS n cP cF cS cnt fac good) from ⟨fun i hi => by rcases (by omega : i = 0 ∨ i = 1 ∨ i = 2 ∨ i = 3 ∨ i = 4 ∨ i = 5) with rfl | rfl | rfl | rfl | rfl | rfl <;> (rw [← hW1]; simp [go_sem, OV]), fun i => by rw [← hW1]; simp [go_sem], y1⟩).kept (Kept.of_below (S := fun _ => False) n2) id)
  have R1 := hide (show C6 W2 W1.heap.size (OV none none none 0 0 0 0 0 0 0) from ⟨fun i hi => by rcases (by omega : i = 0 ∨ i = 1 ∨ i = 2 ∨ i = 3 ∨ i = 4 ∨ i = 5) with rfl | rfl | rfl | rfl | rfl | rfl <;> (rw [← hW2]; simp [go_sem, OV]), fun i => by rw [← hW2]; simp [go_sem], y2⟩)
  have BL := hide (n1.trans (n2.mono n1.size))
  have Y := hide (And.intro y1 y2)
  have H1 := hide (h1.below BL.out)
  have H2 := hide (h2.below BL.out)
  have H3 := hide (h3.below BL.out)
  have E1 := hide z1
  have E2 := hide z2
  have E3 := hide z3
  have PA0 := hide (show W2.cell? ⟨w.heap.size, 0, none⟩ = some (.slice aP n cP) from O1.out.c 0 (by omega))
  have PA1 := hide (show W2.cell? ⟨w.heap.size, 1, none⟩ = some (.slice aF n cF) from O1.out.c 1 (by omega))
  have PA2 := hide (show W2.cell? ⟨w.heap.size, 2, none⟩ = some (.slice aS n cS) from O1.out.c 2 (by omega))
  have PZ := hide O1.out.z
  clear h1 h2 h3 z1 z2 z3 n1 n2 y1 y2
  go_enter Try.func26, Try.ntmps26
  go_wp2_with fail
  clear hW1 hW2
  refine Qf.factsJ2 10 (by kernel_rfl) (by kernel_rfl) (by kernel_rfl) (fun i s wx => match i with | 0 => s 0 = .pointer (some ⟨w.heap.size, 0, none⟩) | 1 => s 1 = .slice aP n cP | 2 => ∃ a c, s 2 = .slice a n c ∧ OwnL W2.heap.size wx a n PP | 3 => s 3 = .pointer (some ⟨w.heap.size, 1, none⟩) | 4 => s 4 = .slice aF n cF | 5 => ∃ a c, s 5 = .slice a n c ∧ OwnL W2.heap.size wx a n FF ∧ ∀ a2 c2, s 2 = .slice a2 n c2 → Bhd a2 a n | 6 => s 6 = .pointer (some ⟨w.heap.size, 2, none⟩) | 7 => s 7 = .slice aS n cS | 8 => ∃ a c, s 8 = .slice a n c ∧ OwnL W2.heap.size wx a n SS ∧ ∀ a2 c2, s 5 = .slice a2 n c2 → Bhd a2 a n | 9 => s 9 = .pointer (some ⟨w.heap.size, 0, none⟩) | _ => True) ?loc ?stable ?steps ?rest
  case loc =>
    intro i s s' w1 hs h
    match i, h with
    | 0, h => exact (hs 0 (.inl rfl)).symm.trans h
    | 1, h => exact (hs 1 (.inl rfl)).symm.trans h
    | 2, ⟨a, c, h1, h2⟩ => exact ⟨a, c, (hs 2 (.inl rfl)).symm.trans h1, h2⟩
    | 3, h => exact (hs 3 (.inl rfl)).symm.trans h
    | 4, h => exact (hs 4 (.inl rfl)).symm.trans h
    | 5, ⟨a, c, h1, h2, h3⟩ => exact ⟨a, c, (hs 5 (.inl rfl)).symm.trans h1, h2, fun a2 c2 e => h3 a2 c2 ((hs 2 (.inr (by kernel_rfl))).trans e)⟩
    | 6, h => exact (hs 6 (.inl rfl)).symm.trans h
    | 7, h => exact (hs 7 (.inl rfl)).symm.trans h
    | 8, ⟨a, c, h1, h2, h3⟩ => exact ⟨a, c, (hs 8 (.inl rfl)).symm.trans h1, h2, fun a2 c2 e => h3 a2 c2 ((hs 5 (.inr (by kernel_rfl))).trans e)⟩
    | 9, h => exact (hs 9 (.inl rfl)).symm.trans h
    | _ + 10, h => exact h
  case stable =>
    intro i s w1 w2 h hb
    match i, h with
    | 0, h => exact h
    | 1, h => exact h
    | 2, ⟨a, c, h1, h2⟩ => exact ⟨a, c, h1, h2.below hb⟩
    | 3, h => exact h
    | 4, h => exact h
    | 5, ⟨a, c, h1, h2, h3⟩ => exact ⟨a, c, h1, h2.below hb, h3⟩
    | 6, h => exact h
    | 7, h => exact h
    | 8, ⟨a, c, h1, h2, h3⟩ => exact ⟨a, c, h1, h2.below hb, h3⟩
    | 9, h => exact h
    | _ + 10, h => exact h
  case steps =>
    intro i o hi ho s A wS hb hk hA hO
    match i, hi, ho, hk with
    | 0, _, ho, hk =>
      cases ho
      exact Qf.lands_val _ _ (runFO0 rfl ((hO 1 (by rfl)).trans rfl)) ⟨Below.refl _ _, by simp [Qf.upd]⟩
    | 1, _, ho, hk =>
      cases ho
      have h0 := hA 0 _ 3 (by decide) rfl rfl (by simp)
      have e0 := hk 0 (by kernel_rfl)
      rw [e0] at h0
      exact Qf.lands_val _ _ (runLL rfl h0 ((hb.cell (p := ⟨w.heap.size, 0, none⟩) PZ.out).trans PA0.out)) ⟨Below.refl _ _, by simp [Qf.upd]⟩
    | 2, _, ho, hk =>
      cases ho
      have h1 := hA 1 _ 4 (by decide) rfl rfl (by simp)
      have e1 := hk 1 (by kernel_rfl)
      rw [e1] at h1
      refine Qf.lands_call 50 _ _ rfl (enters_of Try.func50 (by kernel_rfl) rfl) _ (by simp [h1]) ((cloneT w.heap.size aP n cP PP wS (H1.out.below (hb.mono (Nat.le_of_lt (Nat.lt_trans Y.out.1 Y.out.2)))) (Nat.le_trans (Nat.le_of_lt (Nat.lt_trans Y.out.1 Y.out.2)) hb.size) (by omega) (fun h => (E1.out h).1)).mono ?_)
      rintro e wT ⟨v, rfl, hrow, bT⟩
      obtain ⟨aT, cT, rfl, hO'⟩ := hrow.own
      exact ⟨_, rfl, bT, aT, cT, by simp [Qf.upd], hO'.mono hb.size⟩
    | 3, _, ho, hk =>
      cases ho
      exact Qf.lands_val _ _ (runFO1 rfl ((hO 1 (by rfl)).trans rfl)) ⟨Below.refl _ _, by simp [Qf.upd]⟩
    | 4, _, ho, hk =>
      cases ho
      have h3 := hA 3 _ 6 (by decide) rfl rfl (by simp)
      have e3 := hk 3 (by kernel_rfl)
      rw [e3] at h3
      exact Qf.lands_val _ _ (runLL rfl h3 ((hb.cell (p := ⟨w.heap.size, 1, none⟩) PZ.out).trans PA1.out)) ⟨Below.refl _ _, by simp [Qf.upd]⟩
    | 5, _, ho, hk =>
      cases ho
      have h4 := hA 4 _ 7 (by decide) rfl rfl (by simp)
      have e4 := hk 4 (by kernel_rfl)
      rw [e4] at h4
      obtain ⟨ap, cp, ep, op⟩ := hk 2 (by kernel_rfl)
      refine Qf.lands_call 50 _ _ rfl (enters_of Try.func50 (by kernel_rfl) rfl) _ (by simp [h4]) ((cloneT w.heap.size aF n cF FF wS (H2.out.below (hb.mono (Nat.le_of_lt (Nat.lt_trans Y.out.1 Y.out.2)))) (Nat.le_trans (Nat.le_of_lt (Nat.lt_trans Y.out.1 Y.out.2)) hb.size) (by omega) (fun h => (E2.out h).1)).mono ?_)
      rintro e wT ⟨v, rfl, hrow, bT⟩
      obtain ⟨aT, cT, rfl, hO'⟩ := hrow.own
      refine ⟨_, rfl, bT, aT, cT, by simp [Qf.upd], hO'.mono hb.size, fun a2 c2 e2 => ?_⟩
      have e3 : s 2 = .slice a2 n c2 := by simpa [Qf.upd] using e2
      rw [ep] at e3
      injection e3 with e3 _ _
      subst e3
      exact ⟨wS.heap.size, fun k hk => (op.blk hk).2, fun k hk => (hO'.blk hk).1⟩
    | 6, _, ho, hk =>
      cases ho
      exact Qf.lands_val _ _ (runFO2 rfl ((hO 1 (by rfl)).trans rfl)) ⟨Below.refl _ _, by simp [Qf.upd]⟩
    | 7, _, ho, hk =>
      cases ho
      have h6 := hA 6 _ 9 (by decide) rfl rfl (by simp)
      have e6 := hk 6 (by kernel_rfl)
      rw [e6] at h6
      exact Qf.lands_val _ _ (runLL rfl h6 ((hb.cell (p := ⟨w.heap.size, 2, none⟩) PZ.out).trans PA2.out)) ⟨Below.refl _ _, by simp [Qf.upd]⟩
    | 8, _, ho, hk =>
      cases ho
      have h7 := hA 7 _ 10 (by decide) rfl rfl (by simp)
      have e7 := hk 7 (by kernel_rfl)
      rw [e7] at h7
      obtain ⟨ap, cp, ep, op, -⟩ := hk 5 (by kernel_rfl)
      refine Qf.lands_call 50 _ _ rfl (enters_of Try.func50 (by kernel_rfl) rfl) _ (by simp [h7]) ((cloneT w.heap.size aS n cS SS wS (H3.out.below (hb.mono (Nat.le_of_lt (Nat.lt_trans Y.out.1 Y.out.2)))) (Nat.le_trans (Nat.le_of_lt (Nat.lt_trans Y.out.1 Y.out.2)) hb.size) (by omega) (fun h => (E3.out h).1)).mono ?_)
      rintro e wT ⟨v, rfl, hrow, bT⟩
      obtain ⟨aT, cT, rfl, hO'⟩ := hrow.own
      refine ⟨_, rfl, bT, aT, cT, by simp [Qf.upd], hO'.mono hb.size, fun a2 c2 e2 => ?_⟩
      have e3 : s 5 = .slice a2 n c2 := by simpa [Qf.upd] using e2
      rw [ep] at e3
      injection e3 with e3 _ _
      subst e3
      exact ⟨wS.heap.size, fun k hk => (op.blk hk).2, fun k hk => (hO'.blk hk).1⟩
    | 9, _, ho, hk =>
      cases ho
      exact Qf.lands_val _ _ (runFO0 rfl ((hO 1 (by rfl)).trans rfl)) ⟨Below.refl _ _, by simp [Qf.upd]⟩
    | _ + 10, hi, _, _ => exact absurd hi (by omega)
  case rest =>
  intro s' X1 bz hk9
  have e0 := hk9 0 (by decide)
  have e1 := hk9 1 (by decide)
  have e3 := hk9 3 (by decide)
  have e4 := hk9 4 (by decide)
  have e6 := hk9 6 (by decide)
  have e7 := hk9 7 (by decide)
  have e9 := hk9 9 (by decide)
  obtain ⟨p, c, e2, oP⟩ := hk9 2 (by decide)
  obtain ⟨f, d, e5, oF, bF⟩ := hk9 5 (by decide)
  obtain ⟨s, g, e8, oS, bS⟩ := hk9 8 (by decide)
  have e0 : s' 0 = .pointer (some ⟨w.heap.size, 0, none⟩) := e0
  have e1 : s' 1 = .slice aP n cP := e1
  have e3 : s' 3 = .pointer (some ⟨w.heap.size, 1, none⟩) := e3
  have e4 : s' 4 = .slice aF n cF := e4
  have e6 : s' 6 = .pointer (some ⟨w.heap.size, 2, none⟩) := e6
  have e7 : s' 7 = .slice aS n cS := e7
  have e9 : s' 9 = .pointer (some ⟨w.heap.size, 0, none⟩) := e9
  simp only [List.take_succ_cons, List.take_zero, List.drop_succ_cons, List.drop_zero, Qf.lay, Qf.all1, if_true, e0, e1, e2, e3, e4, e5, e6, e7, e8, e9]
  simp only [Act.put, List.setIfInBounds_toArray, List.set_cons_succ, List.set_cons_zero]
  have APT := hide (And.intro (bF p c e2) (bS f d e5))
  have QP := hide (oP.mono (Nat.le_of_lt (Nat.lt_trans Y.out.1 Y.out.2)))
  have QF := hide (oF.mono (Nat.le_of_lt (Nat.lt_trans Y.out.1 Y.out.2)))
  have QS := hide (oS.mono (Nat.le_of_lt (Nat.lt_trans Y.out.1 Y.out.2)))
  have UP := hide (fun k (q : Blk p n k) => (oP.blk q).1)
  have UF := hide (fun k (q : Blk f n k) => (oF.blk q).1)
  have US := hide (fun k (q : Blk s n k) => (oS.blk q).1)
  have OX := hide (O1.out.kept (Kept.of_below (S := fun _ => False) bz) id)
  have RX := hide (R1.out.kept (Kept.of_below (S := fun _ => False) bz) id)
  have BX := hide (BL.out.trans (bz.mono BL.out.size))
  clear hk9 e0 e1 e2 e3 e4 e5 e6 e7 e8 e9 oP oF oS bF bS bz O1 R1 PA0 PA1 PA2
  obtain ⟨S0, hS0⟩ : ∃ S0, X1.setCell ⟨w.heap.size, 0, none⟩ (.slice p n c) = S0 := ⟨_, rfl⟩
  have OS0 := hide (hS0 ▸ OX.out.set 0 (.slice p n c) (by omega) : C6 S0 w.heap.size _)
  have eS0 : X1.cell? ⟨w.heap.size, 0, none⟩ = some (.slice aP n cP) := OX.out.c 0 (by omega)
  have fS0 := OX.out.f 0
  have kS0 : Kept (· = w.heap.size) X1 S0 := hS0 ▸ Kept.setCell X1 ⟨w.heap.size, 0, none⟩ _
  have RS0 := hide (RX.out.kept kS0 (by have := Y.out.1; show ¬ W1.heap.size = w.heap.size; omega))
  have BS0 := hide (hS0 ▸ BX.out.setCell (p := ⟨w.heap.size, 0, none⟩) (Nat.le_refl _) _ : Below w.heap.size w S0)
  replace QP := hide (QP.out.kept kS0 (fun k q e => by have := UP.out k q; have := Y.out; have e : k = w.heap.size := e; omega))
  replace QF := hide (QF.out.kept kS0 (fun k q e => by have := UF.out k q; have := Y.out; have e : k = w.heap.size := e; omega))
  replace QS := hide (QS.out.kept kS0 (fun k q e => by have := US.out k q; have := Y.out; have e : k = w.heap.size := e; omega))
  clear kS0
  obtain ⟨S1, hS1⟩ : ∃ S1, S0.setCell ⟨w.heap.size, 1, none⟩ (.slice f n d) = S1 := ⟨_, rfl⟩
  have OS1 := hide (hS1 ▸ OS0.out.set 1 (.slice f n d) (by omega) : C6 S1 w.heap.size _)
  have eS1 : S0.cell? ⟨w.heap.size, 1, none⟩ = some (.slice aF n cF) := OS0.out.c 1 (by omega)
  have fS1 := OS0.out.f 1
  have kS1 : Kept (· = w.heap.size) S0 S1 := hS1 ▸ Kept.setCell S0 ⟨w.heap.size, 1, none⟩ _
  have RS1 := hide (RS0.out.kept kS1 (by have := Y.out.1; show ¬ W1.heap.size = w.heap.size; omega))
  have BS1 := hide (hS1 ▸ BS0.out.setCell (p := ⟨w.heap.size, 1, none⟩) (Nat.le_refl _) _ : Below w.heap.size w S1)
  replace QP := hide (QP.out.kept kS1 (fun k q e => by have := UP.out k q; have := Y.out; have e : k = w.heap.size := e; omega))
  replace QF := hide (QF.out.kept kS1 (fun k q e => by have := UF.out k q; have := Y.out; have e : k = w.heap.size := e; omega))
  replace QS := hide (QS.out.kept kS1 (fun k q e => by have := US.out k q; have := Y.out; have e : k = w.heap.size := e; omega))
  clear kS1
  obtain ⟨S2, hS2⟩ : ∃ S2, S1.setCell ⟨w.heap.size, 2, none⟩ (.slice s n g) = S2 := ⟨_, rfl⟩
  have OS2 := hide (hS2 ▸ OS1.out.set 2 (.slice s n g) (by omega) : C6 S2 w.heap.size _)
  have eS2 : S1.cell? ⟨w.heap.size, 2, none⟩ = some (.slice aS n cS) := OS1.out.c 2 (by omega)
  have fS2 := OS1.out.f 2
  have kS2 : Kept (· = w.heap.size) S1 S2 := hS2 ▸ Kept.setCell S1 ⟨w.heap.size, 2, none⟩ _
  have RS2 := hide (RS1.out.kept kS2 (by have := Y.out.1; show ¬ W1.heap.size = w.heap.size; omega))
  have BS2 := hide (hS2 ▸ BS1.out.setCell (p := ⟨w.heap.size, 2, none⟩) (Nat.le_refl _) _ : Below w.heap.size w S2)
  replace QP := hide (QP.out.kept kS2 (fun k q e => by have := UP.out k q; have := Y.out; have e : k = w.heap.size := e; omega))
  replace QF := hide (QF.out.kept kS2 (fun k q e => by have := UF.out k q; have := Y.out; have e : k = w.heap.size := e; omega))
  replace QS := hide (QS.out.kept kS2 (fun k q e => by have := US.out k q; have := Y.out; have e : k = w.heap.size := e; omega))
  clear kS2
  have l0 : S2.cell? ⟨w.heap.size, 0, none⟩ = some (.slice p n c) := OS2.out.c 0 (by omega)
  have l1 : S2.cell? ⟨w.heap.size, 1, none⟩ = some (.slice f n d) := OS2.out.c 1 (by omega)
  have l2 : S2.cell? ⟨w.heap.size, 2, none⟩ = some (.slice s n g) := OS2.out.c 2 (by omega)
  have l3 : S2.cell? ⟨w.heap.size, 3, none⟩ = some (.int .i64 cnt) := OS2.out.c 3 (by omega)
  have l4 : S2.cell? ⟨w.heap.size, 4, none⟩ = some (.int .i64 fac) := OS2.out.c 4 (by omega)
  have l5 : S2.cell? ⟨w.heap.size, 5, none⟩ = some (.int .i64 good) := OS2.out.c 5 (by omega)
  obtain ⟨T0, hT0⟩ : ∃ T0, S2.setCell ⟨W1.heap.size, 0, none⟩ (.slice p n c) = T0 := ⟨_, rfl⟩
  have RT0 := hide (hT0 ▸ RS2.out.set 0 (.slice p n c) (by omega) : C6 T0 W1.heap.size _)
  have eT0 : S2.cell? ⟨W1.heap.size, 0, none⟩ = some (.slice none 0 0) := RS2.out.c 0 (by omega)
  have fT0 := RS2.out.f 0
  have kT0 : Kept (· = W1.heap.size) S2 T0 := hT0 ▸ Kept.setCell S2 ⟨W1.heap.size, 0, none⟩ _
  have BT0 := hide (hT0 ▸ BS2.out.setCell (p := ⟨W1.heap.size, 0, none⟩) (Nat.le_of_lt Y.out.1) _ : Below w.heap.size w T0)
  replace QP := hide (QP.out.kept kT0 (fun k q e => by have := UP.out k q; have := Y.out; have e : k = W1.heap.size := e; omega))
  replace QF := hide (QF.out.kept kT0 (fun k q e => by have := UF.out k q; have := Y.out; have e : k = W1.heap.size := e; omega))
  replace QS := hide (QS.out.kept kT0 (fun k q e => by have := US.out k q; have := Y.out; have e : k = W1.heap.size := e; omega))
  clear kT0
  obtain ⟨T1, hT1⟩ : ∃ T1, T0.setCell ⟨W1.heap.size, 1, none⟩ (.slice f n d) = T1 := ⟨_, rfl⟩
  have RT1 := hide (hT1 ▸ RT0.out.set 1 (.slice f n d) (by omega) : C6 T1 W1.heap.size _)
  have eT1 : T0.cell? ⟨W1.heap.size, 1, none⟩ = some (.slice none 0 0) := RT0.out.c 1 (by omega)
  have fT1 := RT0.out.f 1
  have kT1 : Kept (· = W1.heap.size) T0 T1 := hT1 ▸ Kept.setCell T0 ⟨W1.heap.size, 1, none⟩ _
  have BT1 := hide (hT1 ▸ BT0.out.setCell (p := ⟨W1.heap.size, 1, none⟩) (Nat.le_of_lt Y.out.1) _ : Below w.heap.size w T1)
  replace QP := hide (QP.out.kept kT1 (fun k q e => by have := UP.out k q; have := Y.out; have e : k = W1.heap.size := e; omega))
  replace QF := hide (QF.out.kept kT1 (fun k q e => by have := UF.out k q; have := Y.out; have e : k = W1.heap.size := e; omega))
  replace QS := hide (QS.out.kept kT1 (fun k q e => by have := US.out k q; have := Y.out; have e : k = W1.heap.size := e; omega))
  clear kT1
  obtain ⟨T2, hT2⟩ : ∃ T2, T1.setCell ⟨W1.heap.size, 2, none⟩ (.slice s n g) = T2 := ⟨_, rfl⟩
  have RT2 := hide (hT2 ▸ RT1.out.set 2 (.slice s n g) (by omega) : C6 T2 W1.heap.size _)
  have eT2 : T1.cell? ⟨W1.heap.size, 2, none⟩ = some (.slice none 0 0) := RT1.out.c 2 (by omega)
  have fT2 := RT1.out.f 2
  have kT2 : Kept (· = W1.heap.size) T1 T2 := hT2 ▸ Kept.setCell T1 ⟨W1.heap.size, 2, none⟩ _
  have BT2 := hide (hT2 ▸ BT1.out.setCell (p := ⟨W1.heap.size, 2, none⟩) (Nat.le_of_lt Y.out.1) _ : Below w.heap.size w T2)
  replace QP := hide (QP.out.kept kT2 (fun k q e => by have := UP.out k q; have := Y.out; have e : k = W1.heap.size := e; omega))
  replace QF := hide (QF.out.kept kT2 (fun k q e => by have := UF.out k q; have := Y.out; have e : k = W1.heap.size := e; omega))
  replace QS := hide (QS.out.kept kT2 (fun k q e => by have := US.out k q; have := Y.out; have e : k = W1.heap.size := e; omega))
  clear kT2
  obtain ⟨T3, hT3⟩ : ∃ T3, T2.setCell ⟨W1.heap.size, 3, none⟩ (.int .i64 cnt) = T3 := ⟨_, rfl⟩
  have RT3 := hide (hT3 ▸ RT2.out.set 3 (.int .i64 cnt) (by omega) : C6 T3 W1.heap.size _)
  have eT3 : T2.cell? ⟨W1.heap.size, 3, none⟩ = some (.int .i64 0) := RT2.out.c 3 (by omega)
  have fT3 := RT2.out.f 3
  have kT3 : Kept (· = W1.heap.size) T2 T3 := hT3 ▸ Kept.setCell T2 ⟨W1.heap.size, 3, none⟩ _
  have BT3 := hide (hT3 ▸ BT2.out.setCell (p := ⟨W1.heap.size, 3, none⟩) (Nat.le_of_lt Y.out.1) _ : Below w.heap.size w T3)
  replace QP := hide (QP.out.kept kT3 (fun k q e => by have := UP.out k q; have := Y.out; have e : k = W1.heap.size := e; omega))
  replace QF := hide (QF.out.kept kT3 (fun k q e => by have := UF.out k q; have := Y.out; have e : k = W1.heap.size := e; omega))
  replace QS := hide (QS.out.kept kT3 (fun k q e => by have := US.out k q; have := Y.out; have e : k = W1.heap.size := e; omega))
  clear kT3
  obtain ⟨T4, hT4⟩ : ∃ T4, T3.setCell ⟨W1.heap.size, 4, none⟩ (.int .i64 fac) = T4 := ⟨_, rfl⟩
  have RT4 := hide (hT4 ▸ RT3.out.set 4 (.int .i64 fac) (by omega) : C6 T4 W1.heap.size _)
  have eT4 : T3.cell? ⟨W1.heap.size, 4, none⟩ = some (.int .i64 0) := RT3.out.c 4 (by omega)
  have fT4 := RT3.out.f 4
  have kT4 : Kept (· = W1.heap.size) T3 T4 := hT4 ▸ Kept.setCell T3 ⟨W1.heap.size, 4, none⟩ _
  have BT4 := hide (hT4 ▸ BT3.out.setCell (p := ⟨W1.heap.size, 4, none⟩) (Nat.le_of_lt Y.out.1) _ : Below w.heap.size w T4)
  replace QP := hide (QP.out.kept kT4 (fun k q e => by have := UP.out k q; have := Y.out; have e : k = W1.heap.size := e; omega))
  replace QF := hide (QF.out.kept kT4 (fun k q e => by have := UF.out k q; have := Y.out; have e : k = W1.heap.size := e; omega))
  replace QS := hide (QS.out.kept kT4 (fun k q e => by have := US.out k q; have := Y.out; have e : k = W1.heap.size := e; omega))
  clear kT4
  obtain ⟨T5, hT5⟩ : ∃ T5, T4.setCell ⟨W1.heap.size, 5, none⟩ (.int .i64 good) = T5 := ⟨_, rfl⟩
  have RT5 := hide (hT5 ▸ RT4.out.set 5 (.int .i64 good) (by omega) : C6 T5 W1.heap.size _)
  have eT5 : T4.cell? ⟨W1.heap.size, 5, none⟩ = some (.int .i64 0) := RT4.out.c 5 (by omega)
  have fT5 := RT4.out.f 5
  have kT5 : Kept (· = W1.heap.size) T4 T5 := hT5 ▸ Kept.setCell T4 ⟨W1.heap.size, 5, none⟩ _
  have BT5 := hide (hT5 ▸ BT4.out.setCell (p := ⟨W1.heap.size, 5, none⟩) (Nat.le_of_lt Y.out.1) _ : Below w.heap.size w T5)
  replace QP := hide (QP.out.kept kT5 (fun k q e => by have := UP.out k q; have := Y.out; have e : k = W1.heap.size := e; omega))
  replace QF := hide (QF.out.kept kT5 (fun k q e => by have := UF.out k q; have := Y.out; have e : k = W1.heap.size := e; omega))
  replace QS := hide (QS.out.kept kT5 (fun k q e => by have := US.out k q; have := Y.out; have e : k = W1.heap.size := e; omega))
  clear kT5
  have r0 : T5.cell? ⟨W1.heap.size, 0, none⟩ = some (.slice p n c) := RT5.out.c 0 (by omega)
  have r1 : T5.cell? ⟨W1.heap.size, 1, none⟩ = some (.slice f n d) := RT5.out.c 1 (by omega)
  have r2 : T5.cell? ⟨W1.heap.size, 2, none⟩ = some (.slice s n g) := RT5.out.c 2 (by omega)
  have r3 : T5.cell? ⟨W1.heap.size, 3, none⟩ = some (.int .i64 cnt) := RT5.out.c 3 (by omega)
  have r4 : T5.cell? ⟨W1.heap.size, 4, none⟩ = some (.int .i64 fac) := RT5.out.c 4 (by omega)
  have r5 : T5.cell? ⟨W1.heap.size, 5, none⟩ = some (.int .i64 good) := RT5.out.c 5 (by omega)
  go_wp2_with fail
  exact bodyPost_ret (v := .agg #[.slice p n c, .slice f n d, .slice s n g, .int .i64 cnt, .int .i64 fac, .int .i64 good]) (by simp [results, Try.results26, go_sem, r0, r1, r2, r3, r4, r5]) rfl ⟨p, f, s, c, d, g, rfl, ⟨QP.out, QF.out, QS.out⟩, APT.out, BT5.out⟩
end Vo
end Go.Proofs.Ytflbhlepmjiejaa

/- A whole step of the program, its lists wherever they lie. -/
namespace Go.Proofs.Ytflbhlepmjiejaa
namespace Vo
open Go.ChangeShapes Go.WideShapes Go.ChangeAt Go.RowKit Go.Joins Go.Sort
open Vl
set_option linter.unusedVariables false
theorem blk_some {g n : Nat} (hn : n ≠ 0) : ∀ b, Blk (some ⟨g, 0, none⟩) n b ↔ b = g := fun b => ⟨fun ⟨_, a, e, q⟩ => by injection e with e; subst e; exact q.symm, fun e => ⟨hn, ⟨g, 0, none⟩, rfl, e.symm⟩⟩
/-- what a step writes into -/
def SW (P n : Nat) (aP aF aS : Option Addr) (b : Nat) : Prop := b = P ∨ Blk aP n b ∨ Blk aF n b ∨ Blk aS n b
theorem stepJ (R : Rl) (hR : R.ok) (s : St) (B E P n cP cF cS cap : Nat) (aP aF aS a : Option Addr) (u : Int) (G Gr : Nat → Int) (w : World) (hs : s.ok n) (hc : s.c ≠ 1000000)
    (hO : C6 w P (OV aP aF aS n cP cF cS s.c s.f s.g)) (hP : OwnL E w aP n s.P) (hF : OwnL E w aF n s.F) (hS : OwnL E w aS n s.S) (hPF : Bhd aP aF n) (hFS : Bhd aF aS n) (hPE : P < E) (hBP : B ≤ P) (hE : E ≤ w.heap.size) (hI : Ints B w a n Gr)
    (u0 : 0 ≤ u) (u1 : u ≤ 16777216)
    (hRt : ∀ w, Calls Try.prog 63 #[.agg #[.int .i64 R.r1, .int .i64 R.r2, .int .i64 R.r3, .int .i64 R.r4], .int .i64 s.c] w fun e w' => e = .returned (.int .i64 u) ∧ Below w.heap.size w w')
    (hG : ib (-16777216) 16777216 n Gr = true → (∀ j, j < n → -16777216 ≤ G j ∧ G j ≤ 16777216) ∧ ∀ w, Ints w.heap.size w a n Gr → Calls Try.prog 65 #[.agg #[.int .i64 R.d, .int .i64 R.r1, .int .i64 R.r2, .int .i64 R.r3, .int .i64 R.r4, .int .i64 R.k, .int .i64 R.z, .int .i64 R.o, .int .i64 R.y, .int .i64 R.mo, .int .i64 R.gr], .slice a n cap, .int .i64 s.f] w (ListR n G w)) :
    Calls Try.prog 51 #[.pointer (some ⟨P, 0, none⟩), .agg #[.int .i64 R.d, .int .i64 R.r1, .int .i64 R.r2, .int .i64 R.r3, .int .i64 R.r4, .int .i64 R.k, .int .i64 R.z, .int .i64 R.o, .int .i64 R.y, .int .i64 R.mo, .int .i64 R.gr], .slice a n cap] w fun e w' => (∃ v, e = .returned v) ∧
      C6 w' P (OV aP aF aS n cP cF cS (s.next R n u G Gr).c (s.next R n u G Gr).f (s.next R n u G Gr).g) ∧ (OwnL E w' aP n (s.next R n u G Gr).P ∧ OwnL E w' aF n (s.next R n u G Gr).F ∧ OwnL E w' aS n (s.next R n u G Gr).S) ∧ Kept (SW P n aP aF aS) w w' := by
  obtain ⟨n4, -, -, ⟨c0, c1⟩, ⟨g0, g1⟩, hin, hf⟩ := id hs
  have hd := (rul_of hR).1
  have hz := hO.z
  obtain ⟨k, k1, ek⟩ := pow_pw hf
  have f01 : 1 ≤ s.f ∧ s.f ≤ 65536 := by
    have : ∀ k : Fin 17, (1 : Int) ≤ 2 ^ k.val ∧ (2 : Int) ^ k.val ≤ 65536 := by decide +kernel
    rw [ek]; exact this ⟨k, by omega⟩
  have eqs : ((s.next R n u G Gr).c = s.c + 1 ∧ (s.next R n u G Gr).f = (if ib (-16777216) 16777216 n Gr = true then nFac s.f s.g R.gr else max (s.f.tdiv 2) 1) ∧ (s.next R n u G Gr).g = (if ib (-16777216) 16777216 n Gr = true then nGood s.g R.gr else 0)) ∧
      (s.next R n u G Gr).P = (fun j => if ib (-16777216) 16777216 n Gr = true then nP R.d R.k R.z R.o R.y u (s.P j) (s.F j) (s.S j) (G j) else s.P j) ∧ (s.next R n u G Gr).F = (fun j => if ib (-16777216) 16777216 n Gr = true then nF R.d R.k (s.F j) (G j) else s.F j) ∧ (s.next R n u G Gr).S = (fun j => if ib (-16777216) 16777216 n Gr = true then nS R.d R.z (s.S j) (G j) else s.S j) := by
    unfold St.next
    by_cases c : ib (-16777216) 16777216 n Gr = true
    · simp only [if_pos c]; exact ⟨⟨trivial, trivial, trivial⟩, trivial, trivial, trivial⟩
    · simp only [if_neg c]; exact ⟨⟨trivial, trivial, trivial⟩, trivial, trivial, trivial⟩
  obtain ⟨⟨e1, e2, e3⟩, e4, e5, e6⟩ := eqs
  rw [e1, e2, e3, e4, e5, e6]
  have go : ∀ gP gF gS : Nat, (n = 0 ∨ (aP = some ⟨gP, 0, none⟩ ∧ aF = some ⟨gF, 0, none⟩ ∧ aS = some ⟨gS, 0, none⟩)) → Rw w gP n s.P → Rw w gF n s.F → Rw w gS n s.S → (gP ≠ gF ∧ gP ≠ gS ∧ gF ≠ gS) → (E ≤ gP ∧ E ≤ gF ∧ E ≤ gS) → (w.heap.size ≠ gP ∧ w.heap.size ≠ gF ∧ w.heap.size ≠ gS) → (∀ b, b < w.heap.size → T3 gP gF gS b → SW P n aP aF aS b) → (n ≠ 0 → True) →
      Calls Try.prog 51 #[.pointer (some ⟨P, 0, none⟩), .agg #[.int .i64 R.d, .int .i64 R.r1, .int .i64 R.r2, .int .i64 R.r3, .int .i64 R.r4, .int .i64 R.k, .int .i64 R.z, .int .i64 R.o, .int .i64 R.y, .int .i64 R.mo, .int .i64 R.gr], .slice a n cap] w fun e w' => (∃ v, e = .returned v) ∧
        C6 w' P (OV aP aF aS n cP cF cS (s.c + 1) (if ib (-16777216) 16777216 n Gr = true then nFac s.f s.g R.gr else max (s.f.tdiv 2) 1) (if ib (-16777216) 16777216 n Gr = true then nGood s.g R.gr else 0)) ∧
        (OwnL E w' aP n (fun j => if ib (-16777216) 16777216 n Gr = true then nP R.d R.k R.z R.o R.y u (s.P j) (s.F j) (s.S j) (G j) else s.P j) ∧ OwnL E w' aF n (fun j => if ib (-16777216) 16777216 n Gr = true then nF R.d R.k (s.F j) (G j) else s.F j) ∧ OwnL E w' aS n (fun j => if ib (-16777216) 16777216 n Gr = true then nS R.d R.z (s.S j) (G j) else s.S j)) ∧ Kept (SW P n aP aF aS) w w' := by
    intro gP gF gS hA q1 q2 q3 q4 q5 q6 q7 _
    refine (stepI B P n cP cF cS cap gP gF gS aP aF aS a s.c s.f s.g u R.d R.r1 R.r2 R.r3 R.r4 R.k R.z R.o R.y R.mo R.gr s.P s.F s.S G Gr _ w hd rfl hO hA q1 q2 q3 ⟨q4, ⟨by omega, by omega, by omega⟩, by omega, by omega, by omega⟩ q6 (by omega) hI n4 c0 (by omega) f01.1 f01.2 g0 g1 hRt (fun h => (hG h).2) (fun h j hj => St.pin hs hR u0 u1 hj ((hG h).1 j hj).1 ((hG h).1 j hj).2)).mono ?_
    rintro e w' ⟨h1, h2, ⟨r1, r2, r3⟩, h4⟩
    have own : ∀ {al : Option Addr} {g : Nat} {D : Nat → Int}, (n = 0 ∨ al = some ⟨g, 0, none⟩) → E ≤ g → Rw w' g n D → OwnL E w' al n D := fun h hg hr => by
      rcases h with h | h
      · exact .inl h
      · exact .inr ⟨_, h, hg, hr⟩
    refine ⟨h1, h2, ⟨own (hA.imp id (fun h => h.1)) q5.1 r1, own (hA.imp id (fun h => h.2.1)) q5.2.1 r2, own (hA.imp id (fun h => h.2.2)) q5.2.2 r3⟩, ?_⟩
    exact h4.mono (fun b hb q => by
      rcases q with q | q
      · exact .inl q
      · exact q7 b hb q)
  by_cases hn : n = 0
  · have z : ∀ (g : Nat) (D : Nat → Int), Rw w g n D := fun g D t ht => by omega
    exact go (w.heap.size + 1) (w.heap.size + 2) (w.heap.size + 3) (.inl hn) (z _ _) (z _ _) (z _ _) ⟨by omega, by omega, by omega⟩ ⟨by omega, by omega, by omega⟩ ⟨by omega, by omega, by omega⟩ (fun b hb q => by rcases q with q | q | q <;> omega) (fun _ => trivial)
  · rcases hP with h | ⟨gP, rfl, p1, p2⟩
    · exact absurd h hn
    rcases hF with h | ⟨gF, rfl, f1, f2⟩
    · exact absurd h hn
    rcases hS with h | ⟨gS, rfl, s1, s2⟩
    · exact absurd h hn
    obtain ⟨N, a1, a2⟩ := hPF
    obtain ⟨M, b1, b2⟩ := hFS
    have x1 := a1 gP ((blk_some hn gP).2 rfl)
    have x2 := a2 gF ((blk_some hn gF).2 rfl)
    have x3 := b1 gF ((blk_some hn gF).2 rfl)
    have x4 := b2 gS ((blk_some hn gS).2 rfl)
    have y1 := p2.lt hn
    have y2 := f2.lt hn
    have y3 := s2.lt hn
    refine go gP gF gS (.inr ⟨rfl, rfl, rfl⟩) p2 f2 s2 ⟨by omega, by omega, by omega⟩ ⟨p1, f1, s1⟩ ⟨by omega, by omega, by omega⟩ (fun b hb q => ?_) (fun _ => trivial)
    rcases q with q | q | q
    · exact .inr (.inl ((blk_some hn b).2 q))
    · exact .inr (.inr (.inl ((blk_some hn b).2 q)))
    · exact .inr (.inr (.inr ((blk_some hn b).2 q)))
end Vo
end Go.Proofs.Ytflbhlepmjiejaa

/- What the exact laws do with views: copied, compared, marked. -/
namespace Go.Proofs.Ytflbhlepmjiejaa
namespace Vo
open Go.ChangeShapes Go.WideShapes Go.ChangeAt Go.RowKit Go.Joins
open Vl Vp
set_option linter.unusedVariables false
set_option linter.unusedSimpArgs false

/-- a view of one's own: two lists in blocks of their own, at or beyond B -/
structure VOwn (B : Nat) (w : World) (a b : Option Addr) (r s : Nat) (D S : Nat → Int) : Prop where
  d : OwnL B w a r D
  t : OwnL B w b s S
  ne : ∀ k, Blk a r k → Blk b s k → False
theorem VOwn.below {B : Nat} {w w' : World} {a b : Option Addr} {r s : Nat} {D S : Nat → Int} (h : VOwn B w a b r s D S) (hb : Below w.heap.size w w') : VOwn B w' a b r s D S := ⟨h.d.below hb, h.t.below hb, h.ne⟩
theorem VOwn.mono {B B' : Nat} {w : World} {a b : Option Addr} {r s : Nat} {D S : Nat → Int} (h : VOwn B w a b r s D S) (hb : B' ≤ B) : VOwn B' w a b r s D S := ⟨h.d.mono hb, h.t.mono hb, h.ne⟩
/-- the blocks of a view -/
def VBlk (a b : Option Addr) (r s : Nat) : Nat → Prop := fun k => Blk a r k ∨ Blk b s k
theorem VOwn.blk {B : Nat} {w : World} {a b : Option Addr} {r s : Nat} {D S : Nat → Int} (h : VOwn B w a b r s D S) {k : Nat} (hk : VBlk a b r s k) : B ≤ k ∧ k < w.heap.size := by
  rcases hk with hk | hk
  · exact h.d.blk hk
  · exact h.t.blk hk
theorem Box.kept {T : Nat → Prop} {w w' : World} {p : Nat} {v0 v1 v2 v3 : Value} (h : Box w p v0 v1 v2 v3) (hb : Kept T w w') (hp : p < w.heap.size) (hn : ¬ T p) : Box w' p v0 v1 v2 v3 := by
  unfold Box at *
  have e := hb.block p hp hn
  rw [World.cell?_of_block (w := w) (a := ⟨p, 0, none⟩) e, World.cell?_of_block (w := w) (a := ⟨p, 1, none⟩) e, World.cell?_of_block (w := w) (a := ⟨p, 2, none⟩) e, World.cell?_of_block (w := w) (a := ⟨p, 3, none⟩) e]
  exact h
theorem VOwn.kept {T : Nat → Prop} {B : Nat} {w w' : World} {a b : Option Addr} {r s : Nat} {D S : Nat → Int} (h : VOwn B w a b r s D S) (hk : Kept T w w') (hs : ∀ k, VBlk a b r s k → ¬ T k) : VOwn B w' a b r s D S :=
  ⟨h.d.kept hk (fun k q => hs k (.inl q)), h.t.kept hk (fun k q => hs k (.inr q)), h.ne⟩

theorem Rw.other {w : World} {g r : Nat} {D : Nat → Int} {p : Addr} {v : Value} (h : Rw w g r D) (hn : g ≠ p.block) : Rw (w.setCell p v) g r D := h.kept (Kept.setCell w p v) hn
end Vo
end Go.Proofs.Ytflbhlepmjiejaa

/- Lists of lists in memory: what the laws do with them. -/
namespace Go.Proofs.Ytflbhlepmjiejaa
namespace Vo
open Go.ChangeShapes Go.WideShapes Go.ChangeAt Go.RowKit Go.Joins Go.Sort
open Vl Vp
set_option linter.unusedVariables false
set_option linter.unusedSimpArgs false
/-- a list of a list -/
structure LV where
  a : Option Addr
  r : Nat
  cap : Nat
  D : Nat → Int
/-- a list of lists that can be read -/
def LL (B : Nat) (w : World) (a : Option Addr) (n : Nat) (L : Nat → LV) : Prop :=
  n = 0 ∨ ∃ blk off, a = some ⟨blk, off, none⟩ ∧ blk < B ∧ ∀ i, i < n → w.cell? ⟨blk, off + i, none⟩ = some (.slice (L i).a (L i).r (L i).cap) ∧ Ints B w (L i).a (L i).r (L i).D
theorem LL.below {B : Nat} {w w' : World} {a : Option Addr} {n : Nat} {L : Nat → LV} (h : LL B w a n L) (hb : Below B w w') : LL B w' a n L := by
  rcases h with h | ⟨blk, off, rfl, hB, hc⟩
  · exact .inl h
  · exact .inr ⟨blk, off, rfl, hB, fun i hi => ⟨(hb.cell (p := ⟨blk, off + i, none⟩) hB).trans (hc i hi).1, (hc i hi).2.below hb⟩⟩
theorem LL.mono {B B' : Nat} {w : World} {a : Option Addr} {n : Nat} {L : Nat → LV} (h : LL B w a n L) (hb : B ≤ B') : LL B' w a n L := by
  rcases h with h | ⟨blk, off, rfl, hB, hc⟩
  · exact .inl h
  · exact .inr ⟨blk, off, rfl, by omega, fun i hi => ⟨(hc i hi).1, (hc i hi).2.mono hb⟩⟩
def LLen (n : Nat) (L : Nat → LV) (m : Int) : Prop := ∀ i, i < n → ((L i).r : Int) ≤ m
/-- a row of lists under way: k of them laid -/
structure OLL (w : World) (g n k : Nat) (M : Nat → LV) : Prop where
  lt : g < w.heap.size
  laid : ∀ i, i < k → w.cell? ⟨g, i, none⟩ = some (.slice (M i).a (M i).r (M i).cap)
  rest : ∀ i, k ≤ i → i < n → w.cell? ⟨g, i, none⟩ = some (.slice none 0 0)
  free : ∀ i, w.frozen? ⟨g, i, none⟩ = false
  own : ∀ i, i < k → OwnL (g + 1) w (M i).a (M i).r (M i).D
  ord : ∀ i j, i < j → j < k → ∀ b b', Blk (M i).a (M i).r b → Blk (M j).a (M j).r b' → b < b'
theorem OLL.below {w w' : World} {g n k : Nat} {M : Nat → LV} (h : OLL w g n k M) (hb : Below w.heap.size w w') : OLL w' g n k M :=
  ⟨Nat.lt_of_lt_of_le h.lt hb.size, fun i hi => (hb.cell (p := ⟨g, i, none⟩) h.lt).trans (h.laid i hi), fun i h1 h2 => (hb.cell (p := ⟨g, i, none⟩) h.lt).trans (h.rest i h1 h2), fun i => (hb.frozen (p := ⟨g, i, none⟩) h.lt).trans (h.free i), fun i hi => (h.own i hi).below hb, h.ord⟩
theorem OLL.kept {w w' : World} {g n k b : Nat} {M : Nat → LV} (h : OLL w g n k M) (hk : Kept (· = b) w w') (hf : ∀ i, w'.frozen? ⟨g, i, none⟩ = w.frozen? ⟨g, i, none⟩) (hb : b < g) : OLL w' g n k M :=
  have c : ∀ i, w'.cell? ⟨g, i, none⟩ = w.cell? ⟨g, i, none⟩ := fun i => World.cell?_of_block (w := w) (a := ⟨g, i, none⟩) (hk.block g h.lt (by show ¬ g = b; omega))
  ⟨Nat.lt_of_lt_of_le h.lt hk.size, fun i hi => (c i).trans (h.laid i hi), fun i h1 h2 => (c i).trans (h.rest i h1 h2), fun i => (hf i).trans (h.free i), fun i hi => (h.own i hi).kept hk (fun y hy e => by have e : y = b := e; have := ((h.own i hi).blk hy).1; omega), h.ord⟩
theorem OLL.set {w : World} {g n k b j : Nat} {M : Nat → LV} (h : OLL w g n k M) (u : Value) (hb : b < g) : OLL (w.setCell ⟨b, j, none⟩ u) g n k M :=
  h.kept (Kept.setCell w ⟨b, j, none⟩ u) (fun i => World.frozen?_setCell _ _ _ _) hb
theorem OLL.read {w : World} {g n : Nat} {M : Nat → LV} (h : OLL w g n n M) : LL w.heap.size w (some ⟨g, 0, none⟩) n M :=
  .inr ⟨g, 0, rfl, h.lt, fun i hi => ⟨by rw [Nat.zero_add]; exact h.laid i hi, (h.own i hi).ints⟩⟩
end Vo
end Go.Proofs.Ytflbhlepmjiejaa
