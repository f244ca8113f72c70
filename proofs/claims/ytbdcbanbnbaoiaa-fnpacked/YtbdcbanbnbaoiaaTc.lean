/- elementwise; Fill on both sides. -/
import Derived.Test.YtbdcbanbnbaoiaaTb
import Derived.Test.YtbdcbanbnbaoiaaVag
import Derived.Test.YtbdcbanbnbaoiaaBase
namespace Go.Proofs.Ytbdcbanbnbaoiaa
namespace Vo
open Go.ChangeShapes Go.WideShapes Go.ChangeAt Go.RowKit Go.Joins
open Vl Vp Vr
set_option linter.unusedVariables false
set_option linter.unusedSimpArgs false

/-- a tensor, plain -/
structure PT where
  r : Nat
  s : Nat
  D : Nat → Int
  S : Nat → Int
def PT.zero : PT := ⟨0, 0, fun _ => 0, fun _ => 0⟩
/-- a tensor that is answered: of one's own, from B on -/
def TensR (B : Nat) (v : PT) (w : World) (e : Ending) (w' : World) : Prop :=
  ∃ a b c d, e = .returned (.agg #[.slice a v.r c, .slice b v.s d]) ∧ VOwn B w' a b v.r v.s v.D v.S ∧ Below w.heap.size w w'
theorem tensR_zero {B : Nat} {w w' : World} (hb : Below w.heap.size w w') : TensR B PT.zero w (.returned (.agg #[.slice none 0 0, .slice none 0 0])) w' :=
  ⟨none, none, 0, 0, rfl, ⟨.inl rfl, .inl rfl, fun k h => absurd rfl h.1⟩, hb⟩
theorem kept_sets2 (w : World) (p : Nat) (u0 u1 : Value) : Kept (· = p) w ((w.setCell ⟨p, 0, none⟩ u0).setCell ⟨p, 1, none⟩ u1) :=
  (Kept.setCell w ⟨p, 0, none⟩ u0).trans (Kept.setCell _ ⟨p, 1, none⟩ u1)
theorem kept_drew {S : Nat → Prop} {a b : World} (h : Kept S a b) : Kept S a b.drew := ⟨h.os, h.tape, h.output, h.size, h.block⟩
/-- how many numbers -/
def cntT (r : Nat) (D : Nat → Int) : Nat := (szR D r).toNat
theorem cntT_cast (r : Nat) (D : Nat → Int) : ((cntT r D : Nat) : Int) = szR D r := by unfold cntT; have := szR_rng D r; omega
theorem cntT_le (r : Nat) (D : Nat → Int) : ((cntT r D : Nat) : Int) ≤ 4096 := by rw [cntT_cast]; exact (szR_rng D r).2
def fillP (r : Nat) (D : Nat → Int) (x : Int) : PT := if dok r D = true then ⟨r, cntT r D, D, fun _ => x % 2147483647⟩ else PT.zero
theorem fillP_le (r : Nat) (D : Nat → Int) (x : Int) : (fillP r D x).r ≤ r ∧ (((fillP r D x).s : Nat) : Int) ≤ 4096 := by
  unfold fillP
  split
  · exact ⟨Nat.le_refl _, cntT_le r D⟩
  · exact ⟨Nat.zero_le _, by simp [PT.zero]⟩
set_option maxHeartbeats 1000000 in
theorem elementwise1 (N : Nat) (F : Nat) (c : Value) (G : Nat → Int) (w : World) (hN : (N : Int) ≤ 4194304) (hG : ∀ k, k < N → bd (G k)) (eF : ∀ args w, (callFunc F args).run Try.prog w = .ok (.enter F args) w)
    (hf : ∀ (k : Nat) (W : World), k < N → Below w.heap.size w W → Calls Try.prog F #[.int .i64 k, c] W fun e W' => e = .returned (.int .i64 (G k)) ∧ Below W.heap.size W W') :
    Calls Try.prog 31 #[.int .i64 N, .func (.func F) #[] #[c]] w fun e w' => e = .returned (.slice (some ⟨w.heap.size, 0, none⟩) N N) ∧ Rw w' w.heap.size N G ∧ w.heap.size < w'.heap.size ∧ Below w.heap.size w w' := by
  have hmk := make_int N (by omega)
  have HF := hide hf
  have HG := hide hG
  clear hf hG
  go_enter Try.func31, Try.ntmps31
  go_wp2_with fail
  go_loopw [11] (fun i wx => ∃ k : Nat, k ≤ N ∧ i = .int .i64 k ∧ Rw wx w.heap.size N (fun t => if t < k then G t else 0) ∧ w.heap.size < wx.heap.size ∧ Below w.heap.size w wx) (fun i _ => N - (intOf i).toNat)
  case atStart => exact ⟨0, Nat.zero_le _, rfl, (rw_new w N _).same (fun t ht => by simp), by simp, (Below.refl _ _).alloc (Nat.le_refl _) _⟩
  case round =>
    obtain ⟨k, hk, rfl, hw, hs, hb⟩ := hrel
    have HW := hide hw
    have HB := hide hb
    clear hw hb
    by_cases hlt : k < N
    · have hkI : (k : Int) < N := by omega
      go_wp2_with fail
      refine (HF.out k _ hlt HB.out).mono ?_
      rintro e w1 ⟨rfl, b1⟩
      have HW1 := hide (HW.out.below b1 hs)
      have HB1 := hide (HB.out.trans (b1.mono HB.out.size))
      have hs1 : w.heap.size < w1.heap.size := Nat.lt_of_lt_of_le hs b1.size
      obtain ⟨c2, f2, _⟩ := HW1.out k hlt
      clear b1
      go_wp2_with fail
      go_roundw
      case rel => exact ⟨k + 1, by omega, by go_num, (HW1.out.set k (G k) (HG.out k hlt)).same (fun t ht => by by_cases c : t = k <;> by_cases c2 : t < k <;> simp [c, c2] <;> omega), by simpa [World.setCell] using hs1, HB1.out.setCell (p := ⟨w.heap.size, k, none⟩) (Nat.le_refl _) _⟩
      case measure => simp [intOf]; omega
    · have e : k = N := by omega
      go_wp2_with fail
      go_ret
      exact ⟨rfl, HW.out.same (fun t ht => by simp; intro; omega), hs, HB.out⟩
end Vo
end Go.Proofs.Ytbdcbanbnbaoiaa
