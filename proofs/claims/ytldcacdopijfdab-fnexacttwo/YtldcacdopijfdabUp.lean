/- Two: the closure; elementwise of three captures. -/
import Derived.Test.YtldcacdopijfdabUk
import Derived.Lib.QuietBelow
namespace Go.Proofs.Ytldcacdopijfdab
namespace Vo
open Go.ChangeShapes Go.WideShapes Go.ChangeAt Go.RowKit Go.Joins Go.Sort
open Vl Vp Vr
set_option linter.unusedVariables false
set_option linter.unusedSimpArgs false
set_option maxHeartbeats 1000000 in
theorem elementwise3 (N : Nat) (F : Nat) (c c' c'' : Value) (G : Nat → Int) (w : World) (hN : (N : Int) ≤ 4194304) (hG : ∀ k, k < N → bd (G k)) (eF : ∀ args w, (callFunc F args).run Try.prog w = .ok (.enter F args) w)
    (hf : ∀ (k : Nat) (W : World), k < N → Below w.heap.size w W → Calls Try.prog F #[.int .i64 k, c, c', c''] W fun e W' => e = .returned (.int .i64 (G k)) ∧ Below W.heap.size W W') :
    Calls Try.prog 48 #[.int .i64 N, .func (.func F) #[] #[c, c', c'']] w fun e w' => e = .returned (.slice (some ⟨w.heap.size, 0, none⟩) N N) ∧ Rw w' w.heap.size N G ∧ w.heap.size < w'.heap.size ∧ Below w.heap.size w w' := by
  have hmk := make_int N (by omega)
  have HF := hide hf
  have HG := hide hG
  clear hf hG
  go_enter Try.func48, Try.ntmps48
  go_wp2_with fail
  go_loopw [11] (fun i wx => ∃ k : Nat, k ≤ N ∧ i = .int .i64 k ∧ Rw wx w.heap.size N (fun t => if t < k then G t else 0) ∧ w.heap.size < wx.heap.size ∧ Below w.heap.size w wx) (fun i _ => N - (intOf i).toNat)
  case atStart => exact ⟨0, Nat.zero_le _, rfl, (rw_new w N _).same (fun t ht => by simp), by simp, (Below.refl _ _).alloc (Nat.le_refl _) _⟩
  case round =>
    obtain ⟨k, hk, rfl, hw, hs, hb⟩ := hrel
    have HW := hide hw
    have HB := hide hb
    clear hw hb
    by_cases hlt : k < N
    · have hkI : (k : Int) < N := by omega
      go_wp2_with fail
      refine (HF.out k _ hlt HB.out).mono ?_
      rintro e w1 ⟨rfl, b1⟩
      have HW1 := hide (HW.out.below b1 hs)
      have HB1 := hide (HB.out.trans (b1.mono HB.out.size))
      have hs1 : w.heap.size < w1.heap.size := Nat.lt_of_lt_of_le hs b1.size
      obtain ⟨c2, f2, _⟩ := HW1.out k hlt
      clear b1
      go_wp2_with fail
      go_roundw
      case rel => exact ⟨k + 1, by omega, by go_num, (HW1.out.set k (G k) (HG.out k hlt)).same (fun t ht => by by_cases c : t = k <;> by_cases c2 : t < k <;> simp [c, c2] <;> omega), by simpa [World.setCell] using hs1, HB1.out.setCell (p := ⟨w.heap.size, k, none⟩) (Nat.le_refl _) _⟩
      case measure => simp [intOf]; omega
    · have e : k = N := by omega
      go_wp2_with fail
      go_ret
      exact ⟨rfl, HW.out.same (fun t ht => by simp; intro; omega), hs, HB.out⟩
set_option maxHeartbeats 1000000 in
theorem twoPiece (op : Int) (F : Nat) (hF : TwoV op F) (a b a' b' : Option Addr) (r s cap dap r' s' cap' dap' k Pf Pt Pu : Nat) (S S' : Nat → Int) (B : Nat) (W : World) (hf : W.cell? ⟨Pf, 0, none⟩ = some (.func (.func F) #[] #[])) (ht : Bx W Pt (.slice a r cap) (.slice b s dap)) (hu : Bx W Pu (.slice a' r' cap') (.slice b' s' dap')) (h : Ints B W b s S) (h' : Ints B W b' s' S') (hk : k < s) (hk' : k < s') (hn : isN (S k)) (hn' : isN (S' k)) (hs : (s : Int) ≤ 1048576) (hs' : (s' : Int) ≤ 1048576) :
    Calls Try.prog 49 #[.int .i64 k, .pointer (some ⟨Pf, 0, none⟩), .pointer (some ⟨Pt, 0, none⟩), .pointer (some ⟨Pu, 0, none⟩)] W fun e W' => e = .returned (.int .i64 (two1 op (S k) (S' k))) ∧ Below W.heap.size W W' := by
  rcases h with h0 | ⟨b1, o1, rfl, hb1, hc⟩
  · omega
  rcases h' with h0 | ⟨b2, o2, rfl, hb2, hc'⟩
  · omega
  have eF := hF.1
  have k0 := cell_regrown hf
  have k1 := cell_regrown ht.2
  have k2 := cell_regrown (hc k hk).1
  have k3 := cell_regrown hu.2
  have k4 := cell_regrown (hc' k hk').1
  have kI : (k : Int) < s := by omega
  have kI' : (k : Int) < s' := by omega
  have CF := hide (fun (q : Nat) (os : Array Obj) => show Calls Try.prog F #[.int .i64 (S k), .int .i64 (S' k)] (Sort.grow (redrawn W q) os) (fun e w'' => e = .returned (.int .i64 (two1 op (S k) (S' k))) ∧ ∃ p : Regrown, w'' = Sort.grow (redrawn W p.d) p.os) from Calls.regrown_of ((hF.2 (S k) (S' k) _ hn hn').mono (fun e w' q => ⟨q.1, q.2 ▸ Below.refl _ _⟩)))
  clear hc hc' hF hf ht hu
  go_enter Try.func49, Try.ntmps49
  go_wp2_with fail
  refine wp_region_quiet_below (by kernel_rfl) (by kernel_rfl) ?_
  repeat (quiet_step (exact CF.out _ _))
  refine wpQuiet_nil ?_
  intro _ hw'
  obtain ⟨⟨dq, osq⟩, hw''⟩ := hw'
  subst hw''
  go_wp2_with fail
  go_ret
  exact ⟨rfl, below_regrown W dq osq⟩
end Vo
end Go.Proofs.Ytldcacdopijfdab
