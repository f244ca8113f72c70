/- Lemmas for the proof of the law. -/
import Derived.Test.YtejfodkobfdelaaMgam
import Derived.Test.YtejfodkobfdelaaMgan
import Derived.Test.YtejfodkobfdelaaMgal
import Derived.Lib.QuietBelow
/- Scan on both sides. -/
namespace Go.Proofs.Ytejfodkobfdelaa
namespace Vo
open Go.ChangeShapes Go.WideShapes Go.ChangeAt Go.RowKit Go.Joins Go.Sort
open Vl Vp Vr
set_option linter.unusedVariables false
set_option linter.unusedSimpArgs false

/-- sums of the first ones -/
def scanS (L : Nat → Int) : Nat → Int | 0 => 0 | n + 1 => (scanS L n + L n) % 2147483647
def scanG (L : Nat → Int) (k : Nat) : Int := scanS L (k + 1)
theorem scanS_rng (L : Nat → Int) (n : Nat) : 0 ≤ scanS L n ∧ scanS L n < 2147483647 := by
  cases n with
  | zero => simp [scanS]
  | succ n => unfold scanS; omega
theorem lineAt_od {r s k : Nat} {D S : Nat → Int} (hd : dok r D = true) (hk : k < r) (j : Nat) (hj : (j : Int) < szR D r) : (fun u => S (od D (up1 (dg D r j) k u) r).toNat : Nat → Int) = lineAt S (D k) (bhd D r k) (D k) j := by
  obtain ⟨e1, e2⟩ := dok_pr hd
  funext u
  have := od_moved (a := k) hk e2 (D k) (u : Int) (j : Int) (by omega) (by omega)
  rw [up1_self] at this
  unfold lineAt
  rw [this]
theorem lineP_same {r s : Nat} {D S : Nat → Int} {k : Nat} {G : (Nat → Int) → Nat → Int} (ht : tok r s D S = true) (hk : k < r) :
    lineP r s D S (k : Int) (D k) G = ⟨r, s, D, fun j => G (lineAt S (D k) (bhd D r k) (D k) j) ((j : Int) / bhd D r k % D k).toNat⟩ := by
  obtain ⟨td, ts, tw⟩ := tok_split ht
  rw [lineP_yes ht hk (by rw [up1_self]; exact td), up1_self]
  have : cntT r D = s := by unfold cntT; omega
  rw [this]
/-- a tensor that was answered, stored in the result -/
theorem tens_end {B P : Nat} {v : PT} {w w2 : World} {a b : Option Addr} {c d : Nat} (h : VOwn B w2 a b v.r v.s v.D v.S) (hP : P < B) (hw : w.heap.size ≤ P) (hb : Below w.heap.size w w2) :
    TensR w.heap.size v w (.returned (.agg #[.slice a v.r c, .slice b v.s d])) ((w2.setCell ⟨P, 0, none⟩ (.slice a v.r c)).setCell ⟨P, 1, none⟩ (.slice b v.s d)) := by
  have k2 := kept_sets2 w2 P (.slice a v.r c) (.slice b v.s d)
  refine ⟨a, b, c, d, rfl, (h.kept k2 (fun k q e => ?_)).mono (by omega), hb.trans (k2.below hb.size (fun j e => by have e : j = P := e; omega))⟩
  have := (h.blk q).1
  have e : k = P := e
  omega
end Vo
end Go.Proofs.Ytejfodkobfdelaa

/- One, its pieces: l4One; the function values; elementwise with two captures. -/
namespace Go.Proofs.Ytejfodkobfdelaa
namespace Vo
open Go.ChangeShapes Go.WideShapes Go.ChangeAt Go.RowKit Go.Joins Go.Sort
open Vl Vp Vr
set_option linter.unusedVariables false
set_option linter.unusedSimpArgs false

/-- One of a number -/
def one1 (op x : Int) : Int := if op = 1 then (0 - x) % 2147483647 else if op = 2 then Num.pw (x % 2147483647) 2147483645 else if Base.sg (x % 2147483647) ≤ 0 then 0 else if op = 3 then 1 else x
def isN (x : Int) : Prop := 0 ≤ x ∧ x < 2147483647
set_option maxHeartbeats 1000000 in
theorem elementwise2 (N : Nat) (F : Nat) (c c' : Value) (G : Nat → Int) (w : World) (hN : (N : Int) ≤ 4194304) (hG : ∀ k, k < N → bd (G k)) (eF : ∀ args w, (callFunc F args).run Try.prog w = .ok (.enter F args) w)
    (hf : ∀ (k : Nat) (W : World), k < N → Below w.heap.size w W → Calls Try.prog F #[.int .i64 k, c, c'] W fun e W' => e = .returned (.int .i64 (G k)) ∧ Below W.heap.size W W') :
    Calls Try.prog 41 #[.int .i64 N, .func (.func F) #[] #[c, c']] w fun e w' => e = .returned (.slice (some ⟨w.heap.size, 0, none⟩) N N) ∧ Rw w' w.heap.size N G ∧ w.heap.size < w'.heap.size ∧ Below w.heap.size w w' := by
  have hmk := make_int N (by omega)
  have HF := hide hf
  have HG := hide hG
  clear hf hG
  go_enter Try.func41, Try.ntmps41
  go_wp2_with fail
  go_loopw [11] (fun i wx => ∃ k : Nat, k ≤ N ∧ i = .int .i64 k ∧ Rw wx w.heap.size N (fun t => if t < k then G t else 0) ∧ w.heap.size < wx.heap.size ∧ Below w.heap.size w wx) (fun i _ => N - (intOf i).toNat)
  case atStart => exact ⟨0, Nat.zero_le _, rfl, (rw_new w N _).same (fun t ht => by simp), by simp, (Below.refl _ _).alloc (Nat.le_refl _) _⟩
  case round =>
    obtain ⟨k, hk, rfl, hw, hs, hb⟩ := hrel
    have HW := hide hw
    have HB := hide hb
    clear hw hb
    by_cases hlt : k < N
    · have hkI : (k : Int) < N := by omega
      go_wp2_with fail
      refine (HF.out k _ hlt HB.out).mono ?_
      rintro e w1 ⟨rfl, b1⟩
      have HW1 := hide (HW.out.below b1 hs)
      have HB1 := hide (HB.out.trans (b1.mono HB.out.size))
      have hs1 : w.heap.size < w1.heap.size := Nat.lt_of_lt_of_le hs b1.size
      obtain ⟨c2, f2, _⟩ := HW1.out k hlt
      clear b1
      go_wp2_with fail
      go_roundw
      case rel => exact ⟨k + 1, by omega, by go_num, (HW1.out.set k (G k) (HG.out k hlt)).same (fun t ht => by by_cases c : t = k <;> by_cases c2 : t < k <;> simp [c, c2] <;> omega), by simpa [World.setCell] using hs1, HB1.out.setCell (p := ⟨w.heap.size, k, none⟩) (Nat.le_refl _) _⟩
      case measure => simp [intOf]; omega
    · have e : k = N := by omega
      go_wp2_with fail
      go_ret
      exact ⟨rfl, HW.out.same (fun t ht => by simp; intro; omega), hs, HB.out⟩
end Vo
end Go.Proofs.Ytejfodkobfdelaa
