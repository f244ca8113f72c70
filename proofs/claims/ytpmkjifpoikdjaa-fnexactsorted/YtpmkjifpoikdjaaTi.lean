/- Scan on both sides. -/
import Derived.Test.YtpmkjifpoikdjaaTg
import Derived.Test.YtpmkjifpoikdjaaTh
namespace Go.Proofs.Ytpmkjifpoikdjaa
namespace Vo
open Go.ChangeShapes Go.WideShapes Go.ChangeAt Go.RowKit Go.Joins Go.Sort
open Vl Vp Vr
set_option linter.unusedVariables false
set_option linter.unusedSimpArgs false

/-- sums of the first ones -/
def scanS (L : Nat → Int) : Nat → Int | 0 => 0 | n + 1 => (scanS L n + L n) % 2147483647
def scanG (L : Nat → Int) (k : Nat) : Int := scanS L (k + 1)
theorem scanS_rng (L : Nat → Int) (n : Nat) : 0 ≤ scanS L n ∧ scanS L n < 2147483647 := by
  cases n with
  | zero => simp [scanS]
  | succ n => unfold scanS; omega
theorem lineAt_od {r s k : Nat} {D S : Nat → Int} (hd : dok r D = true) (hk : k < r) (j : Nat) (hj : (j : Int) < szR D r) : (fun u => S (od D (up1 (dg D r j) k u) r).toNat : Nat → Int) = lineAt S (D k) (bhd D r k) (D k) j := by
  obtain ⟨e1, e2⟩ := dok_pr hd
  funext u
  have := od_moved (a := k) hk e2 (D k) (u : Int) (j : Int) (by omega) (by omega)
  rw [up1_self] at this
  unfold lineAt
  rw [this]
theorem lineP_same {r s : Nat} {D S : Nat → Int} {k : Nat} {G : (Nat → Int) → Nat → Int} (ht : tok r s D S = true) (hk : k < r) :
    lineP r s D S (k : Int) (D k) G = ⟨r, s, D, fun j => G (lineAt S (D k) (bhd D r k) (D k) j) ((j : Int) / bhd D r k % D k).toNat⟩ := by
  obtain ⟨td, ts, tw⟩ := tok_split ht
  rw [lineP_yes ht hk (by rw [up1_self]; exact td), up1_self]
  have : cntT r D = s := by unfold cntT; omega
  rw [this]
/-- a tensor that was answered, stored in the result -/
theorem tens_end {B P : Nat} {v : PT} {w w2 : World} {a b : Option Addr} {c d : Nat} (h : VOwn B w2 a b v.r v.s v.D v.S) (hP : P < B) (hw : w.heap.size ≤ P) (hb : Below w.heap.size w w2) :
    TensR w.heap.size v w (.returned (.agg #[.slice a v.r c, .slice b v.s d])) ((w2.setCell ⟨P, 0, none⟩ (.slice a v.r c)).setCell ⟨P, 1, none⟩ (.slice b v.s d)) := by
  have k2 := kept_sets2 w2 P (.slice a v.r c) (.slice b v.s d)
  refine ⟨a, b, c, d, rfl, (h.kept k2 (fun k q e => ?_)).mono (by omega), hb.trans (k2.below hb.size (fun j e => by have e : j = P := e; omega))⟩
  have := (h.blk q).1
  have e : k = P := e
  omega
end Vo
end Go.Proofs.Ytpmkjifpoikdjaa
