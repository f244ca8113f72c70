/- Convolutions, for the law: what they give hangs on numbers alone. -/
import Derived.Test.YtgcialbchmbgkaaZi
import Derived.Test.YtgcialbchmbgkaaLw
namespace Go.Proofs.Ytgcialbchmbgkaa
namespace Vo
open Go.ChangeShapes Go.WideShapes Go.ChangeAt Go.RowKit Go.Joins Go.Sort
open Vl Vp Vr
set_option linter.unusedVariables false
theorem convP_same {x k x' k' : TV} {st pd dl gr : Int} (hx : x.r = x'.r ∧ x.s = x'.s ∧ x.D = x'.D ∧ x.S = x'.S) (hk : k.r = k'.r ∧ k.s = k'.s ∧ k.D = k'.D ∧ k.S = k'.S) : convP x k st pd dl gr = convP x' k' st pd dl gr := by
  obtain ⟨q1, q2, q3, q4⟩ := hx
  obtain ⟨k1, k2, k3, k4⟩ := hk
  have e : ConvOk x k st pd dl gr ↔ ConvOk x' k' st pd dl gr := by
    unfold ConvOk TV.ok
    rw [q1, q2, q3, q4, k1, k2, k3, k4]
  by_cases h : ConvOk x k st pd dl gr
  · rw [convP_yes h, convP_yes (e.1 h), q3, q4, k3, k4]
  · rw [convP_no h, convP_no (fun c => h (e.2 c))]
theorem convP_le (x k : TV) (st pd dl gr : Int) : ((convP x k st pd dl gr).r : Int) ≤ 4096 ∧ ((convP x k st pd dl gr).s : Int) ≤ 4096 := by
  by_cases h : ConvOk x k st pd dl gr
  · rw [convP_yes h]
    have h2 := szR_rng (cvE (zf x.D k.D st pd dl gr)) 4
    exact ⟨by show ((4 : Nat) : Int) ≤ 4096; decide, by show (((szR (cvE (zf x.D k.D st pd dl gr)) 4).toNat : Nat) : Int) ≤ 4096; omega⟩
  · rw [convP_no h]
    exact ⟨by show ((0 : Nat) : Int) ≤ 4096; decide, by show ((0 : Nat) : Int) ≤ 4096; decide⟩
theorem specConv (B : Nat) (x k : TV) (st pd dl gr : Int) (w : World) (hB : B ≤ w.heap.size) (hx : x.read B w) (hk : k.read B w) (lx : (x.r : Int) ≤ 1048576 ∧ (x.s : Int) ≤ 1048576) (lk : (k.r : Int) ≤ 1048576 ∧ (k.s : Int) ≤ 1048576) :
    Calls Try.prog 7 #[.agg #[.slice x.a x.r x.cap, .slice x.b x.s x.dap], .agg #[.slice k.a k.r k.cap, .slice k.b k.s k.dap], .int .i64 st, .int .i64 pd, .int .i64 dl, .int .i64 gr] w fun e w' => TensR w.heap.size (convP x k st pd dl gr) w e w' := by
  by_cases h : ConvOk x k st pd dl gr
  · exact specConvYes B x k st pd dl gr w hB hx hk lx lk h
  · exact specConvNo B x k st pd dl gr w hB hx hk lx lk h
end Vo
end Go.Proofs.Ytgcialbchmbgkaa
