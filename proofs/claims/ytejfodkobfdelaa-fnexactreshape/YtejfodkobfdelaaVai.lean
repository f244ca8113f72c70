/- A region that draws its order, inside a round; slices.Backward. -/
import Derived.Test.YtejfodkobfdelaaVag
import Derived.Test.YtejfodkobfdelaaVz
import Derived.Test.YtejfodkobfdelaaVc
import Derived.OrdersIn
namespace Go.Proofs.Ytejfodkobfdelaa
namespace Vo
open Go.ChangeShapes Go.WideShapes Go.ChangeAt Go.RowKit Go.Joins
open Vl Vp Vr
set_option linter.unusedVariables false
attribute [local go_sem] Oper.semAt_some

section
variable {F : Fence} {n : Nat} {P : Program} {ops : Array Oper} {Q : Exit → Act → World → Prop} {md : Region.Mode}
/-- no deferring among them -/
def noDefer (ops : Array Oper) : Bool := ops.toList.all fun o => match o.op with | .defer _ => false | _ => true
theorem noDefer_spec (h : noDefer ops = true) {j : Nat} {o : Oper} (hj : ops[j]? = some o) : ∀ c, o.op ≠ .defer c := by
  intro c e
  unfold noDefer at h
  have hm : o ∈ ops.toList := by
    rw [← Array.getElem?_toList] at hj
    exact List.mem_of_getElem? hj
  have := List.all_eq_true.1 h o hm
  rw [e] at this
  simp at this
/-- an operation inside a round: as outside -/
theorem wpOp_round (l : Nat) (hro : F.round = none) (hd : noDefer ops = true) {i : Nat} {K : Act → World → Prop} {a : Act} {w : World} (h : wpOpIn F n P ops Q i K a w) : wpOpIn (F.inRound l) n P ops Q i K a w := by
  unfold wpOpIn at *
  cases q : ops[i]? with
  | none => simpa [q] using h
  | some o =>
    simp only [q] at h ⊢
    by_cases hw : Region.wanted o (yielded ops a.tmps) = true
    · rw [if_pos hw] at h ⊢
      unfold Oper.wpIn at *
      refine ⟨h.1, ?_⟩
      have h2 := h.2
      rw [hro, Oper.semAt_none] at h2
      rw [Oper.semAt_eq _ _ _ (noDefer_spec hd q)]
      generalize (execOp a.eval o).run P w = r at *
      cases r with
      | ok x w' => cases x <;> exact h2
      | halt x w' => cases x <;> exact h2
    · rw [if_neg hw] at h ⊢
      exact h
theorem wpAny_round (l : Nat) (hro : F.round = none) (hd : noDefer ops = true) : ∀ (fuel : Nat) (listed : Array Bool) (a : Act) (w : World), wpAnyIn F n P md ops Q fuel listed a w → wpAnyIn (F.inRound l) n P md ops Q fuel listed a w
  | 0, _, _, _, h => h
  | fuel + 1, listed, a, w, h => ⟨h.1, fun i hi => wpOp_round l hro hd (wpOpIn_mono (fun a w => wpAny_round l hro hd fuel _ a w) (h.2 i hi))⟩
theorem region_round {l : Nat} {id : Nat} {a : Act} {w : World} (hm : P.follows .mixedOrders = true) (hro : F.round = none) (hd : noDefer ops = true)
    (h : wpAnyIn F n P .any ops Q ops.size (Array.replicate ops.size false) a w.drew) : (Code.region id ops true).wpIn (F.inRound l) n P Q a w :=
  wpIn_region_any hm (wpAny_round l hro hd _ _ _ _ h)
/-- a call at such a step -/
theorem stepIn_call {o : Oper} {a : Act} {w : World} {K : Act → World → Prop} {E : Prop} (hgd : o.guard = none) (f : FuncId) (xs : Array Operand) (ts : Array TypeId)
    (ho : o.op = .call { callee := .value (.func f), args := xs, argTypes := ts }) (eg : ∀ args w, (callFunc f args).run P w = .ok (.enter f args) w) (vs : Array Value) (hx : xs.map a.eval = vs) (R : Value → World → Prop)
    (hc : Calls P f vs w fun e w' => ∃ u, e = .returned u ∧ R u w') (h : ∀ u w', R u w' → K (a.put o.dst u) w') : if Region.wanted o (yielded ops a.tmps) = true then o.wpIn Fence.wide n P a w K Q else E := by
  have hw : Region.wanted o (yielded ops a.tmps) = true := by simp [Region.wanted, hgd]
  rw [if_pos hw]
  have he : (execOp a.eval o).run P w = .ok (.enter f vs) w := by
    unfold execOp
    simp [ho, resolve, invoke, go_sem, hx, eg, Act.eval]
  unfold Oper.wpIn
  refine ⟨fun _ _ => trivial, ?_⟩
  rw [show Fence.wide.round = none from rfl, Oper.semAt_none, he, Oper.uponIn_enter]
  refine ⟨(fun h => by cases h), callsIn_wide.2 (hc.mono ?_)⟩
  rintro e w' ⟨u, rfl, hr⟩
  exact h u w' hr
end
theorem strideOf (x y : Int) (w : World) : Calls Try.prog 92 #[.int .i64 x, .int .i64 y] w fun e w' => e = .returned (.int .i64 (if x = 1 then 0 else y)) ∧ w' = w := by
  by_cases c : x = 1
  · have c' : (x == 1) = true := beq_iff_eq.2 c
    rw [if_pos c]
    clear c
    go_enter Try.func92, Try.ntmps92
    go_wp2_with fail
    go_ret
    exact ⟨rfl, rfl⟩
  · have c' : (x == 1) = false := beq_eq_false_iff_ne.2 c
    rw [if_neg c]
    clear c
    go_enter Try.func92, Try.ntmps92
    go_wp2_with fail
    go_ret
    exact ⟨rfl, rfl⟩
theorem backwardF (a : Option Addr) (r cap : Nat) (w : World) :
    Calls Try.prog 99 #[.slice a r cap] w fun e w' => e = .returned (.func (.func 103) #[] #[.pointer (some ⟨w.heap.size, 0, none⟩)]) ∧ w' = w.alloc (.cells #[.slice a r cap] 22) := by
  go_enter Try.func99, Try.ntmps99
  go_wp2_with fail
  go_ret
  exact ⟨rfl, rfl⟩
set_option maxRecDepth 100000 in
set_option maxHeartbeats 1000000 in
theorem backward1 (p B : Nat) (a : Option Addr) (r cap : Nat) (D : Nat → Int) (own : Nat → Prop) (w : World) (hx : w.cell? ⟨p, 0, none⟩ = some (.slice a r cap)) (hp : p < w.heap.size) (hpo : ¬ own p) (hown : ∀ k, own k → k < w.heap.size)
    (hB : B ≤ w.heap.size) (h : Ints B w a r D) (hBo : ∀ k, k < B → ¬ own k) (hr : (r : Int) ≤ 1048576) :
    SeqN Try.prog 103 #[.pointer (some ⟨p, 0, none⟩)] (fun k => #[.int .i64 ((r : Int) - 1 - k), .int .i64 (D (r - 1 - k))]) r own w := by
  intro J Jx W hW hWs hJ hJx hY h0
  have x0 := below_cell hW (p := ⟨p, 0, none⟩) hp hx
  have H := hide (h.below (hW.mono hB))
  have HJ := hide hJ
  have HJx := hide hJx
  have HY := hide hY
  have H0 := hide h0
  have HOwn := hide hown
  have HBo := hide hBo
  clear hx h hJ hJx hY h0 hown hBo
  generalize hz : w.heap.size = z at *
  have wr0 : IntKind.i64.wrap ((r : Int) - 1) = (r : Int) - 1 := by rw [IntKind.wrap_i64]; omega
  show Calls Try.prog 103 #[.func (.yield (z + 1)) #[] #[], .pointer (some ⟨p, 0, none⟩)] W _
  go_enter Try.func103, Try.ntmps103
  go_wp2_with fail
  go_loopg [3] r (fun m i wx => ∃ k : Nat, k + m = r ∧ i = .int .i64 ((m : Int) - 1) ∧ J k wx ∧ wx.cell? ⟨p, 0, none⟩ = some (.slice a r cap) ∧ Ints B wx a r D ∧ z + 2 ≤ wx.heap.size)
  case atStart => exact ⟨0, by omega, rfl, H0.out, x0, H.out, by omega⟩
  case round =>
    obtain ⟨k, hkm, rfl, hj, hc, ha, hsz⟩ := hrel
    clear x0
    cases gk with
    | zero =>
      obtain rfl : k = r := by omega
      have JJ := hide hj
      rw [show (((0 : Nat) : Int) - 1) = -1 from rfl]
      clear hj ha
      go_wp2_with fail
      refine bodyPost_end (results_none rfl _ _ _) rfl ⟨⟨_, rfl⟩, .inl JJ.out⟩
    | succ m =>
      have hkN : k < r := by omega
      have HkN := hide hkN
      obtain ⟨fn, tmps, asg, bdy, hy, hR⟩ := HY.out k wr hj hkN
      rw [show ((r : Int) - 1 - k) = (m : Int) by omega, show r - 1 - k = m by omega] at hy
      rw [show (((m + 1 : Nat) : Int) - 1) = (m : Int) by omega]
      have hmr : m < r := by omega
      have hmI : (m : Int) < r := by omega
      have m0 : (0 : Int) ≤ (m : Int) := by omega
      have wr1 : IntKind.i64.wrap ((m : Int) - 1) = (m : Int) - 1 := by rw [IntKind.wrap_i64]; omega
      have HA := hide ha
      have HR := hide hR
      have HC := hide hc
      rcases ha with h0 | ⟨b, off, rfl, hbB, hcc⟩
      · omega
      have c1 := (hcc m hmr).1
      clear hcc hR hj
      refine (wpIn_wide (n := 0)).1 ?_
      gi_wp2
      refine ⟨rfl, HR.out.mono ?_⟩
      rintro e A (⟨rfl, hj1, hk1⟩ | ⟨rfl, hjx, hk1⟩)
      rotate_left
      · have JX := hide hjx
        clear hjx hk1 HR hy
        gi_wp2
        go_wp2_with fail
        refine bodyPost_ret (results_none rfl _ _ _) rfl ⟨⟨_, rfl⟩, .inr ⟨k, HkN.out, JX.out⟩⟩
      · have nt : ∀ t, (t < z ∧ ¬ own t) → ¬ Turn own z t := by
          rintro t ht (e | e | e)
          · exact ht.2 e
          · omega
          · omega
        have sA := hk1.size
        have HA1 := hide (HA.out.kept (by omega) hk1 (fun t ht => nt t ⟨by omega, HBo.out t ht⟩))
        have HC1 := hide ((World.cell?_of_block (w := wr) (a := ⟨p, 0, none⟩) (hk1.block p (by omega) (nt p ⟨hp, hpo⟩))).trans HC.out)
        have JK := hide hj1
        clear hj1 hk1 nt HR hy HA c1 hc
        gi_wp2
        go_wp2_with fail
        go_roundg m
        case rel => exact ⟨k + 1, by omega, rfl, JK.out, HC1.out, HA1.out, by omega⟩
        case measure => omega
end Vo
end Go.Proofs.Ytejfodkobfdelaa
