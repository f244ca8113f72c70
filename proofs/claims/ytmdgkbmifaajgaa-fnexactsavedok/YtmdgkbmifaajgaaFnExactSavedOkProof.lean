/-
  Proved: whatever the arguments, 'FnExactSavedOk' returns true: the landed function answers as its model, and what came in reads as it did. No condition.
-/
import Derived.Test.YtmdgkbmifaajgaaRows
import Derived.Test.YtmdgkbmifaajgaaVl
import Derived.Test.YtmdgkbmifaajgaaIa
import Derived.Test.YtmdgkbmifaajgaaNea
import Derived.Test.YtmdgkbmifaajgaaIb
import Derived.Test.YtmdgkbmifaajgaaIc
import Derived.Test.YtmdgkbmifaajgaaIe
import Derived.Test.YtmdgkbmifaajgaaEkp
import Derived.Test.YtmdgkbmifaajgaaEk
import Derived.Test.YtmdgkbmifaajgaaEb
import Derived.Test.YtmdgkbmifaajgaaEa
import Derived.Test.YtmdgkbmifaajgaaEj
import Derived.Test.YtmdgkbmifaajgaaEc
import Derived.Test.YtmdgkbmifaajgaaAr
import Derived.Test.YtmdgkbmifaajgaaEf
import Derived.Test.YtmdgkbmifaajgaaEn
import Derived.Test.YtmdgkbmifaajgaaWg
import Derived.Test.YtmdgkbmifaajgaaWh
import Derived.Test.YtmdgkbmifaajgaaBa
import Derived.Test.YtmdgkbmifaajgaaVp
import Derived.Test.YtmdgkbmifaajgaaVs
import Derived.Test.YtmdgkbmifaajgaaVq
import Derived.Test.YtmdgkbmifaajgaaVo
import Derived.Test.YtmdgkbmifaajgaaVm
import Derived.Test.YtmdgkbmifaajgaaVn
import Derived.Test.YtmdgkbmifaajgaaEo
import Derived.Test.YtmdgkbmifaajgaaBb
import Derived.WalkKit
import Derived.ProofKit
import Derived.OpenShut
import Derived.ShutString
import Derived.ChangeOld
import Derived.Below
import Derived.Lib.SmallJoins
import Derived.OpenVars
import Derived.ChangeVars
import Derived.Deep.RegionHeld3
namespace Go.Proofs.Ytmdgkbmifaajgaa.fnExactSavedOk
open Go.ChangeShapes Go.WideShapes Go.ChangeAt Go.RowKit Go.Joins
open Go.ChangeMaps (open_string shut_string)
set_option linter.unusedVariables false
set_option linter.unusedSimpArgs false

theorem own : ownKnob Try.prog.godebug = none := by kernel_rfl
theorem laidOut : laidOutB Try.prog = true := by kernel_rfl

set_option maxRecDepth 100000 in
set_option maxHeartbeats 4000000 in
theorem walk (t : ByteArray) (a b c : Option Addr) (r q s cap dap eap : Nat) (n f o u0 u1 u2 u3 u4 u5 : Int) (wt0 : t.size ≤ maxLen) (bn0 : Vl.bd n) (bf0 : Vl.bd f) (bo0 : Vl.bd o) (d00 : Vl.bd u0) (d10 : Vl.bd u1) (d20 : Vl.bd u2) (d30 : Vl.bd u3) (d40 : Vl.bd u4) (d50 : Vl.bd u5) (w : World) (wa0 : Vl.Arg w a r) (wb0 : Vl.Arg w b q) (wc0 : Vl.Arg w c s) :
    Calls Try.prog 3 #[.agg #[.string t, .slice a r cap, .slice b q dap, .slice c s eap, .int .i64 n, .int .i64 f, .int .i64 o, .int .i64 u0, .int .i64 u1, .int .i64 u2, .int .i64 u3, .int .i64 u4, .int .i64 u5]] w fun e w' => e = .returned (.bool true) ∧ Below w.heap.size w w' := by
  obtain ⟨hr, P, h1⟩ := wa0
  obtain ⟨hq, Q, h2⟩ := wb0
  obtain ⟨hs, S, h3⟩ := wc0
  have H1 := Vl.hide h1
  have H2 := Vl.hide h2
  have H3 := Vl.hide h3
  have HB := Vl.hide (And.intro bn0 (And.intro bf0 (And.intro bo0 (And.intro d00 (And.intro d10 (And.intro d20 (And.intro d30 (And.intro d40 d50))))))))
  clear h1 h2 h3 bn0 bf0 bo0 d00 d10 d20 d30 d40 d50
  obtain ⟨WA, hWA⟩ : ∃ WA, w.alloc (.cells #[.string t, .slice a r cap, .slice b q dap, .slice c s eap, .int .i64 n, .int .i64 f, .int .i64 o, .int .i64 u0, .int .i64 u1, .int .i64 u2, .int .i64 u3, .int .i64 u4, .int .i64 u5] 28) = WA := ⟨_, rfl⟩
  have KA := Vl.hide (show Vo.BoxL WA w.heap.size [.string t, .slice a r cap, .slice b q dap, .slice c s eap, .int .i64 n, .int .i64 f, .int .i64 o, .int .i64 u0, .int .i64 u1, .int .i64 u2, .int .i64 u3, .int .i64 u4, .int .i64 u5] from hWA ▸ Vo.boxL_new w #[.string t, .slice a r cap, .slice b q dap, .slice c s eap, .int .i64 n, .int .i64 f, .int .i64 o, .int .i64 u0, .int .i64 u1, .int .i64 u2, .int .i64 u3, .int .i64 u4, .int .i64 u5] _)
  have BW := Vl.hide (show Below w.heap.size w WA from hWA ▸ (Below.refl _ _).alloc (Nat.le_refl _) _)
  have cA0 : WA.cell? ⟨w.heap.size, 0, none⟩ = some (.string t) := KA.out.2 0 (by show 0 < 13; omega)
  have cA1 : WA.cell? ⟨w.heap.size, 1, none⟩ = some (.slice a r cap) := KA.out.2 1 (by show 1 < 13; omega)
  have cA2 : WA.cell? ⟨w.heap.size, 2, none⟩ = some (.slice b q dap) := KA.out.2 2 (by show 2 < 13; omega)
  have cA3 : WA.cell? ⟨w.heap.size, 3, none⟩ = some (.slice c s eap) := KA.out.2 3 (by show 3 < 13; omega)
  have cA4 : WA.cell? ⟨w.heap.size, 4, none⟩ = some (.int .i64 n) := KA.out.2 4 (by show 4 < 13; omega)
  have cA5 : WA.cell? ⟨w.heap.size, 5, none⟩ = some (.int .i64 f) := KA.out.2 5 (by show 5 < 13; omega)
  have cA6 : WA.cell? ⟨w.heap.size, 6, none⟩ = some (.int .i64 o) := KA.out.2 6 (by show 6 < 13; omega)
  have cA7 : WA.cell? ⟨w.heap.size, 7, none⟩ = some (.int .i64 u0) := KA.out.2 7 (by show 7 < 13; omega)
  have cA8 : WA.cell? ⟨w.heap.size, 8, none⟩ = some (.int .i64 u1) := KA.out.2 8 (by show 8 < 13; omega)
  have cA9 : WA.cell? ⟨w.heap.size, 9, none⟩ = some (.int .i64 u2) := KA.out.2 9 (by show 9 < 13; omega)
  have cA10 : WA.cell? ⟨w.heap.size, 10, none⟩ = some (.int .i64 u3) := KA.out.2 10 (by show 10 < 13; omega)
  have cA11 : WA.cell? ⟨w.heap.size, 11, none⟩ = some (.int .i64 u4) := KA.out.2 11 (by show 11 < 13; omega)
  have cA12 : WA.cell? ⟨w.heap.size, 12, none⟩ = some (.int .i64 u5) := KA.out.2 12 (by show 12 < 13; omega)
  go_enter Try.func3, Try.ntmps3
  go_wp2_with fail
  refine (Vo.szSaved t a b c r q s cap dap eap n f o u0 u1 u2 u3 u4 u5 _ wt0 hr hq hs).mono ?_
  rintro e W1 ⟨x, rfl, hx, bb⟩
  replace KA := Vl.hide (KA.out.below bb)
  replace BW := Vl.hide (BW.out.trans (bb.mono BW.out.size))
  clear bb hWA
  clear cA0 cA1 cA2 cA3 cA4 cA5 cA6 cA7 cA8 cA9 cA10 cA11 cA12
  have cA0 : W1.cell? ⟨w.heap.size, 0, none⟩ = some (.string t) := KA.out.2 0 (by show 0 < 13; omega)
  have cA1 : W1.cell? ⟨w.heap.size, 1, none⟩ = some (.slice a r cap) := KA.out.2 1 (by show 1 < 13; omega)
  have cA2 : W1.cell? ⟨w.heap.size, 2, none⟩ = some (.slice b q dap) := KA.out.2 2 (by show 2 < 13; omega)
  have cA3 : W1.cell? ⟨w.heap.size, 3, none⟩ = some (.slice c s eap) := KA.out.2 3 (by show 3 < 13; omega)
  have cA4 : W1.cell? ⟨w.heap.size, 4, none⟩ = some (.int .i64 n) := KA.out.2 4 (by show 4 < 13; omega)
  have cA5 : W1.cell? ⟨w.heap.size, 5, none⟩ = some (.int .i64 f) := KA.out.2 5 (by show 5 < 13; omega)
  have cA6 : W1.cell? ⟨w.heap.size, 6, none⟩ = some (.int .i64 o) := KA.out.2 6 (by show 6 < 13; omega)
  have cA7 : W1.cell? ⟨w.heap.size, 7, none⟩ = some (.int .i64 u0) := KA.out.2 7 (by show 7 < 13; omega)
  have cA8 : W1.cell? ⟨w.heap.size, 8, none⟩ = some (.int .i64 u1) := KA.out.2 8 (by show 8 < 13; omega)
  have cA9 : W1.cell? ⟨w.heap.size, 9, none⟩ = some (.int .i64 u2) := KA.out.2 9 (by show 9 < 13; omega)
  have cA10 : W1.cell? ⟨w.heap.size, 10, none⟩ = some (.int .i64 u3) := KA.out.2 10 (by show 10 < 13; omega)
  have cA11 : W1.cell? ⟨w.heap.size, 11, none⟩ = some (.int .i64 u4) := KA.out.2 11 (by show 11 < 13; omega)
  have cA12 : W1.cell? ⟨w.heap.size, 12, none⟩ = some (.int .i64 u5) := KA.out.2 12 (by show 12 < 13; omega)
  have HX := Vl.hide hx
  clear hx
  by_cases x0 : x < 0
  · go_wp2_with fail
    go_ret
    exact ⟨rfl, BW.out⟩
  obtain ⟨-, lt, lr, lq, ls⟩ := HX.out (by omega)
  have x0' : decide (x < 0) = false := decide_eq_false x0
  have LL := Vl.hide (And.intro lr (And.intro lq ls))
  clear x0 HX hr hq hs
  have CT := Vl.hide (fun (W : World) (hW : Below w.heap.size w W) => Vo.toSaved w.heap.size t a b c r q s cap dap eap P Q S n f o u0 u1 u2 u3 u4 u5 W hW.size (H1.out.below hW) (H2.out.below hW) (H3.out.below hW) lr lq ls)
  clear lr lq ls lt
  go_wp2_with fail
  refine (CT.out _ BW.out).mono ?_
  rintro e W2 ⟨m1, m2, m3, rfl, ⟨z1, z2, z3, z4⟩, w1, w2, w3, bb⟩
  replace KA := Vl.hide (KA.out.below bb)
  replace BW := Vl.hide (BW.out.trans (bb.mono BW.out.size))
  clear bb
  clear cA0 cA1 cA2 cA3 cA4 cA5 cA6 cA7 cA8 cA9 cA10 cA11 cA12
  have cA0 : W2.cell? ⟨w.heap.size, 0, none⟩ = some (.string t) := KA.out.2 0 (by show 0 < 13; omega)
  have cA1 : W2.cell? ⟨w.heap.size, 1, none⟩ = some (.slice a r cap) := KA.out.2 1 (by show 1 < 13; omega)
  have cA2 : W2.cell? ⟨w.heap.size, 2, none⟩ = some (.slice b q dap) := KA.out.2 2 (by show 2 < 13; omega)
  have cA3 : W2.cell? ⟨w.heap.size, 3, none⟩ = some (.slice c s eap) := KA.out.2 3 (by show 3 < 13; omega)
  have cA4 : W2.cell? ⟨w.heap.size, 4, none⟩ = some (.int .i64 n) := KA.out.2 4 (by show 4 < 13; omega)
  have cA5 : W2.cell? ⟨w.heap.size, 5, none⟩ = some (.int .i64 f) := KA.out.2 5 (by show 5 < 13; omega)
  have cA6 : W2.cell? ⟨w.heap.size, 6, none⟩ = some (.int .i64 o) := KA.out.2 6 (by show 6 < 13; omega)
  have cA7 : W2.cell? ⟨w.heap.size, 7, none⟩ = some (.int .i64 u0) := KA.out.2 7 (by show 7 < 13; omega)
  have cA8 : W2.cell? ⟨w.heap.size, 8, none⟩ = some (.int .i64 u1) := KA.out.2 8 (by show 8 < 13; omega)
  have cA9 : W2.cell? ⟨w.heap.size, 9, none⟩ = some (.int .i64 u2) := KA.out.2 9 (by show 9 < 13; omega)
  have cA10 : W2.cell? ⟨w.heap.size, 10, none⟩ = some (.int .i64 u3) := KA.out.2 10 (by show 10 < 13; omega)
  have cA11 : W2.cell? ⟨w.heap.size, 11, none⟩ = some (.int .i64 u4) := KA.out.2 11 (by show 11 < 13; omega)
  have cA12 : W2.cell? ⟨w.heap.size, 12, none⟩ = some (.int .i64 u5) := KA.out.2 12 (by show 12 < 13; omega)
  have CS := Vl.hide (Vo.specSaved t (some ⟨m1, 0, none⟩) (some ⟨m2, 0, none⟩) (some ⟨m3, 0, none⟩) r q s r q s P Q S n f o u0 u1 u2 u3 u4 u5 W2 (w1.ints (by omega)) (w2.ints (by omega)) (w3.ints z4) LL.out.1 HB.out.1 HB.out.2.1 HB.out.2.2.1 LL.out.2.1 LL.out.2.2 HB.out.2.2.2.1 HB.out.2.2.2.2.1 HB.out.2.2.2.2.2.1 HB.out.2.2.2.2.2.2.1 HB.out.2.2.2.2.2.2.2.1 HB.out.2.2.2.2.2.2.2.2)
  clear w1 w2 w3 z1 z2 z3 z4
  go_wp2_with fail
  refine CS.out.mono ?_
  rintro e W3 ⟨rfl, bb⟩
  replace KA := Vl.hide (KA.out.below bb)
  replace BW := Vl.hide (BW.out.trans (bb.mono BW.out.size))
  clear bb CS
  clear cA0 cA1 cA2 cA3 cA4 cA5 cA6 cA7 cA8 cA9 cA10 cA11 cA12
  have cA0 : W3.cell? ⟨w.heap.size, 0, none⟩ = some (.string t) := KA.out.2 0 (by show 0 < 13; omega)
  have cA1 : W3.cell? ⟨w.heap.size, 1, none⟩ = some (.slice a r cap) := KA.out.2 1 (by show 1 < 13; omega)
  have cA2 : W3.cell? ⟨w.heap.size, 2, none⟩ = some (.slice b q dap) := KA.out.2 2 (by show 2 < 13; omega)
  have cA3 : W3.cell? ⟨w.heap.size, 3, none⟩ = some (.slice c s eap) := KA.out.2 3 (by show 3 < 13; omega)
  have cA4 : W3.cell? ⟨w.heap.size, 4, none⟩ = some (.int .i64 n) := KA.out.2 4 (by show 4 < 13; omega)
  have cA5 : W3.cell? ⟨w.heap.size, 5, none⟩ = some (.int .i64 f) := KA.out.2 5 (by show 5 < 13; omega)
  have cA6 : W3.cell? ⟨w.heap.size, 6, none⟩ = some (.int .i64 o) := KA.out.2 6 (by show 6 < 13; omega)
  have cA7 : W3.cell? ⟨w.heap.size, 7, none⟩ = some (.int .i64 u0) := KA.out.2 7 (by show 7 < 13; omega)
  have cA8 : W3.cell? ⟨w.heap.size, 8, none⟩ = some (.int .i64 u1) := KA.out.2 8 (by show 8 < 13; omega)
  have cA9 : W3.cell? ⟨w.heap.size, 9, none⟩ = some (.int .i64 u2) := KA.out.2 9 (by show 9 < 13; omega)
  have cA10 : W3.cell? ⟨w.heap.size, 10, none⟩ = some (.int .i64 u3) := KA.out.2 10 (by show 10 < 13; omega)
  have cA11 : W3.cell? ⟨w.heap.size, 11, none⟩ = some (.int .i64 u4) := KA.out.2 11 (by show 11 < 13; omega)
  have cA12 : W3.cell? ⟨w.heap.size, 12, none⟩ = some (.int .i64 u5) := KA.out.2 12 (by show 12 < 13; omega)
  obtain ⟨v, hv⟩ : ∃ v, Vo.svOk t r q s P Q S n f o u0 u1 u2 u3 u4 u5 = v := ⟨_, rfl⟩
  rw [hv]
  go_wp2_with fail
  refine (CT.out _ BW.out).mono ?_
  rintro e W4 ⟨g1, g2, g3, rfl, ⟨z1, z2, z3, z4⟩, w1, w2, w3, bb⟩
  replace KA := Vl.hide (KA.out.below bb)
  replace BW := Vl.hide (BW.out.trans (bb.mono BW.out.size))
  clear bb
  clear cA0 cA1 cA2 cA3 cA4 cA5 cA6 cA7 cA8 cA9 cA10 cA11 cA12
  obtain ⟨W5, hW5⟩ : ∃ W5, W4.alloc (.cells #[.string t, .slice (some ⟨g1, 0, none⟩) r r, .slice (some ⟨g2, 0, none⟩) q q, .slice (some ⟨g3, 0, none⟩) s s, .int .i64 n, .int .i64 f, .int .i64 o, .int .i64 u0, .int .i64 u1, .int .i64 u2, .int .i64 u3, .int .i64 u4, .int .i64 u5] 34) = W5 := ⟨_, rfl⟩
  have bb : Below W4.heap.size W4 W5 := hW5 ▸ (Below.refl _ _).alloc (Nat.le_refl _) _
  have KB := Vl.hide (show Vo.BoxL W5 W4.heap.size [.string t, .slice (some ⟨g1, 0, none⟩) r r, .slice (some ⟨g2, 0, none⟩) q q, .slice (some ⟨g3, 0, none⟩) s s, .int .i64 n, .int .i64 f, .int .i64 o, .int .i64 u0, .int .i64 u1, .int .i64 u2, .int .i64 u3, .int .i64 u4, .int .i64 u5] from hW5 ▸ Vo.boxL_new W4 #[.string t, .slice (some ⟨g1, 0, none⟩) r r, .slice (some ⟨g2, 0, none⟩) q q, .slice (some ⟨g3, 0, none⟩) s s, .int .i64 n, .int .i64 f, .int .i64 o, .int .i64 u0, .int .i64 u1, .int .i64 u2, .int .i64 u3, .int .i64 u4, .int .i64 u5] _)
  replace KA := Vl.hide (KA.out.below bb)
  replace BW := Vl.hide (BW.out.trans (bb.mono BW.out.size))
  have Q1 := Vl.hide (w1.below bb (by omega))
  have Q2 := Vl.hide (w2.below bb (by omega))
  have Q3 := Vl.hide (w3.below bb z4)
  have Z4 := Vl.hide (show g1 < W5.heap.size ∧ g2 < W5.heap.size ∧ g3 < W5.heap.size by have := bb.size; omega)
  clear bb w1 w2 w3 z1 z2 z3 z4
  have CI := Vl.hide (Vo.implSaved t (some ⟨g1, 0, none⟩) (some ⟨g2, 0, none⟩) (some ⟨g3, 0, none⟩) r q s r q s P Q S n f o u0 u1 u2 u3 u4 u5 W5 (Q1.out.ints Z4.out.1) (Q2.out.ints Z4.out.2.1) (Q3.out.ints Z4.out.2.2) LL.out.1 HB.out.1 HB.out.2.1 HB.out.2.2.1 LL.out.2.1 LL.out.2.2 HB.out.2.2.2.1 HB.out.2.2.2.2.1 HB.out.2.2.2.2.2.1 HB.out.2.2.2.2.2.2.1 HB.out.2.2.2.2.2.2.2.1 HB.out.2.2.2.2.2.2.2.2)
  rw [hv] at CI
  clear hv
  have cA0 : W5.cell? ⟨w.heap.size, 0, none⟩ = some (.string t) := KA.out.2 0 (by show 0 < 13; omega)
  have cA1 : W5.cell? ⟨w.heap.size, 1, none⟩ = some (.slice a r cap) := KA.out.2 1 (by show 1 < 13; omega)
  have cA2 : W5.cell? ⟨w.heap.size, 2, none⟩ = some (.slice b q dap) := KA.out.2 2 (by show 2 < 13; omega)
  have cA3 : W5.cell? ⟨w.heap.size, 3, none⟩ = some (.slice c s eap) := KA.out.2 3 (by show 3 < 13; omega)
  have cA4 : W5.cell? ⟨w.heap.size, 4, none⟩ = some (.int .i64 n) := KA.out.2 4 (by show 4 < 13; omega)
  have cA5 : W5.cell? ⟨w.heap.size, 5, none⟩ = some (.int .i64 f) := KA.out.2 5 (by show 5 < 13; omega)
  have cA6 : W5.cell? ⟨w.heap.size, 6, none⟩ = some (.int .i64 o) := KA.out.2 6 (by show 6 < 13; omega)
  have cA7 : W5.cell? ⟨w.heap.size, 7, none⟩ = some (.int .i64 u0) := KA.out.2 7 (by show 7 < 13; omega)
  have cA8 : W5.cell? ⟨w.heap.size, 8, none⟩ = some (.int .i64 u1) := KA.out.2 8 (by show 8 < 13; omega)
  have cA9 : W5.cell? ⟨w.heap.size, 9, none⟩ = some (.int .i64 u2) := KA.out.2 9 (by show 9 < 13; omega)
  have cA10 : W5.cell? ⟨w.heap.size, 10, none⟩ = some (.int .i64 u3) := KA.out.2 10 (by show 10 < 13; omega)
  have cA11 : W5.cell? ⟨w.heap.size, 11, none⟩ = some (.int .i64 u4) := KA.out.2 11 (by show 11 < 13; omega)
  have cA12 : W5.cell? ⟨w.heap.size, 12, none⟩ = some (.int .i64 u5) := KA.out.2 12 (by show 12 < 13; omega)
  have cB0 : W5.cell? ⟨W4.heap.size, 0, none⟩ = some (.string t) := KB.out.2 0 (by show 0 < 13; omega)
  have cB1 : W5.cell? ⟨W4.heap.size, 1, none⟩ = some (.slice (some ⟨g1, 0, none⟩) r r) := KB.out.2 1 (by show 1 < 13; omega)
  have cB2 : W5.cell? ⟨W4.heap.size, 2, none⟩ = some (.slice (some ⟨g2, 0, none⟩) q q) := KB.out.2 2 (by show 2 < 13; omega)
  have cB3 : W5.cell? ⟨W4.heap.size, 3, none⟩ = some (.slice (some ⟨g3, 0, none⟩) s s) := KB.out.2 3 (by show 3 < 13; omega)
  have cB4 : W5.cell? ⟨W4.heap.size, 4, none⟩ = some (.int .i64 n) := KB.out.2 4 (by show 4 < 13; omega)
  have cB5 : W5.cell? ⟨W4.heap.size, 5, none⟩ = some (.int .i64 f) := KB.out.2 5 (by show 5 < 13; omega)
  have cB6 : W5.cell? ⟨W4.heap.size, 6, none⟩ = some (.int .i64 o) := KB.out.2 6 (by show 6 < 13; omega)
  have cB7 : W5.cell? ⟨W4.heap.size, 7, none⟩ = some (.int .i64 u0) := KB.out.2 7 (by show 7 < 13; omega)
  have cB8 : W5.cell? ⟨W4.heap.size, 8, none⟩ = some (.int .i64 u1) := KB.out.2 8 (by show 8 < 13; omega)
  have cB9 : W5.cell? ⟨W4.heap.size, 9, none⟩ = some (.int .i64 u2) := KB.out.2 9 (by show 9 < 13; omega)
  have cB10 : W5.cell? ⟨W4.heap.size, 10, none⟩ = some (.int .i64 u3) := KB.out.2 10 (by show 10 < 13; omega)
  have cB11 : W5.cell? ⟨W4.heap.size, 11, none⟩ = some (.int .i64 u4) := KB.out.2 11 (by show 11 < 13; omega)
  have cB12 : W5.cell? ⟨W4.heap.size, 12, none⟩ = some (.int .i64 u5) := KB.out.2 12 (by show 12 < 13; omega)
  go_wp2_with fail
  refine CI.out.mono ?_
  rintro e W6 ⟨rfl, bb⟩
  replace KA := Vl.hide (KA.out.below bb)
  replace KB := Vl.hide (KB.out.below bb)
  replace BW := Vl.hide (BW.out.trans (bb.mono BW.out.size))
  replace Q1 := Vl.hide (Q1.out.below bb Z4.out.1)
  replace Q2 := Vl.hide (Q2.out.below bb Z4.out.2.1)
  replace Q3 := Vl.hide (Q3.out.below bb Z4.out.2.2)
  replace Z4 := Vl.hide (show g1 < W6.heap.size ∧ g2 < W6.heap.size ∧ g3 < W6.heap.size by have := bb.size; have := Z4.out; omega)
  clear bb hW5 CI
  clear cA0 cA1 cA2 cA3 cA4 cA5 cA6 cA7 cA8 cA9 cA10 cA11 cA12
  clear cB0 cB1 cB2 cB3 cB4 cB5 cB6 cB7 cB8 cB9 cB10 cB11 cB12
  have cA0 : W6.cell? ⟨w.heap.size, 0, none⟩ = some (.string t) := KA.out.2 0 (by show 0 < 13; omega)
  have cA1 : W6.cell? ⟨w.heap.size, 1, none⟩ = some (.slice a r cap) := KA.out.2 1 (by show 1 < 13; omega)
  have cA2 : W6.cell? ⟨w.heap.size, 2, none⟩ = some (.slice b q dap) := KA.out.2 2 (by show 2 < 13; omega)
  have cA3 : W6.cell? ⟨w.heap.size, 3, none⟩ = some (.slice c s eap) := KA.out.2 3 (by show 3 < 13; omega)
  have cA4 : W6.cell? ⟨w.heap.size, 4, none⟩ = some (.int .i64 n) := KA.out.2 4 (by show 4 < 13; omega)
  have cA5 : W6.cell? ⟨w.heap.size, 5, none⟩ = some (.int .i64 f) := KA.out.2 5 (by show 5 < 13; omega)
  have cA6 : W6.cell? ⟨w.heap.size, 6, none⟩ = some (.int .i64 o) := KA.out.2 6 (by show 6 < 13; omega)
  have cA7 : W6.cell? ⟨w.heap.size, 7, none⟩ = some (.int .i64 u0) := KA.out.2 7 (by show 7 < 13; omega)
  have cA8 : W6.cell? ⟨w.heap.size, 8, none⟩ = some (.int .i64 u1) := KA.out.2 8 (by show 8 < 13; omega)
  have cA9 : W6.cell? ⟨w.heap.size, 9, none⟩ = some (.int .i64 u2) := KA.out.2 9 (by show 9 < 13; omega)
  have cA10 : W6.cell? ⟨w.heap.size, 10, none⟩ = some (.int .i64 u3) := KA.out.2 10 (by show 10 < 13; omega)
  have cA11 : W6.cell? ⟨w.heap.size, 11, none⟩ = some (.int .i64 u4) := KA.out.2 11 (by show 11 < 13; omega)
  have cA12 : W6.cell? ⟨w.heap.size, 12, none⟩ = some (.int .i64 u5) := KA.out.2 12 (by show 12 < 13; omega)
  have cB0 : W6.cell? ⟨W4.heap.size, 0, none⟩ = some (.string t) := KB.out.2 0 (by show 0 < 13; omega)
  have cB1 : W6.cell? ⟨W4.heap.size, 1, none⟩ = some (.slice (some ⟨g1, 0, none⟩) r r) := KB.out.2 1 (by show 1 < 13; omega)
  have cB2 : W6.cell? ⟨W4.heap.size, 2, none⟩ = some (.slice (some ⟨g2, 0, none⟩) q q) := KB.out.2 2 (by show 2 < 13; omega)
  have cB3 : W6.cell? ⟨W4.heap.size, 3, none⟩ = some (.slice (some ⟨g3, 0, none⟩) s s) := KB.out.2 3 (by show 3 < 13; omega)
  have cB4 : W6.cell? ⟨W4.heap.size, 4, none⟩ = some (.int .i64 n) := KB.out.2 4 (by show 4 < 13; omega)
  have cB5 : W6.cell? ⟨W4.heap.size, 5, none⟩ = some (.int .i64 f) := KB.out.2 5 (by show 5 < 13; omega)
  have cB6 : W6.cell? ⟨W4.heap.size, 6, none⟩ = some (.int .i64 o) := KB.out.2 6 (by show 6 < 13; omega)
  have cB7 : W6.cell? ⟨W4.heap.size, 7, none⟩ = some (.int .i64 u0) := KB.out.2 7 (by show 7 < 13; omega)
  have cB8 : W6.cell? ⟨W4.heap.size, 8, none⟩ = some (.int .i64 u1) := KB.out.2 8 (by show 8 < 13; omega)
  have cB9 : W6.cell? ⟨W4.heap.size, 9, none⟩ = some (.int .i64 u2) := KB.out.2 9 (by show 9 < 13; omega)
  have cB10 : W6.cell? ⟨W4.heap.size, 10, none⟩ = some (.int .i64 u3) := KB.out.2 10 (by show 10 < 13; omega)
  have cB11 : W6.cell? ⟨W4.heap.size, 11, none⟩ = some (.int .i64 u4) := KB.out.2 11 (by show 11 < 13; omega)
  have cB12 : W6.cell? ⟨W4.heap.size, 12, none⟩ = some (.int .i64 u5) := KB.out.2 12 (by show 12 < 13; omega)
  have HT := Vl.hide (fun (W : World) (hW : Below W6.heap.size W6 W) => CT.out W (BW.out.trans (hW.mono BW.out.size)))
  have HE := Vl.hide (fun (W : World) (hW : Below W6.heap.size W6 W) (k1 k2 k3 : Nat) (z : k1 < W.heap.size ∧ k2 < W.heap.size ∧ k3 < W.heap.size) (t1 : Vl.Rw W k1 r P) (t2 : Vl.Rw W k2 q Q) (t3 : Vl.Rw W k3 s S) => Vo.eqSaved W.heap.size t (some ⟨g1, 0, none⟩) (some ⟨g2, 0, none⟩) (some ⟨g3, 0, none⟩) (some ⟨k1, 0, none⟩) (some ⟨k2, 0, none⟩) (some ⟨k3, 0, none⟩) r q s r q s r q s P Q S P Q S n f o u0 u1 u2 u3 u4 u5 W (Nat.le_refl _) ((Q1.out.below hW Z4.out.1).ints (Nat.lt_of_lt_of_le Z4.out.1 hW.size)) ((Q2.out.below hW Z4.out.2.1).ints (Nat.lt_of_lt_of_le Z4.out.2.1 hW.size)) ((Q3.out.below hW Z4.out.2.2).ints (Nat.lt_of_lt_of_le Z4.out.2.2 hW.size)) (t1.ints z.1) (t2.ints z.2.1) (t3.ints z.2.2) (fun _ _ => rfl) (fun _ _ => rfl) (fun _ _ => rfl) LL.out.1 LL.out.2.1 LL.out.2.2)
  go_wp2_with fail
  go_region_held3 (fun w' => w'.cell? ⟨W4.heap.size, 0, none⟩ = some (.string t) ∧ w'.cell? ⟨W4.heap.size, 1, none⟩ = some (.slice (some ⟨g1, 0, none⟩) r r) ∧ w'.cell? ⟨W4.heap.size, 2, none⟩ = some (.slice (some ⟨g2, 0, none⟩) q q) ∧ w'.cell? ⟨W4.heap.size, 3, none⟩ = some (.slice (some ⟨g3, 0, none⟩) s s) ∧ w'.cell? ⟨W4.heap.size, 4, none⟩ = some (.int .i64 n) ∧ w'.cell? ⟨W4.heap.size, 5, none⟩ = some (.int .i64 f) ∧ w'.cell? ⟨W4.heap.size, 6, none⟩ = some (.int .i64 o) ∧ w'.cell? ⟨W4.heap.size, 7, none⟩ = some (.int .i64 u0) ∧ w'.cell? ⟨W4.heap.size, 8, none⟩ = some (.int .i64 u1) ∧ w'.cell? ⟨W4.heap.size, 9, none⟩ = some (.int .i64 u2) ∧ w'.cell? ⟨W4.heap.size, 10, none⟩ = some (.int .i64 u3) ∧ w'.cell? ⟨W4.heap.size, 11, none⟩ = some (.int .i64 u4) ∧ w'.cell? ⟨W4.heap.size, 12, none⟩ = some (.int .i64 u5) ∧ w'.cell? ⟨w.heap.size, 0, none⟩ = some (.string t) ∧ w'.cell? ⟨w.heap.size, 1, none⟩ = some (.slice a r cap) ∧ w'.cell? ⟨w.heap.size, 2, none⟩ = some (.slice b q dap) ∧ w'.cell? ⟨w.heap.size, 3, none⟩ = some (.slice c s eap) ∧ w'.cell? ⟨w.heap.size, 4, none⟩ = some (.int .i64 n) ∧ w'.cell? ⟨w.heap.size, 5, none⟩ = some (.int .i64 f) ∧ w'.cell? ⟨w.heap.size, 6, none⟩ = some (.int .i64 o) ∧ w'.cell? ⟨w.heap.size, 7, none⟩ = some (.int .i64 u0) ∧ w'.cell? ⟨w.heap.size, 8, none⟩ = some (.int .i64 u1) ∧ w'.cell? ⟨w.heap.size, 9, none⟩ = some (.int .i64 u2) ∧ w'.cell? ⟨w.heap.size, 10, none⟩ = some (.int .i64 u3) ∧ w'.cell? ⟨w.heap.size, 11, none⟩ = some (.int .i64 u4) ∧ w'.cell? ⟨w.heap.size, 12, none⟩ = some (.int .i64 u5))
    ((try dsimp only) <;> (repeat' apply And.intro) <;> (repeat (first | with_reducible assumption | with_reducible apply Vo.drew_old | (with_reducible apply Vo.below_old; (focus (with_reducible assumption))))))
    (first
      | (go_at_call 6
         refine (HT.out _ (by exact (Below.refl _ _).drew)).mono ?_
         rintro e wA ⟨k1, k2, k3, rfl, ⟨y1, y2, y3, y4⟩, qA, qB, qC, bA⟩)
      | (go_at_call 8
         refine (HE.out _ (by exact (Below.refl _ W6).drew.trans bA) k1 k2 k3 ⟨by omega, by omega, y4⟩ qA qB qC).mono ?_
         rintro e wB8 ⟨rfl, bB⟩))
  have bb : Below W6.heap.size W6 wB8 := ((Below.refl _ W6).drew.trans bA).trans (bB.mono (Nat.le_trans (Nat.le_refl _) bA.size))
  replace BW := Vl.hide (BW.out.trans (bb.mono BW.out.size))
  clear bA bB qA qB qC HT HE bb
  go_wp2_with fail
  go_ret
  exact ⟨rfl, BW.out⟩

set_option maxRecDepth 100000 in
theorem lifted (os : Os) (started : os.Started) (H : Type) (enc : TypeId × Value → H) :
    ReturnsInHanded {} Try.checked os 3 .any (Rows.fnExactSavedOkSpec.pre6 enc Try.prog Try.f3 Rows.fnExactSavedOkRow.domain false) (Rows.fnExactSavedOkSpec.post enc Try.prog Try.f3 false true false false) := by
  refine returnsInHanded_of_change (C := Try.checked) own started (by kernel_rfl) Try.func3
    (ChangeSpec.witness6 (enc := enc) (C := Try.checked) false ⟨#[], #[.agg #[.string ByteArray.empty, .slice none 0 0, .slice none 0 0, .slice none 0 0, .int .i64 0, .int .i64 0, .int .i64 0, .int .i64 0, .int .i64 0, .int .i64 0, .int .i64 0, .int .i64 0, .int .i64 0]], []⟩ 8 (by kernel_rfl) (by kernel_rfl) (by kernel_rfl) (by kernel_rfl)) ?_
  intro W base args ds gs before hval0 hW hcnd _
  have hval : ∀ (j : Nat) t v, Try.f3.params[j]? = some t → args[j]? = some v → Value.okWide Try.prog W .any base t v := hval0
  have hW' := hW
  obtain ⟨p, q, hA0, hV, rfl, hfz, hnd⟩ := hW
  have hA : DataW.TrodAll enc Try.prog W 0 (fun _ => true) true Try.f3.params.toList args.toList ds p := hA0
  rw [Try.params3] at hA hval
  obtain ⟨v0, vs0, d0, ds0, p0, q0, hargs, rfl, rfl, h0, rst0⟩ := trodAll_cons hA
  obtain ⟨rfl, rfl, rfl⟩ := trodAll_nil rst0
  obtain rfl : args = #[v0] := by cases args; simp_all
  obtain ⟨rfl, rfl⟩ := trodVars_none hV
  have k0 := h0
  have lt0 : ∀ x ∈ p0, x.block < W.heap.size := by obtain ⟨m, hm⟩ := k0; exact DataW.trod_lt m _ _ _ hm
  obtain ⟨y_t, y_a, y_b, y_c, y_r, y_q, y_s, y_cap, y_dap, y_eap, y_n, y_f, y_o, y_u0, y_u1, y_u2, y_u3, y_u4, y_u5, rfl, wt0, wa0, wb0, wc0, bn0, bf0, bo0, d00, d10, d20, d30, d40, d50⟩ := Vo.saved_at (hval 0 28 v0 rfl rfl) h0
  clear hA0 hval0
  refine (walk y_t y_a y_b y_c y_r y_q y_s y_cap y_dap y_eap y_n y_f y_o y_u0 y_u1 y_u2 y_u3 y_u4 y_u5 wt0 bn0 bf0 bo0 d00 d10 d20 d30 d40 d50 W wa0 wb0 wc0).mono fun e W' ⟨he, bel⟩ => ?_
  subst he
  exact ⟨_, rfl, _, _, _, [], _, [], hW', trodAll_mk1 (shut_bool Try.underlying4 _), (trodAll_cons_mk (Below.trod laidOut (by kernel_rfl) (of_decide_eq_true (by kernel_rfl)) k0 bel lt0) trodAll_mk0), rfl, bel.frame _, fun h => by cases h⟩

theorem over : Rows.fnExactSavedOkRow.holds Try.pinned (OpenSpec.ofChange Rows.fnExactSavedOkSpec) :=
  OpenClaim.holds_of_wide 3 Try.f3 rfl rfl rfl rfl rfl rfl rfl ⟨rfl, rfl, rfl, rfl, rfl⟩ rfl rfl rfl rfl rfl (by kernel_rfl) Try.func3 (by kernel_rfl)
    (of_decide_eq_true (by kernel_rfl)) (by unfold Func.isWrapper; first | (rw [if_pos (by decide +kernel)]; kernel_rfl) | (rw [if_neg (by decide +kernel)]; exact ⟨rfl, rfl⟩))
    (fun os started H enc _ => lifted os started H enc)

theorem proved : Rows.FnExactSavedOkSaid := over
#print axioms proved
end Go.Proofs.Ytmdgkbmifaajgaa.fnExactSavedOk
