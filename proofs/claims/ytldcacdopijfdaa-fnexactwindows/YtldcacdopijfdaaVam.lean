/- The model's turns: l3Copy. -/
import Derived.Test.YtldcacdopijfdaaVal
import Derived.Test.YtldcacdopijfdaaVag
namespace Go.Proofs.Ytldcacdopijfdaa
namespace Vo
open Go.ChangeShapes Go.WideShapes Go.ChangeAt Go.RowKit Go.Joins
open Vl Vp Vr
set_option linter.unusedVariables false
set_option linter.unusedSimpArgs false

theorem set_next {W : World} {z i j : Nat} {u v : Value} (hc : W.cell? ⟨z, i, none⟩ = some v) : (W.setCell ⟨z + 1, j, none⟩ u).cell? ⟨z, i, none⟩ = some v := set_other (by show z ≠ z + 1; omega) hc
set_option maxRecDepth 100000 in
set_option maxHeartbeats 2000000 in
theorem l3Copy (B : Nat) (a b : Addr) (r s cap dap : Nat) (D S : Nat → Int) (o n : Int) (w : World) (hB : B ≤ w.heap.size) (h : Ints B w (some a) r D) (h' : Ints B w (some b) s S) (hr : (r : Int) ≤ 1048576) (hs : (s : Int) ≤ 1048576) :
    Calls Try.prog 39 #[.agg #[.slice (some a) r cap, .slice (some b) s dap, .int .i64 o, .int .i64 n]] w fun e w' => ViewR (w.heap.size + 2) ⟨r, s, D, S, o, n⟩ w e w' := by
  have BL := hide (show Below w.heap.size w ((w.alloc (.cells #[.slice (some a) r cap, .slice (some b) s dap, .int .i64 o, .int .i64 n] 24)).alloc (.cells #[.slice none 0 0, .slice none 0 0, .int .i64 0, .int .i64 0] 24)) from ((Below.refl _ _).alloc (Nat.le_refl _) _).alloc (by simp) _)
  have N0 := hide ((box_new w (.slice (some a) r cap) (.slice (some b) s dap) (.int .i64 o) (.int .i64 n) 24).below ((Below.refl (w.heap.size + 1) _).alloc (by simp) (.cells #[.slice none 0 0, .slice none 0 0, .int .i64 0, .int .i64 0] 24)) (by omega))
  have m0 := box_new (w.alloc (.cells #[.slice (some a) r cap, .slice (some b) s dap, .int .i64 o, .int .i64 n] 24)) (.slice none 0 0) (.slice none 0 0) (.int .i64 0) (.int .i64 0) 24
  have g0 := free_new (w.alloc (.cells #[.slice (some a) r cap, .slice (some b) s dap, .int .i64 o, .int .i64 n] 24)) #[.slice none 0 0, .slice none 0 0, .int .i64 0, .int .i64 0] 24
  rw [World.size_alloc] at m0 g0
  have CA := hide (fun (W : World) (hW : Below w.heap.size w W) => l3Ints B a r cap D W (h.below (hW.mono hB)) (Nat.le_trans hB hW.size) hr)
  have CB := hide (fun (W : World) (hW : Below w.heap.size w W) => l3Ints B b s dap S W (h'.below (hW.mono hB)) (Nat.le_trans hB hW.size) hs)
  clear h h'
  obtain ⟨W0, hW0⟩ : ∃ W0, (w.alloc (.cells #[.slice (some a) r cap, .slice (some b) s dap, .int .i64 o, .int .i64 n] 24)).alloc (.cells #[.slice none 0 0, .slice none 0 0, .int .i64 0, .int .i64 0] 24) = W0 := ⟨_, rfl⟩
  have hs0 : W0.heap.size = w.heap.size + 1 + 1 := by rw [← hW0]; simp
  rw [hW0] at BL N0 m0 g0
  have M0 := hide m0
  have G0 := hide g0
  have HS0 := hide hs0
  obtain ⟨x0, x1, x2, x3⟩ := N0.out
  obtain ⟨y0, y1, y2, y3⟩ := M0.out
  have gg := G0.out
  unfold Free at gg
  clear m0 g0 hs0
  go_enter Try.func39, Try.ntmps39
  go_wp2_with fail
  clear hW0
  go_region_held3 (fun w' => w'.cell? ⟨w.heap.size, 0, none⟩ = some (.slice (some a) r cap) ∧ w'.cell? ⟨w.heap.size, 1, none⟩ = some (.slice (some b) s dap) ∧ w'.cell? ⟨w.heap.size, 2, none⟩ = some (.int .i64 o) ∧ w'.cell? ⟨w.heap.size, 3, none⟩ = some (.int .i64 n))
    ((try dsimp only) <;> (repeat' apply And.intro) <;> (repeat (first | with_reducible assumption | with_reducible apply drew_old | with_reducible apply set_next | (with_reducible apply below_old; (focus (with_reducible assumption))))))
   (first
    | (go_at_call_of 30 (Value.slice (some a) r cap)
       refine (CA.out _ (by exact BL.out.drew)).mono ?_
       rintro e wA ⟨va, rfl, hva, bA⟩
       obtain ⟨aa, ac, rfl, _⟩ := RowV.own hva
       have cA0 := fun i => old_cells bA w.heap.size i (by show w.heap.size < W0.heap.size; have := HS0.out; omega)
       have cA1 := fun i => old_cells bA (w.heap.size + 1) i (by show w.heap.size + 1 < W0.heap.size; have := HS0.out; omega)
       have mA1 := fun i => old_marks bA (w.heap.size + 1) i (by show w.heap.size + 1 < W0.heap.size; have := HS0.out; omega))
    | (go_at_call_of 30 (Value.slice (some b) s dap)
       refine (CB.out _ (by exact (BL.out.drew).trans (Below.mono bA BL.out.size))).mono ?_
       rintro e wB ⟨vb, rfl, hvb, bB⟩
       obtain ⟨ab, ad, rfl, _⟩ := RowV.own hvb
       have cB0 := fun i => old_cells bB w.heap.size i (by have := bA.size; have q : W0.heap.size ≤ wA.heap.size := this; have := HS0.out; omega)
       have cB1 := fun i => old_cells bB (w.heap.size + 1) i (by have := bA.size; have q : W0.heap.size ≤ wA.heap.size := this; have := HS0.out; omega)
       have mB1 := fun i => old_marks bB (w.heap.size + 1) i (by have := bA.size; have q : W0.heap.size ≤ wA.heap.size := this; have := HS0.out; omega)))
  go_wp2_with fail
  have qs := HS0.out
  have sA : W0.heap.size ≤ wA.heap.size := bA.size
  have sB : wA.heap.size ≤ wB.heap.size := bB.size
  have bA' : Below W0.heap.size W0 wA := ⟨bA.os, bA.tape, bA.output, bA.size, bA.block⟩
  obtain ⟨z0, z1, z2, z3⟩ := (M0.out.below bA' (by omega)).below bB (by omega)
  have k4 := kept_sets4 wB (w.heap.size + 1) (.slice aa r ac) (.slice ab s ad) (.int .i64 o) (.int .i64 n)
  have va' := (hva.below bB).kept k4 (fun k q e => by have := (hva.lt q).1; have t : W0.heap.size ≤ k := this; have e : k = w.heap.size + 1 := e; omega)
  have vb' := hvb.kept k4 (fun k q e => by have := (hvb.lt q).1; have e : k = w.heap.size + 1 := e; omega)
  obtain ⟨_, _, ea, ha⟩ := va'.own
  obtain ⟨_, _, eb, hb⟩ := vb'.own
  injection ea with ea1 _ _
  injection eb with eb1 _ _
  subst ea1 eb1
  have b2 : Below w.heap.size w wB := (BL.out.trans (bA'.mono BL.out.size)).trans (bB.mono (by omega))
  refine bodyPost_ret (v := .agg #[.slice aa r ac, .slice ab s ad, .int .i64 o, .int .i64 n]) (by simp [results, Try.results39, go_sem, z0, z1, z2, z3]) rfl ⟨aa, ab, ac, ad, rfl, ⟨ha.mono (by have t : W0.heap.size = W0.drew.heap.size := rfl; omega), hb.mono (by omega), fun j q1 q2 => ?_⟩, b2.trans (k4.below b2.size (fun j e => by have e : j = w.heap.size + 1 := e; omega))⟩
  have q3 : (Value.slice aa r ac).ownBlock = some j := by obtain ⟨_, ad', e', e''⟩ := q1; rw [e']; exact congrArg some e''
  have q4 : (Value.slice ab s ad).ownBlock = some j := by obtain ⟨_, ad', e', e''⟩ := q2; rw [e']; exact congrArg some e''
  have := (hva.lt q3).2
  have := (hvb.lt q4).1
  omega
end Vo
end Go.Proofs.Ytldcacdopijfdaa
