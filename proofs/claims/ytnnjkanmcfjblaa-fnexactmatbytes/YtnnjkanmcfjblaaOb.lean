/- One number of a product of matrices of bytes (written by tools/genmat2.py). -/
import Derived.Test.YtnnjkanmcfjblaaOa
import Derived.Test.YtnnjkanmcfjblaaEi
namespace Go.Proofs.Ytnnjkanmcfjblaa
namespace Vo
open Go.ChangeShapes Go.WideShapes Go.ChangeAt Go.RowKit Go.Joins Go.Sort
open Vl
set_option linter.unusedVariables false
set_option linter.unusedSimpArgs false
/-- what lies where -/
def Lies (l : List (Addr × Value)) (w : World) : Prop := ∀ x, x ∈ l → w.cell? x.1 = some x.2
theorem Lies.below {l : List (Addr × Value)} {w w' : World} (h : Lies l w) (b : Below w.heap.size w w') : Lies l w' := fun x hx => by
  have := World.block_lt_of_cell? _ _ (h x hx)
  rw [b.cell (p := x.1) this]; exact h x hx
theorem Lies.new {l : List (Addr × Value)} {w : World} {x : Addr × Value} (h : Lies l w) (c : w.cell? x.1 = some x.2) : Lies (x :: l) w := fun y hy => by
  rcases List.mem_cons.1 hy with rfl | hy
  · exact c
  · exact h y hy
theorem Lies.nil (w : World) : Lies [] w := fun x hx => by cases hx
theorem ints_sub {B : Nat} {w : World} {blk off r m q : Nat} {D : Nat → Int} (h : Ints B w (some ⟨blk, off, none⟩) r D) (hm : m + q ≤ r) : Ints B w (some ⟨blk, off + m, none⟩) q (fun t => D (m + t)) := by
  rcases h with h | ⟨b, o, e, hb, hc⟩
  · exact .inl (by omega)
  · injection e with e
    injection e with e1 e2
    subst e1 e2
    exact .inr ⟨_, _, rfl, hb, fun j hj => by rw [Nat.add_assoc]; exact hc (m + j) (by omega)⟩
theorem dotV_bd (sa za sb zb : Int) (r s : Nat) (P Q : Nat → Int) : -268435456 ≤ dotV sa za sb zb r s P Q ∧ dotV sa za sb zb r s P Q ≤ 268435456 := by
  unfold dotV
  split
  · rename_i h
    obtain ⟨⟨g1, g2⟩, rfl, h1, h2⟩ := h
    obtain ⟨-, a0, a1⟩ := sc_of g1
    obtain ⟨-, b0, b1⟩ := sc_of g2
    obtain ⟨p, r4⟩ := bys_ib h1
    obtain ⟨q, -⟩ := bys_ib h2
    have := dsum_bd (P := P) (Q := Q) a0 a1 b0 b1 r (fun j hj => ⟨p j hj, q j hj⟩)
    omega
  · omega
set_option maxHeartbeats 2000000 in
theorem mat1 (sa za sb zb sc zc mu sh D v0 bv : Int) (N M r s cap dap eap k u v u' v' row col : Nat) (xb xo yb yo zb' zo Pm Pa Pb Px Pn Pw Pi Pu Ps Pc : Nat) (X Y Z : Nat → Int) (W : World)
    (h : Lies [(⟨Pm, 0, none⟩, .int .i64 (M : Int)), (⟨Pa, 0, none⟩, .int .i64 sa), (⟨Pa, 1, none⟩, .int .i64 za), (⟨Pb, 0, none⟩, .int .i64 sb), (⟨Pb, 1, none⟩, .int .i64 zb), (⟨Px, 0, none⟩, .slice (some ⟨xb, xo, none⟩) r cap), (⟨Pn, 0, none⟩, .int .i64 (N : Int)), (⟨Pw, 0, none⟩, .slice (some ⟨yb, yo, none⟩) s dap), (⟨Pi, 0, none⟩, .slice (some ⟨zb', zo, none⟩) M eap), (⟨Pu, 0, none⟩, .int .i64 mu), (⟨Ps, 0, none⟩, .int .i64 sh), (⟨Pc, 0, none⟩, .int .i64 sc), (⟨Pc, 1, none⟩, .int .i64 zc)] W)
    (hx : Ints W.heap.size W (some ⟨xb, xo, none⟩) r X) (hy : Ints W.heap.size W (some ⟨yb, yo, none⟩) s Y) (hz : W.cell? ⟨zb', zo + col, none⟩ = some (.int .i64 bv))
    (m0 : 1 ≤ (M : Int)) (hrow : (k : Int).tdiv (M : Int) = (row : Int)) (hcol : (k : Int).tmod (M : Int) = (col : Int)) (wrow : IntKind.i64.wrap (row : Int) = (row : Int)) (colM : (col : Int) < (M : Int))
    (hu : IntKind.i64.wrap ((row : Int) * (N : Int)) = (u : Int)) (hr1 : IntKind.i64.wrap ((row : Int) + 1) = ((row : Int) + 1)) (hv : IntKind.i64.wrap (((row : Int) + 1) * (N : Int)) = (v : Int)) (uv : v = u + N) (vr : v ≤ r) (rc : r ≤ cap)
    (hu' : IntKind.i64.wrap ((col : Int) * (N : Int)) = (u' : Int)) (hc1 : IntKind.i64.wrap ((col : Int) + 1) = ((col : Int) + 1)) (hv' : IntKind.i64.wrap (((col : Int) + 1) * (N : Int)) = (v' : Int)) (uv' : v' = u' + N) (vs : v' ≤ s) (sd : s ≤ dap)
    (n0 : 1 ≤ N) (r4 : (r : Int) ≤ 4096) (s4 : (s : Int) ≤ 4096) (ba : bd sa) (bza : bd za) (bb : bd sb) (bzb : bd zb)
    (hD : dotV sa za sb zb N N (fun t => X (u + t)) (fun t => Y (u' + t)) = D) (b0 : -1073741824 ≤ bv) (b1 : bv ≤ 1073741824)
    (hR : ∀ w, Calls Try.prog 29 #[.int .i64 (cl (-1073741824) 1073741824 (D + bv)), .int .i64 mu, .int .i64 sh, .agg #[.int .i64 sc, .int .i64 zc]] w fun e w' => e = .returned (.int .i64 v0) ∧ Below w.heap.size w w') :
    Calls Try.prog 27 #[.int .i64 k, .pointer (some ⟨Pm, 0, none⟩), .pointer (some ⟨Pa, 0, none⟩), .pointer (some ⟨Pb, 0, none⟩), .pointer (some ⟨Px, 0, none⟩), .pointer (some ⟨Pn, 0, none⟩), .pointer (some ⟨Pw, 0, none⟩), .pointer (some ⟨Pi, 0, none⟩), .pointer (some ⟨Pu, 0, none⟩), .pointer (some ⟨Ps, 0, none⟩), .pointer (some ⟨Pc, 0, none⟩)] W fun e w' => e = .returned (.int .i64 v0) ∧ Below W.heap.size W w' := by
  have HL := hide h
  have HX := hide hx
  have HY := hide hy
  have HR := hide hR
  have Db := dotV_bd sa za sb zb N N (fun t => X (u + t)) (fun t => Y (u' + t))
  rw [hD] at Db
  have wS : IntKind.i64.wrap (D + bv) = D + bv := by rw [IntKind.wrap_i64]; omega
  have vu : v - u = N := by omega
  have vu' : v' - u' = N := by omega
  have HD := hide hD
  have HZ := hide hz
  have bw := World.block_lt_of_cell? _ _ hz
  have BW := hide bw
  have N0 := hide n0
  have VU := hide vu
  have VU' := hide vu'
  have R4 := hide r4
  have S4 := hide s4
  have BA := hide (And.intro (And.intro ba bza) (And.intro bb bzb))
  have VR := hide (show u + (v - u) ≤ r by omega)
  have VS := hide (show u' + (v' - u') ≤ s by omega)
  have cI : (cap = u) = False := eq_false (by omega)
  have cI' : (dap = u') = False := eq_false (by omega)
  have uvI : (u : Int) ≤ v := by omega
  have vcI : (v : Int) ≤ cap := by omega
  have uvI' : (u' : Int) ≤ v' := by omega
  have vcI' : (v' : Int) ≤ dap := by omega
  have mz : ((M : Int) == 0) = false := by simp; omega
  clear h hx hy hR hD hz bw n0 vu vu' r4 s4 ba bza bb bzb uv vr rc uv' vs sd Db b0 b1
  have k0 := cell_regrown (show W.cell? ⟨Pm, 0, none⟩ = some (.int .i64 (M : Int)) from HL.out (⟨Pm, 0, none⟩, .int .i64 (M : Int)) (.head _))
  go_enter Try.func27, Try.ntmps27
  go_wp2_with fail
  refine wp_region_quiet_below (by kernel_rfl) (by kernel_rfl) ?_
  repeat (go_big_quiet_step (fail))
  refine wpQuiet_nil ?_
  intro _ hw'
  obtain ⟨⟨dq, osq⟩, hw''⟩ := hw'
  subst hw''
  obtain ⟨Z1, hZ1⟩ : ∃ Z1, Sort.grow (redrawn W dq) osq = Z1 := ⟨_, rfl⟩
  have bz1 : Below W.heap.size W Z1 := hZ1 ▸ below_regrown _ _ _
  rw [hZ1]
  clear hZ1
  clear k0
  replace HL := hide (HL.out.below bz1)
  replace HX := hide ((HX.out.below bz1).mono bz1.size)
  replace HY := hide ((HY.out.below bz1).mono bz1.size)
  replace HZ := hide ((bz1.cell (p := ⟨zb', zo + col, none⟩) BW.out).trans HZ.out)
  replace BW := hide (Nat.lt_of_lt_of_le BW.out bz1.size)
  have BL := hide bz1
  clear bz1 hrow hcol wrow m0 mz
  have k1 := cell_regrown (show Z1.cell? ⟨Pa, 0, none⟩ = some (.int .i64 sa) from HL.out (⟨Pa, 0, none⟩, .int .i64 sa) (.tail _ (.head _)))
  have k2 := cell_regrown (show Z1.cell? ⟨Pa, 1, none⟩ = some (.int .i64 za) from HL.out (⟨Pa, 1, none⟩, .int .i64 za) (.tail _ (.tail _ (.head _))))
  have k3 := cell_regrown (show Z1.cell? ⟨Pb, 0, none⟩ = some (.int .i64 sb) from HL.out (⟨Pb, 0, none⟩, .int .i64 sb) (.tail _ (.tail _ (.tail _ (.head _)))))
  have k4 := cell_regrown (show Z1.cell? ⟨Pb, 1, none⟩ = some (.int .i64 zb) from HL.out (⟨Pb, 1, none⟩, .int .i64 zb) (.tail _ (.tail _ (.tail _ (.tail _ (.head _))))))
  have k5 := cell_regrown (show Z1.cell? ⟨Px, 0, none⟩ = some (.slice (some ⟨xb, xo, none⟩) r cap) from HL.out (⟨Px, 0, none⟩, .slice (some ⟨xb, xo, none⟩) r cap) (.tail _ (.tail _ (.tail _ (.tail _ (.tail _ (.head _)))))))
  have k6 := cell_regrown (show Z1.cell? ⟨Pn, 0, none⟩ = some (.int .i64 (N : Int)) from HL.out (⟨Pn, 0, none⟩, .int .i64 (N : Int)) (.tail _ (.tail _ (.tail _ (.tail _ (.tail _ (.tail _ (.head _))))))))
  have k7 := cell_regrown (show Z1.cell? ⟨Pw, 0, none⟩ = some (.slice (some ⟨yb, yo, none⟩) s dap) from HL.out (⟨Pw, 0, none⟩, .slice (some ⟨yb, yo, none⟩) s dap) (.tail _ (.tail _ (.tail _ (.tail _ (.tail _ (.tail _ (.tail _ (.head _)))))))))
  have k8 := cell_regrown (show Z1.cell? ⟨Pi, 0, none⟩ = some (.slice (some ⟨zb', zo, none⟩) M eap) from HL.out (⟨Pi, 0, none⟩, .slice (some ⟨zb', zo, none⟩) M eap) (.tail _ (.tail _ (.tail _ (.tail _ (.tail _ (.tail _ (.tail _ (.tail _ (.head _))))))))))
  have kz := cell_regrown HZ.out
  have CD := hide (fun d os => Calls.regrown_of (d := d) (os := os) (w := Z1) (implDot sa za sb zb (some ⟨xb, xo + u, none⟩) (v - u) (cap - u) (fun t => X (u + t)) (some ⟨yb, yo + u', none⟩) (v' - u') (dap - u') (fun t => Y (u' + t)) _ BA.out.1.1 BA.out.1.2 BA.out.2.1 BA.out.2.2 (ints_sub (HX.out.below (below_regrown Z1 d os) |>.mono (below_regrown Z1 d os).size) VR.out) (ints_sub (HY.out.below (below_regrown Z1 d os) |>.mono (below_regrown Z1 d os).size) VS.out) (by have := R4.out; have := VR.out; omega) (by have := S4.out; have := VS.out; omega)))
  have eD : dotV sa za sb zb (v - u) (v' - u') (fun t => X (u + t)) (fun t => Y (u' + t)) = D := by rw [VU.out, VU'.out]; exact HD.out
  rw [eD] at CD
  clear eD
  go_wp2_with fail
  refine wp_region_quiet_below (by kernel_rfl) (by kernel_rfl) ?_
  repeat (go_big_quiet_step (first | (go_at_call 28; exact CD.out _ _)))
  refine wpQuiet_nil ?_
  intro _ hw'
  obtain ⟨⟨dq, osq⟩, hw''⟩ := hw'
  subst hw''
  obtain ⟨Z2, hZ2⟩ : ∃ Z2, Sort.grow (redrawn Z1 dq) osq = Z2 := ⟨_, rfl⟩
  have bz2 : Below Z1.heap.size Z1 Z2 := hZ2 ▸ below_regrown _ _ _
  rw [hZ2]
  clear hZ2
  clear k1 k2 k3 k4 k5 k6 k7 k8
  clear kz CD
  replace HL := hide (HL.out.below bz2)
  replace BL := hide (BL.out.trans (bz2.mono BL.out.size))
  clear bz2
  have k9 := cell_regrown (show Z2.cell? ⟨Pu, 0, none⟩ = some (.int .i64 mu) from HL.out (⟨Pu, 0, none⟩, .int .i64 mu) (.tail _ (.tail _ (.tail _ (.tail _ (.tail _ (.tail _ (.tail _ (.tail _ (.tail _ (.head _)))))))))))
  have k10 := cell_regrown (show Z2.cell? ⟨Ps, 0, none⟩ = some (.int .i64 sh) from HL.out (⟨Ps, 0, none⟩, .int .i64 sh) (.tail _ (.tail _ (.tail _ (.tail _ (.tail _ (.tail _ (.tail _ (.tail _ (.tail _ (.tail _ (.head _))))))))))))
  have k11 := cell_regrown (show Z2.cell? ⟨Pc, 0, none⟩ = some (.int .i64 sc) from HL.out (⟨Pc, 0, none⟩, .int .i64 sc) (.tail _ (.tail _ (.tail _ (.tail _ (.tail _ (.tail _ (.tail _ (.tail _ (.tail _ (.tail _ (.tail _ (.head _)))))))))))))
  have k12 := cell_regrown (show Z2.cell? ⟨Pc, 1, none⟩ = some (.int .i64 zc) from HL.out (⟨Pc, 1, none⟩, .int .i64 zc) (.tail _ (.tail _ (.tail _ (.tail _ (.tail _ (.tail _ (.tail _ (.tail _ (.tail _ (.tail _ (.tail _ (.tail _ (.head _))))))))))))))
  have CC := hide (fun d os => Calls.regrown_of (d := d) (os := os) (w := Z2) ((clampF (-1073741824) 1073741824 (D + bv) _ (by decide)).mono (fun e w' q => ⟨q.1, q.2 ▸ Below.refl _ _⟩)))
  have CR := hide (fun d os => Calls.regrown_of (d := d) (os := os) (w := Z2) (HR.out _))
  obtain ⟨y, hy⟩ : ∃ y, cl (-1073741824) 1073741824 (D + bv) = y := ⟨_, rfl⟩
  rw [hy] at CC CR
  clear hy
  go_wp2_with fail
  refine wp_region_quiet_below (by kernel_rfl) (by kernel_rfl) ?_
  repeat (go_big_quiet_step (first | (go_at_call 30; exact CC.out _ _) | (go_at_call 29; exact CR.out _ _)))
  refine wpQuiet_nil ?_
  intro _ hw'
  obtain ⟨⟨dq, osq⟩, hw''⟩ := hw'
  subst hw''
  obtain ⟨Z3, hZ3⟩ : ∃ Z3, Sort.grow (redrawn Z2 dq) osq = Z3 := ⟨_, rfl⟩
  have bz3 : Below Z2.heap.size Z2 Z3 := hZ3 ▸ below_regrown _ _ _
  rw [hZ3]
  clear hZ3
  clear k9 k10 k11 k12
  clear CC CR
  go_wp2_with fail
  go_ret
  exact ⟨rfl, BL.out.trans (bz3.mono BL.out.size)⟩
end Vo
end Go.Proofs.Ytnnjkanmcfjblaa
