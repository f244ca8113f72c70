/- Pad of the program. -/
import Derived.Test.YtajigcbpooblbaaTx
import Derived.Test.YtajigcbpooblbaaTd
import Derived.Deep.RegionHeld3
namespace Go.Proofs.Ytajigcbpooblbaa
namespace Vo
open Go.ChangeShapes Go.WideShapes Go.ChangeAt Go.RowKit Go.Joins Go.Sort
open Vl Vp Vr
set_option linter.unusedVariables false
set_option linter.unusedSimpArgs false

/-- where a number goes along the axis -/
def padI (bf gp : Int) (k : Nat) : Int := bf + (k : Int) * (gp + 1)
/-- how long the axis becomes -/
def padN (l bf af gp : Int) : Int := bf + (l - 1) * (gp + 1) + 1 + af
def PadOk (bf af gp : Int) : Prop := (0 ≤ bf ∧ bf ≤ 4096) ∧ (0 ≤ af ∧ af ≤ 4096) ∧ (0 ≤ gp ∧ gp ≤ 4096)
instance (bf af gp : Int) : Decidable (PadOk bf af gp) := by unfold PadOk; infer_instance
def padP (r s : Nat) (D S : Nat → Int) (x bf af gp : Int) : PT := if ¬ lenA r s D S x = 0 ∧ PadOk bf af gp then lineP r s D S x (padN (lenA r s D S x) bf af gp) (scaG (lenA r s D S x).toNat (padI bf gp)) else PT.zero
theorem padP_le (r s : Nat) (D S : Nat → Int) (x bf af gp : Int) : (padP r s D S x bf af gp).r ≤ r ∧ (((padP r s D S x bf af gp).s : Nat) : Int) ≤ 4096 := by
  unfold padP
  split
  · exact lineP_le _ _ _ _ _ _ _
  · exact ⟨Nat.zero_le _, by simp [PT.zero]⟩
theorem padP_no {r s : Nat} {D S : Nat → Int} {x bf af gp : Int} (h : ¬ (¬ lenA r s D S x = 0 ∧ PadOk bf af gp)) : padP r s D S x bf af gp = PT.zero := by unfold padP; rw [if_neg h]
theorem pad_mul {q : Nat} {bf af gp : Int} (h : PadOk bf af gp) (q4 : (q : Int) ≤ 4096) {k : Nat} (hk : k < q) : 0 ≤ (k : Int) * (gp + 1) ∧ (k : Int) * (gp + 1) ≤ ((q : Int) - 1) * (gp + 1) ∧ ((q : Int) - 1) * (gp + 1) ≤ 16777215 := by
  obtain ⟨_, _, h3, h4⟩ := h
  refine ⟨Int.mul_nonneg (by omega) (by omega), Int.mul_le_mul_of_nonneg_right (by omega) (by omega), ?_⟩
  have : ((q : Int) - 1) * (gp + 1) ≤ 4095 * 4097 := Int.mul_le_mul (by omega) (by omega) (by omega) (by omega)
  omega
theorem pad_wi {q : Nat} {bf af gp : Int} (h : PadOk bf af gp) (q4 : (q : Int) ≤ 4096) : WI q (padI bf gp) (padN q bf af gp) := fun k hk => by
  have := pad_mul h q4 hk
  obtain ⟨h1, h2, _⟩ := h
  unfold padI padN
  omega
theorem padP_sca {r s q : Nat} {D S : Nat → Int} {x bf af gp : Int} (hl : lenA r s D S x = q) (h0 : ¬ q = 0) (h : PadOk bf af gp) : padP r s D S x bf af gp = scaP r s q D S (padI bf gp) x (padN q bf af gp) := by
  have l4 := lenA_rng r s D S x
  unfold padP
  rw [if_pos ⟨by omega, h⟩, hl, Int.toNat_natCast, scaP_yes (by rw [hl, wi_yes (pad_wi h (by omega))]; simp)]
def three (a b c : Int) : Nat → Int | 0 => a | 1 => b | _ => c
theorem wi_three (a b c : Int) : wi 3 (three a b c) 4097 = decide (PadOk a b c) := by
  unfold wi
  refine decide_eq_decide.2 ⟨fun h => ?_, fun h => ?_⟩
  · have h0 := h 0 (by omega)
    have h1 := h 1 (by omega)
    have h2 := h 2 (by omega)
    simp only [three] at h0 h1 h2
    unfold PadOk
    omega
  · unfold PadOk at h
    intro j hj
    match j, hj with
    | 0, _ => simp only [three]; omega
    | 1, _ => simp only [three]; omega
    | 2, _ => simp only [three]; omega
theorem pad1 (q k P1 P2 : Nat) (bf af gp : Int) (w : World) (h : PadOk bf af gp) (q4 : (q : Int) ≤ 4096) (hk : k < q) (c1 : w.cell? ⟨P1, 0, none⟩ = some (.int .i64 bf)) (c2 : w.cell? ⟨P2, 0, none⟩ = some (.int .i64 gp)) :
    Calls Try.prog 53 #[.int .i64 k, .pointer (some ⟨P1, 0, none⟩), .pointer (some ⟨P2, 0, none⟩)] w fun e w' => e = .returned (.int .i64 (padI bf gp k)) ∧ w' = w := by
  have m := pad_mul h q4 hk
  obtain ⟨⟨a1, a2⟩, _, a3, a4⟩ := h
  obtain ⟨y, hy⟩ : ∃ y, (k : Int) * (gp + 1) = y := ⟨_, rfl⟩
  have e1 : IntKind.i64.wrap (gp + 1) = gp + 1 := by rw [IntKind.wrap_i64]; omega
  have e2 : IntKind.i64.wrap ((k : Int) * (gp + 1)) = y := by rw [hy, IntKind.wrap_i64]; omega
  have e3 : IntKind.i64.wrap (bf + y) = bf + y := by rw [IntKind.wrap_i64]; omega
  have E := hide (show padI bf gp k = bf + y by unfold padI; rw [hy])
  clear m hy a1 a2 a3 a4
  go_enter Try.func53, Try.ntmps53
  go_wp2_with fail
  go_ret
  exact ⟨ret_int (by rw [E.out]), rfl⟩
theorem paddedLength (q : Nat) (bf af gp : Int) (w : World) (h : PadOk bf af gp) (q1 : 1 ≤ q) (q4 : (q : Int) ≤ 4096) :
    Calls Try.prog 54 #[.int .i64 q, .int .i64 bf, .int .i64 af, .int .i64 gp] w fun e w' => e = .returned (.int .i64 (padN q bf af gp)) ∧ w' = w := by
  have m := pad_mul h q4 (k := 0) (by omega)
  obtain ⟨⟨a1, a2⟩, ⟨a5, a6⟩, a3, a4⟩ := h
  obtain ⟨y, hy⟩ : ∃ y, ((q : Int) - 1) * (gp + 1) = y := ⟨_, rfl⟩
  have e0 : IntKind.i64.wrap ((q : Int) - 1) = (q : Int) - 1 := by rw [IntKind.wrap_i64]; omega
  have e1 : IntKind.i64.wrap (gp + 1) = gp + 1 := by rw [IntKind.wrap_i64]; omega
  have e2 : IntKind.i64.wrap (((q : Int) - 1) * (gp + 1)) = y := by rw [hy, IntKind.wrap_i64]; omega
  have e3 : IntKind.i64.wrap (bf + y) = bf + y := by rw [IntKind.wrap_i64]; omega
  have e4 : IntKind.i64.wrap (bf + y + 1) = bf + y + 1 := by rw [IntKind.wrap_i64]; omega
  have e5 : IntKind.i64.wrap (bf + y + 1 + af) = bf + y + 1 + af := by rw [IntKind.wrap_i64]; omega
  have E := hide (show padN q bf af gp = bf + y + 1 + af by unfold padN; rw [hy])
  clear m hy a1 a2 a3 a4 a5 a6 q1 q4
  go_enter Try.func54, Try.ntmps54
  go_wp2_with fail
  go_ret
  exact ⟨ret_int (by rw [E.out]), rfl⟩
set_option maxRecDepth 100000 in
set_option maxHeartbeats 2000000 in
theorem padF (B : Nat) (a b : Option Addr) (r s cap dap : Nat) (D S : Nat → Int) (x bf af gp : Int) (w : World) (hB : B ≤ w.heap.size) (h : Ints B w a r D) (h' : Ints B w b s S) (hr : (r : Int) ≤ 1048576) (hs : (s : Int) ≤ 1048576) (hcap : r ≤ cap) (hb : bd bf ∧ bd af ∧ bd gp) :
    Calls Try.prog 24 #[.agg #[.slice a r cap, .slice b s dap], .int .i64 x, .int .i64 bf, .int .i64 af, .int .i64 gp] w fun e w' => TensR w.heap.size (padP r s D S x bf af gp) w e w' := by
  obtain ⟨W0, hW0⟩ : ∃ W0, (((w.alloc (.cells #[.slice a r cap, .slice b s dap] 26)).alloc (.cells #[.int .i64 bf] 3)).alloc (.cells #[.int .i64 gp] 3)).alloc (.cells #[.slice none 0 0, .slice none 0 0] 26) = W0 := ⟨_, rfl⟩
  have hs0 : W0.heap.size = w.heap.size + 1 + 1 + 1 + 1 := by rw [← hW0]; simp
  have bl : Below w.heap.size w W0 := by rw [← hW0]; exact ((((Below.refl _ _).alloc (Nat.le_refl _) _).alloc (by simp) _).alloc (by simp <;> omega) _).alloc (by simp <;> omega) _
  have n0 : Bx W0 w.heap.size (.slice a r cap) (.slice b s dap) := by
    rw [← hW0]; exact (bx_new w (.slice a r cap) (.slice b s dap) 26).below ((((Below.refl (w.heap.size + 1) _).alloc (by simp) _).alloc (by simp) _).alloc (by simp <;> omega) _) (by omega)
  have i0 : W0.cell? ⟨w.heap.size + 1, 0, none⟩ = some (.int .i64 bf) := by rw [← hW0]; simp [go_sem]
  have i1 : W0.cell? ⟨w.heap.size + 1 + 1, 0, none⟩ = some (.int .i64 gp) := by rw [← hW0]; simp [go_sem]
  have m0 : Bx W0 (w.heap.size + 1 + 1 + 1) (.slice none 0 0) (.slice none 0 0) := by
    have q := bx_new (((w.alloc (.cells #[.slice a r cap, .slice b s dap] 26)).alloc (.cells #[.int .i64 bf] 3)).alloc (.cells #[.int .i64 gp] 3)) (.slice none 0 0) (.slice none 0 0) 26
    rw [World.size_alloc, World.size_alloc, World.size_alloc] at q
    rw [← hW0]; exact q
  have g0 : Free W0 (w.heap.size + 1 + 1 + 1) := by
    have q := free_new (((w.alloc (.cells #[.slice a r cap, .slice b s dap] 26)).alloc (.cells #[.int .i64 bf] 3)).alloc (.cells #[.int .i64 gp] 3)) #[.slice none 0 0, .slice none 0 0] 26
    rw [World.size_alloc, World.size_alloc, World.size_alloc] at q
    rw [← hW0]; exact q
  have H := hide (h.below (bl.mono hB))
  have H' := hide (h'.below (bl.mono hB))
  have BL := hide bl
  have HS0 := hide hs0
  have N0 := hide n0
  have I0 := hide i0
  have I1 := hide i1
  have M0 := hide m0
  have G0 := hide g0
  have HB := hide hb
  have LA := hide (lenA_rng r s D S x)
  obtain ⟨l, hl⟩ : ∃ l : Nat, lenA r s D S x = l := ⟨(lenA r s D S x).toNat, by have := LA.out; omega⟩
  have l4 : (l : Int) ≤ 4096 := by have := LA.out; omega
  have HL := hide hl
  obtain ⟨x0, x1⟩ := n0
  clear h h' bl m0 g0 hs0 i0 i1 hb hl LA
  go_enter Try.func24, Try.ntmps24
  go_wp2_with fail
  clear hW0
  refine (lengthAt B a b r s cap dap D S x W0 (by have := HS0.out; omega) H.out H'.out hr hs).mono ?_
  rintro e w1 ⟨rfl, b1⟩
  rw [HL.out]
  have z0 := HS0.out
  have N1 := hide (N0.out.below b1 (by omega))
  have M1 := hide (M0.out.below b1 (by omega))
  have G1 := hide (G0.out.below b1 (by omega))
  have J0 := hide ((b1.cell (p := ⟨w.heap.size + 1, 0, none⟩) (by show w.heap.size + 1 < W0.heap.size; omega)).trans I0.out)
  have J1 := hide ((b1.cell (p := ⟨w.heap.size + 1 + 1, 0, none⟩) (by show w.heap.size + 1 + 1 < W0.heap.size; omega)).trans I1.out)
  have B1 := hide (BL.out.trans (b1.mono BL.out.size))
  have H1 := hide (H.out.below (b1.mono (by omega)))
  have H1' := hide (H'.out.below (b1.mono (by omega)))
  have s1 : w.heap.size + 1 + 1 + 1 < w1.heap.size := by have := b1.size; omega
  clear b1 x0 x1 z0
  by_cases l0 : l = 0
  · have l0' : ((l : Int) == 0) = true := by rw [l0]; rfl
    have ez := hide (padP_no (r := r) (s := s) (D := D) (S := S) (x := x) (bf := bf) (af := af) (gp := gp) (fun q => q.1 (by rw [HL.out, l0]; rfl)))
    clear l0
    obtain ⟨y0, y1⟩ := M1.out
    have gg := G1.out
    unfold Free at gg
    go_wp2_with fail
    refine bodyPost_ret (v := .agg #[.slice none 0 0, .slice none 0 0]) (by simp [results, Try.results24, go_sem, y0, y1]) rfl (by
      rw [ez.out]
      refine tensR_zero ?_
      repeat (refine Below.setCell ?_ (by simp <;> omega) _)
      exact B1.out)
  have l0' : ((l : Int) == 0) = false := beq_eq_false_iff_ne.2 (by omega)
  obtain ⟨W1, hW1⟩ : ∃ W1, w1.alloc (.cells #[.int .i64 bf, .int .i64 af, .int .i64 gp] 3) = W1 := ⟨_, rfl⟩
  have z1 : W1.heap.size = w1.heap.size + 1 := by rw [← hW1]; simp
  have b2 : Below w1.heap.size w1 W1 := by rw [← hW1]; exact (Below.refl _ _).alloc (Nat.le_refl _) _
  have t0 : Ints W1.heap.size W1 (some ⟨w1.heap.size, 0, none⟩) 3 (three bf af gp) := by
    refine .inr ⟨_, _, rfl, by omega, fun j hj => ?_⟩
    obtain ⟨b1, b2, b3⟩ := HB.out
    rw [← hW1]
    match j, hj with
    | 0, _ => exact ⟨by simp [go_sem, three], b1⟩
    | 1, _ => exact ⟨by simp [go_sem, three], b2⟩
    | 2, _ => exact ⟨by simp [go_sem, three], b3⟩
  have T0 := hide t0
  have B2 := hide b2
  have Z1 := hide z1
  have j0 := J0.out
  have j1 := J1.out
  clear t0 b2 z1
  go_wp2_with fail
  clear hW1
  refine (within W1.heap.size (some ⟨w1.heap.size, 0, none⟩) 3 3 (three bf af gp) 4097 W1 (Nat.le_refl _) T0.out (by omega)).mono ?_
  rintro e w2 ⟨rfl, b3⟩
  rw [wi_three]
  have b4 := B2.out.trans (b3.mono B2.out.size)
  have N2 := hide (N1.out.below b4 (by omega))
  have M2 := hide (M1.out.below b4 (by omega))
  have G2 := hide (G1.out.below b4 (by omega))
  have K0 := hide ((b4.cell (p := ⟨w.heap.size + 1, 0, none⟩) (by show w.heap.size + 1 < w1.heap.size; omega)).trans J0.out)
  have K1 := hide ((b4.cell (p := ⟨w.heap.size + 1 + 1, 0, none⟩) (by show w.heap.size + 1 + 1 < w1.heap.size; omega)).trans J1.out)
  have B4 := hide (B1.out.trans (b4.mono B1.out.size))
  have H2 := hide (H1.out.below (b4.mono (by omega)))
  have H2' := hide (H1'.out.below (b4.mono (by omega)))
  have s2 : w1.heap.size ≤ w2.heap.size := b4.size
  clear b3 b4 j0 j1
  cases hv : decide (PadOk bf af gp) with
  | false =>
    have ez := hide (padP_no (r := r) (s := s) (D := D) (S := S) (x := x) (bf := bf) (af := af) (gp := gp) (fun q => of_decide_eq_false hv q.2))
    clear hv l0
    obtain ⟨y0, y1⟩ := M2.out
    have gg := G2.out
    unfold Free at gg
    go_wp2_with fail
    refine bodyPost_ret (v := .agg #[.slice none 0 0, .slice none 0 0]) (by simp [results, Try.results24, go_sem, y0, y1]) rfl (by
      rw [ez.out]
      refine tensR_zero ?_
      repeat (refine Below.setCell ?_ (by simp <;> omega) _)
      exact B4.out)
  | true =>
  have PO := hide (of_decide_eq_true hv)
  have ez := hide (padP_sca (r := r) (s := s) (D := D) (S := S) (x := x) HL.out l0 PO.out)
  have BI := hide (show ∀ k, k < l → bd (padI bf gp k) from fun k hk => by
    have := pad_mul PO.out l4 hk
    obtain ⟨⟨a1, a2⟩, _, _⟩ := PO.out
    unfold padI bd; omega)
  have BN := hide (show bd (padN l bf af gp) by
    have := pad_mul PO.out l4 (k := 0) (by omega)
    obtain ⟨⟨a1, a2⟩, ⟨a3, a4⟩, _⟩ := PO.out
    unfold padN bd; omega)
  clear hv
  go_wp2_with fail
  refine (elementwise2 l 53 (.pointer (some ⟨w.heap.size + 1, 0, none⟩)) (.pointer (some ⟨w.heap.size + 1 + 1, 0, none⟩)) (padI bf gp) w2 (by omega) BI.out (enters_of Try.func53 (by kernel_rfl) rfl) (fun k W hk hW => (pad1 l k (w.heap.size + 1) (w.heap.size + 1 + 1) bf af gp W PO.out l4 hk ((hW.cell (p := ⟨w.heap.size + 1, 0, none⟩) (by show w.heap.size + 1 < w2.heap.size; omega)).trans K0.out) ((hW.cell (p := ⟨w.heap.size + 1 + 1, 0, none⟩) (by show w.heap.size + 1 + 1 < w2.heap.size; omega)).trans K1.out)).mono (fun e W' q => ⟨q.1, q.2 ▸ Below.refl _ _⟩))).mono ?_
  rintro e w3 ⟨rfl, r3, g3, b3⟩
  have N3 := hide (N2.out.below b3 (by omega))
  have M3 := hide (M2.out.below b3 (by omega))
  have G3 := hide (G2.out.below b3 (by omega))
  have L0 := hide ((b3.cell (p := ⟨w.heap.size + 1, 0, none⟩) (by show w.heap.size + 1 < w2.heap.size; omega)).trans K0.out)
  have L1 := hide ((b3.cell (p := ⟨w.heap.size + 1 + 1, 0, none⟩) (by show w.heap.size + 1 + 1 < w2.heap.size; omega)).trans K1.out)
  have B3 := hide (B4.out.trans (b3.mono B4.out.size))
  have H3 := hide (H2.out.below (b3.mono (by omega)))
  have H3' := hide (H2'.out.below (b3.mono (by omega)))
  have R3 := hide r3
  clear b3 r3 N2 M2 G2 K0 K1 H2 H2'
  obtain ⟨x0, x1⟩ := N3.out
  have j0 := L0.out
  have j1 := L1.out
  have CP := hide (fun (W : World) => paddedLength l bf af gp W PO.out (by omega) l4)
  have CS := hide (scatterF w3.heap.size a b (some ⟨w2.heap.size, 0, none⟩) r s l cap dap l D S (padI bf gp) x (padN l bf af gp) w3.drew (Nat.le_refl _) (by exact H3.out.mono (by omega)) (by exact H3'.out.mono (by omega)) (by exact R3.out.ints g3) hr hs (by omega) hcap BN.out)
  obtain ⟨T, hT⟩ : ∃ T, scaP r s l D S (padI bf gp) x (padN l bf af gp) = T := ⟨_, rfl⟩
  obtain ⟨nn, hnn⟩ : ∃ nn, padN l bf af gp = nn := ⟨_, rfl⟩
  rw [hT] at CS ez
  rw [hnn] at CS CP
  have F1 := hide (fun (W : World) (hW : Below w3.drew.heap.size w3.drew W) => show Below w3.heap.size w3 W from (Below.refl _ _).drew.trans hW)
  have F2 := hide (fun (W : World) (hW : Below w3.heap.size w3 W) => N3.out.below hW (by omega))
  have F3 := hide (fun (W : World) (hW : Below w3.heap.size w3 W) => M3.out.below hW (by omega))
  have F4 := hide (fun (W : World) (hW : Below w3.heap.size w3 W) => G3.out.below hW (by omega))
  have F5 := hide (fun (W : World) (hW : Below w3.heap.size w3 W) => (hW.cell (p := ⟨w.heap.size + 1, 0, none⟩) (by show w.heap.size + 1 < w3.heap.size; omega)).trans L0.out)
  have F6 := hide (fun (W : World) (hW : Below w3.heap.size w3 W) => (hW.cell (p := ⟨w.heap.size + 1 + 1, 0, none⟩) (by show w.heap.size + 1 + 1 < w3.heap.size; omega)).trans L1.out)
  have s3 : w.heap.size + 1 + 1 + 1 < w3.heap.size := by omega
  clear hT hnn l0 l0'
  go_wp2_with fail
  go_region_held3 (fun w' => w'.cell? ⟨w.heap.size, 0, none⟩ = some (.slice a r cap) ∧ w'.cell? ⟨w.heap.size, 1, none⟩ = some (.slice b s dap) ∧ w'.cell? ⟨w.heap.size + 1, 0, none⟩ = some (.int .i64 bf) ∧ w'.cell? ⟨w.heap.size + 1 + 1, 0, none⟩ = some (.int .i64 gp))
    ((try dsimp only) <;> (repeat' apply And.intro) <;> (first | with_reducible assumption | assumption | (simp [go_sem, *]; done)))
    (first
    | (go_at_call 54; refine (CP.out _).mono ?_; rintro e w4 ⟨rfl, rfl⟩)
    | (go_at_call 22
       refine CS.out.mono ?_
       rintro e w5 ⟨ta, tb, tc, td, rfl, tz, b5⟩
       have BB := hide (F1.out w5 b5)
       have TO := hide tz
       obtain ⟨q0, q1⟩ := F2.out w5 BB.out
       obtain ⟨y0, y1⟩ := F3.out w5 BB.out
       have gg := F4.out w5 BB.out
       unfold Free at gg
       have q2 := F5.out w5 BB.out
       have q3 := F6.out w5 BB.out
       clear tz b5))
  all_goals (go_wp2_with fail)
  all_goals (refine bodyPost_ret (v := .agg #[.slice ta T.r tc, .slice tb T.s td]) (by simp [results, Try.results24, go_sem, y0, y1]) rfl ?_)
  all_goals (show TensR w.heap.size (padP r s D S x bf af gp) w _ _)
  all_goals (rw [ez.out])
  all_goals (exact tens_end TO.out s3 (by omega) (B3.out.trans (BB.out.mono B3.out.size)))
end Vo
end Go.Proofs.Ytajigcbpooblbaa
