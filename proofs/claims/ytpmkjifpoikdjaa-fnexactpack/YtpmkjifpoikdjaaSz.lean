/- Places in order of a list of ints; ranked. -/
import Derived.Test.YtpmkjifpoikdjaaSy
namespace Go.Proofs.Ytpmkjifpoikdjaa
namespace Vo
open Go.ChangeShapes Go.WideShapes Go.ChangeAt Go.RowKit Go.Joins Go.Sort
open Vl Vp
set_option linter.unusedVariables false
set_option linter.unusedSimpArgs false
theorem kept_cell {S : Nat → Prop} {w w' : World} {p : Addr} (hk : Kept S w w') (hp : p.block < w.heap.size) (hn : ¬ S p.block) : w'.cell? p = w.cell? p := World.cell?_of_block (w := w) (a := p) (hk.block _ hp hn)
/-- the key of a place: its number, signed -/
def keyI (L : Nat → Int) (p : Int) : Int := sgs (L p.toNat)
set_option maxHeartbeats 2000000 in
theorem plcI (B N bc bl cap : Nat) (a : Option Addr) (L : Nat → Int) (i j : Nat) (w : World) (hB : B ≤ w.heap.size) (h : Ints B w a N L) (hc : w.cell? ⟨bc, 0, none⟩ = some (.func (.func 72) #[] #[])) (hl : w.cell? ⟨bl, 0, none⟩ = some (.slice a N cap)) (hN : (N : Int) ≤ 1048576) (hi : i < N) (hj : j < N) :
    Calls Try.prog 85 #[.int .i64 i, .int .i64 j, .pointer (some ⟨bc, 0, none⟩), .pointer (some ⟨bl, 0, none⟩)] w fun e w' => e = .returned (.int .i64 (cmpI (sgs (L i)) (sgs (L j)))) ∧ Below w.heap.size w w' := by
  rcases h with h0 | ⟨b, off, rfl, hbB, hcs⟩
  · omega
  obtain ⟨c1, d1⟩ := hcs i hi
  obtain ⟨c2, d2⟩ := hcs j hj
  have iI : (i : Int) < N := by omega
  have jI : (j : Int) < N := by omega
  have eF := enters_of Try.func72 (by kernel_rfl) rfl
  obtain ⟨x, hx⟩ : ∃ x, L i = x := ⟨_, rfl⟩
  obtain ⟨y, hy⟩ : ∃ y, L j = y := ⟨_, rfl⟩
  rw [hx] at c1 d1 ⊢
  rw [hy] at c2 d2 ⊢
  have CM := hide (fun (W : World) => rankCmp x y W d1 d2)
  have kl := hl
  clear hcs hx hy d1 d2
  go_enter Try.func85, Try.ntmps85
  go_wp2_with fail
  go_quiet (first | exact Calls.quiet_of_same (CM.out _))
  go_wp2_with fail
  go_ret
  exact ⟨rfl, below_drewN (Below.refl _ _) _⟩
theorem cmpOfI (B N bc bl cap g : Nat) (a : Option Addr) (L : Nat → Int) (w : World) (hB : B ≤ w.heap.size) (h : Ints B w a N L) (hc : w.cell? ⟨bc, 0, none⟩ = some (.func (.func 72) #[] #[])) (hl : w.cell? ⟨bl, 0, none⟩ = some (.slice a N cap)) (hN : (N : Int) ≤ 1048576) (l1 : bc < w.heap.size) (l2 : bl < w.heap.size) (n1 : bc ≠ g) (n2 : bl ≠ g) (n3 : B ≤ g) :
    So.Cmp 85 #[.pointer (some ⟨bc, 0, none⟩), .pointer (some ⟨bl, 0, none⟩)] (keyI L) (fun p q => cmpI (keyI L p) (keyI L q)) N g w := by
  refine ⟨enters_of Try.func85 (by kernel_rfl) rfl, fun p q W p0 p1 q0 q1 hk => ?_, fun p q => cmpI_neg _ _⟩
  have := plcI B N bc bl cap a L p.toNat q.toNat W (Nat.le_trans hB hk.size) (h.kept hB hk (fun b hb e => by omega)) ((kept_cell (p := ⟨bc, 0, none⟩) hk l1 n1).trans hc) ((kept_cell (p := ⟨bl, 0, none⟩) hk l2 n2).trans hl) hN (by omega) (by omega)
  rw [show ((p.toNat : Nat) : Int) = p by omega, show ((q.toNat : Nat) : Int) = q by omega] at this
  exact this
theorem plc1 (k : Nat) (w : World) : Calls Try.prog 84 #[.int .i64 k] w fun e w' => e = .returned (.int .i64 k) ∧ w' = w := by
  go_enter Try.func84, Try.ntmps84
  go_wp2_with fail
  go_ret
  exact ⟨rfl, rfl⟩
set_option maxHeartbeats 2000000 in
theorem placesI (B N cap : Nat) (a : Option Addr) (L : Nat → Int) (w : World) (hB : B ≤ w.heap.size) (h : Ints B w a N L) (hN : (N : Int) ≤ 1048576) :
    Calls Try.prog 71 #[.slice a N cap, .func (.func 72) #[] #[]] w fun e w' => ∃ g, e = .returned (.slice (some ⟨g, 0, none⟩) N N) ∧ w.heap.size ≤ g ∧ g < w'.heap.size ∧ Rw w' g N (fun k => (So.ord (keyI L) N k : Nat)) ∧ Below w.heap.size w w' := by
  obtain ⟨W0, hW0⟩ : ∃ W0, (w.alloc (.cells #[.slice a N cap] 24)).alloc (.cells #[.func (.func 72) #[] #[]] 74) = W0 := ⟨_, rfl⟩
  have hs0 : W0.heap.size = w.heap.size + 2 := by rw [← hW0]; simp
  have bl0 : Below w.heap.size w W0 := by rw [← hW0]; exact ((Below.refl _ _).alloc (Nat.le_refl _) _).alloc (by simp) _
  have k1 : W0.cell? ⟨w.heap.size, 0, none⟩ = some (.slice a N cap) := by rw [← hW0]; simp [go_sem]
  have k2 : W0.cell? ⟨w.heap.size + 1, 0, none⟩ = some (.func (.func 72) #[] #[]) := by rw [← hW0]; simp [go_sem]
  have BL := hide bl0
  have K1 := hide k1
  have K2 := hide k2
  have HL := hide (h.below (bl0.mono hB))
  have CE := hide (elemI0 N 84 (fun k => (k : Int)) W0 (by omega) (fun k hk => by unfold bd; omega) (enters_of Try.func84 (by kernel_rfl) rfl) (fun k W _ _ => (plc1 k W).mono (fun e w' q => ⟨q.1, q.2 ▸ Below.refl _ _⟩)))
  clear h bl0 k2
  go_enter Try.func71, Try.ntmps71
  go_wp2_with fail
  refine CE.out.mono ?_
  rintro e W1 ⟨rfl, r1, z1, b1⟩
  have R1 := hide r1
  have B1 := hide b1
  have CS := hide (So.sortF W0.heap.size N N N (fun k => (k : Int)) 85 _ (keyI L) _ W1 R1.out hN (cmpOfI B N (w.heap.size + 1) w.heap.size cap W0.heap.size a L W1 (by have := b1.size; omega) (HL.out.below (b1.mono (by omega))) ((b1.cell (p := ⟨w.heap.size + 1, 0, none⟩) (by show w.heap.size + 1 < W0.heap.size; omega)).trans K2.out) ((b1.cell (p := ⟨w.heap.size, 0, none⟩) (by show w.heap.size < W0.heap.size; omega)).trans K1.out) hN (by have := b1.size; omega) (by have := b1.size; omega) (by omega) (by omega) (by omega)) (fun t ht => by omega) (fun s t h1 h2 => by omega))
  rw [hs0] at CS
  clear r1 b1 k1 hW0
  go_wp2_with fail
  refine CS.out.mono ?_
  rintro e W2 ⟨rfl, ⟨E, a1, a2, a3⟩, a4⟩
  have RR := hide (a1.same (E := fun k => (So.ord (keyI L) N k : Nat)) (fun k hk => (So.srt_ord (fun t ht => a2.rng (Nat.le_refl _) (N := N) (fun t ht => by omega) t ht) a3 k hk).symm))
  have B2 := hide (BL.out.trans (B1.out.mono BL.out.size))
  have Z2 := hide (show w.heap.size + 2 < W2.heap.size by have := a4.size; omega)
  have B3 := hide (B2.out.trans (a4.below (B := w.heap.size) B2.out.size (fun k hk => by omega)))
  clear a1 a2 a3 a4
  go_wp2_with fail
  go_ret
  exact ⟨w.heap.size + 2, rfl, by omega, Z2.out, RR.out, B3.out⟩
theorem rankedF (B N cap : Nat) (a : Option Addr) (L : Nat → Int) (w : World) (hB : B ≤ w.heap.size) (h : Ints B w a N L) (hN : (N : Int) ≤ 1048576) :
    Calls Try.prog 46 #[.slice a N cap] w fun e w' => ∃ g, e = .returned (.slice (some ⟨g, 0, none⟩) N N) ∧ w.heap.size ≤ g ∧ g < w'.heap.size ∧ Rw w' g N (fun k => (So.ord (keyI L) N k : Nat)) ∧ Below w.heap.size w w' := by
  have CP := hide (placesI B N cap a L w hB h hN)
  clear h
  go_enter Try.func46, Try.ntmps46
  go_wp2_with fail
  refine CP.out.mono ?_
  rintro e W1 ⟨g, rfl, g1, g2, g3, g4⟩
  have R := hide (And.intro g1 (And.intro g2 (And.intro g3 g4)))
  clear g1 g2 g3 g4 CP
  go_wp2_with fail
  go_ret
  exact ⟨g, rfl, R.out⟩
end Vo
end Go.Proofs.Ytpmkjifpoikdjaa
