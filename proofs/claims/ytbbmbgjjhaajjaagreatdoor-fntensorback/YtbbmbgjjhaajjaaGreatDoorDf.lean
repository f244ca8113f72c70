/- What the laws draw, as functions of the bytes that came in: the cursor with its state, dims, a tensor of given dims. -/
import Derived.Test.YtbbmbgjjhaajjaaGreatDoorDraw
import Derived.Test.YtbbmbgjjhaajjaaGreatDoorTc
import Derived.Deep.AppendLies
import Derived.Deep.RegionHeld3
namespace Go.Proofs.YtbbmbgjjhaajjaaGreatDoor
namespace Base
open Go.ChangeShapes Go.WideShapes Go.ChangeAt Go.RowKit
set_option linter.unusedVariables false
/-- bytes that came in, by a function -/
def CodeF (B : Nat) (w : World) (a : Option Addr) (len : Nat) (C : Nat → Int) : Prop :=
  len ≤ 1048576 ∧ (∀ j, 0 ≤ C j ∧ C j ≤ 255) ∧ (len = 0 ∨ ∃ b off, a = some ⟨b, off, none⟩ ∧ b < B ∧ ∀ j, j < len → w.cell? ⟨b, off + j, none⟩ = some (.int .u8 (C j)))
theorem CodeF.below {B : Nat} {w w' : World} {a : Option Addr} {len : Nat} {C : Nat → Int} (h : CodeF B w a len C) (hb : Below B w w') : CodeF B w' a len C := by
  refine ⟨h.1, h.2.1, ?_⟩
  rcases h.2.2 with h0 | ⟨b, off, e, hB, hc⟩
  · exact .inl h0
  · exact .inr ⟨b, off, e, hB, fun j hj => by rw [hb.cell (p := ⟨b, off + j, none⟩) hB]; exact hc j hj⟩
theorem CodeF.mono {B B' : Nat} {w : World} {a : Option Addr} {len : Nat} {C : Nat → Int} (h : CodeF B w a len C) (hB : B ≤ B') : CodeF B' w a len C := by
  refine ⟨h.1, h.2.1, ?_⟩
  rcases h.2.2 with h0 | ⟨b, off, e, hb, hc⟩
  · exact .inl h0
  · exact .inr ⟨b, off, e, by omega, hc⟩
theorem codeF_of {B : Nat} {w : World} {a : Option Addr} {len : Nat} (h : Code B w a len) (hl : len ≤ 1048576) : ∃ C, CodeF B w a len C := by
  rcases h.2 with h0 | ⟨b, off, e, hB, hc⟩
  · exact ⟨fun _ => 0, hl, fun _ => ⟨Int.le_refl 0, Int.natCast_nonneg 255⟩, .inl h0⟩
  · refine ⟨fun j => if h : j < len then Classical.choose (hc j h) else 0, hl, fun j => ?_, .inr ⟨b, off, e, hB, fun j hj => ?_⟩⟩
    · dsimp only
      split
      · rename_i h
        exact (Classical.choose_spec (hc j h)).2
      · omega
    · dsimp only
      rw [dif_pos hj]
      exact (Classical.choose_spec (hc j hj)).1
/-- the cursor at block p: i bytes are taken, the sum is h -/
structure CurF (B : Nat) (w : World) (p : Nat) (a : Option Addr) (len cap : Nat) (C : Nat → Int) (z : Nat × Int) : Prop where
  hp : B ≤ p
  code : CodeF B w a len C
  c0 : w.cell? ⟨p, 0, none⟩ = some (.slice a len cap)
  c1 : w.cell? ⟨p, 1, none⟩ = some (.int .i64 (z.1 : Int))
  c2 : w.cell? ⟨p, 2, none⟩ = some (.int .i64 z.2)
  i1 : z.1 ≤ len
  h0 : -9223372036854775808 ≤ z.2
  h1 : z.2 ≤ 9223372036854775807
  f1 : w.frozen? ⟨p, 1, none⟩ = false
  f2 : w.frozen? ⟨p, 2, none⟩ = false
theorem CurF.lt {B p : Nat} {a : Option Addr} {len cap : Nat} {C : Nat → Int} {z : Nat × Int} {w : World} (h : CurF B w p a len cap C z) : p < w.heap.size := World.block_lt_of_cell? _ _ h.c0
/-- all that keeps the cursor's block and what lies below B -/
theorem CurF.of {B p : Nat} {a : Option Addr} {len cap : Nat} {C : Nat → Int} {z : Nat × Int} {w w' : World} (h : CurF B w p a len cap C z) (hp : w'.heap[p]? = w.heap[p]?) (hb : Below B w w') : CurF B w' p a len cap C z := by
  have cc : ∀ i, w'.cell? ⟨p, i, none⟩ = w.cell? ⟨p, i, none⟩ := fun i => World.cell?_of_block (w := w) (a := ⟨p, i, none⟩) hp
  have ff : ∀ i, w'.frozen? ⟨p, i, none⟩ = w.frozen? ⟨p, i, none⟩ := fun i => World.frozen?_of_block (w := w) (a := ⟨p, i, none⟩) hp
  exact ⟨h.hp, h.code.below hb, (cc 0).trans h.c0, (cc 1).trans h.c1, (cc 2).trans h.c2, h.i1, h.h0, h.h1, (ff 1).trans h.f1, (ff 2).trans h.f2⟩
theorem CurF.below {B p : Nat} {a : Option Addr} {len cap : Nat} {C : Nat → Int} {z : Nat × Int} {w w' : World} (h : CurF B w p a len cap C z) (hb : Below w.heap.size w w') : CurF B w' p a len cap C z :=
  h.of (hb.block p h.lt) (hb.mono (by have := h.lt; have := h.hp; omega))
theorem CurF.grown {B p : Nat} {a : Option Addr} {len cap : Nat} {C : Nat → Int} {z : Nat × Int} {w w' : World} (h : CurF B w p a len cap C z) (hg : w.grownBy w' (some p)) : Below B w w' :=
  (Below.refl B w).grown hg (by have := h.lt; have := h.hp; omega) (by rintro k ⟨⟩; exact h.hp)
/-- a draw of a number: its value, the cursor behind it -/
def DrF (v : Int) (z' : Nat × Int) (B p : Nat) (a : Option Addr) (len cap : Nat) (C : Nat → Int) (w : World) (e : Ending) (w' : World) : Prop :=
  e = .returned (.int .i64 v) ∧ CurF B w' p a len cap C z' ∧ w.grownBy w' (some p)
def nxH (h : Int) : Int := wrap64 (wrap64 (h * 6364136223846793005) + 1442695040888963407)
def xoH (h : Int) : Int := bits .xor .i64 (h / 8589934592) (h / 35184372088832)
def byV (len : Nat) (C : Nat → Int) (z : Nat × Int) : Int := if z.1 < len then (xoH (nxH z.2) + C z.1) % 256 else xoH (nxH z.2) % 256
def byS (len : Nat) (z : Nat × Int) : Nat × Int := if z.1 < len then (z.1 + 1, nxH z.2) else (z.1, nxH z.2)
theorem byV_bd (len : Nat) (C : Nat → Int) (z : Nat × Int) : 0 ≤ byV len C z ∧ byV len C z ≤ 255 := by unfold byV; split <;> omega
theorem byteF (B : Nat) (p : Nat) (a : Option Addr) (len cap : Nat) (C : Nat → Int) (z : Nat × Int) (w : World) (hc : CurF B w p a len cap C z) :
    Calls Tryz.prog 63 #[.pointer (some ⟨p, 0, none⟩)] w fun e w' => DrF (byV len C z) (byS len z) B p a len cap C w e w' := by
  obtain ⟨hp, hcode, c0, c1, c2, i1, h0, h1, f1, f2⟩ := hc
  obtain ⟨i, h⟩ := z
  have hl := hcode.1
  have m8 := mask8
  simp only at c1 c2 i1 h0 h1
  by_cases hi : i < len
  · have hiI : (i : Int) < (len : Int) := by omega
    have EV : Hid (byV len C (i, h) = (bits BinOp.xor IntKind.i64 (wrap64 (wrap64 (h * 6364136223846793005) + 1442695040888963407) / 8589934592) (wrap64 (wrap64 (h * 6364136223846793005) + 1442695040888963407) / 35184372088832) + C i) % 256) := by show _ = _; unfold byV; rw [if_pos hi]; rfl
    have ES : Hid (byS len (i, h) = (i + 1, wrap64 (wrap64 (h * 6364136223846793005) + 1442695040888963407))) := by show _ = _; unfold byS; rw [if_pos hi]; rfl
    rcases hcode.2.2 with hz | ⟨b, off, rfl, hB, hcell⟩
    · omega
    · have hz := hcell i hi
      have hzb := hcode.2.1 i
      have hne : b ≠ p := by omega
      have HC := hide hcode
      clear hcode hcell
      generalize C i = v at hz hzb EV
      go_enter Tryz.func63, Tryz.ntmps63
      go_wp2_with fail
      go_quiet (fail)
      go_wp2_with fail
      go_quiet (fail)
      go_wp2_with fail
      go_quiet (fail)
      go_wp2_with fail
      go_ret
      clear m8
      obtain ⟨q0, q1⟩ := wrap_bd (wrap64 (h * 6364136223846793005) + 1442695040888963407)
      refine ⟨by rw [EV.out]; rfl, ?_, ((Lib.grownBy_setCell w p 2 _).trans (grown_drew _ _ p)).trans (Lib.grownBy_setCell _ p 1 _)⟩
      rw [ES.out]
      generalize wrap64 (wrap64 (h * 6364136223846793005) + 1442695040888963407) = h' at *
      refine ⟨hp, HC.out.below ?_, ?_, ?_, ?_, by show i + 1 ≤ len; omega, q0, q1, ?_, ?_⟩
      · exact Below.setCell (p := ⟨p, 1, none⟩) (w := (w.setCell ⟨p, 2, none⟩ (.int .i64 h')).drewN _) (Below.trans (Below.setCell (p := ⟨p, 2, none⟩) (Below.refl B w) hp _) (show Below B (w.setCell ⟨p, 2, none⟩ (.int .i64 h')) ((w.setCell ⟨p, 2, none⟩ (.int .i64 h')).drewN _) from ⟨rfl, rfl, rfl, Nat.le_refl _, fun _ _ => rfl⟩)) hp _
      · simp [go_sem, c0]
      · simp [go_sem, c1]
      · simp [go_sem, c2]
      · simp [go_sem, f1]
      · simp [go_sem, f2]
  · have hi2 : decide ((i : Int) < (len : Int)) = false := by rw [decide_eq_false_iff_not]; omega
    have EV : Hid (byV len C (i, h) = bits BinOp.xor IntKind.i64 (wrap64 (wrap64 (h * 6364136223846793005) + 1442695040888963407) / 8589934592) (wrap64 (wrap64 (h * 6364136223846793005) + 1442695040888963407) / 35184372088832) % 256) := by show _ = _; unfold byV; rw [if_neg hi]; rfl
    have ES : Hid (byS len (i, h) = (i, wrap64 (wrap64 (h * 6364136223846793005) + 1442695040888963407))) := by show _ = _; unfold byS; rw [if_neg hi]; rfl
    have HC := hide hcode
    clear hcode
    go_enter Tryz.func63, Tryz.ntmps63
    go_wp2_with fail
    go_quiet (fail)
    go_wp2_with fail
    go_quiet (fail)
    go_wp2_with fail
    go_ret
    clear m8
    refine ⟨by rw [EV.out]; rfl, ?_, ((Lib.grownBy_setCell w p 2 _).trans (grown_drew _ _ p)).trans (grown_drew _ _ p)⟩
    obtain ⟨q0, q1⟩ := wrap_bd (wrap64 (h * 6364136223846793005) + 1442695040888963407)
    rw [ES.out]
    generalize wrap64 (wrap64 (h * 6364136223846793005) + 1442695040888963407) = h' at *
    refine ⟨hp, HC.out.below (Below.trans (Below.trans (Below.setCell (p := ⟨p, 2, none⟩) (Below.refl B w) hp _) ⟨rfl, rfl, rfl, Nat.le_refl _, fun _ _ => rfl⟩) ⟨rfl, rfl, rfl, Nat.le_refl _, fun _ _ => rfl⟩), ?_, ?_, ?_, i1, q0, q1, ?_, ?_⟩
    · simp [go_sem, c0]
    · simp [go_sem, c1]
    · simp [go_sem, c2]
    · simp [go_sem, f1]
    · simp [go_sem, f2]
/-- a number below n -/
def blV (len : Nat) (C : Nat → Int) (n : Int) (z : Nat × Int) : Int :=
  if n ≤ 256 then byV len C z % n
  else (byV len C z * 16777216 + byV len C (byS len z) * 65536 + byV len C (byS len (byS len z)) * 256 + byV len C (byS len (byS len (byS len z)))) % n
def blS (len : Nat) (n : Int) (z : Nat × Int) : Nat × Int := if n ≤ 256 then byS len z else byS len (byS len (byS len (byS len z)))
theorem blV_bd (len : Nat) (C : Nat → Int) {n : Int} (z : Nat × Int) (h : 1 ≤ n) : 0 ≤ blV len C n z ∧ blV len C n z < n := by
  unfold blV
  split
  · exact ⟨Int.emod_nonneg _ (by omega), Int.emod_lt_of_pos _ (by omega)⟩
  · exact ⟨Int.emod_nonneg _ (by omega), Int.emod_lt_of_pos _ (by omega)⟩
theorem belowF (B : Nat) (p : Nat) (a : Option Addr) (len cap : Nat) (C : Nat → Int) (z : Nat × Int) (n : Int) (w : World) (hc : CurF B w p a len cap C z) (n0 : 1 ≤ n) (n1 : n ≤ 2147483648) :
    Calls Tryz.prog 36 #[.pointer (some ⟨p, 0, none⟩), .int .i64 n] w fun e w' => DrF (blV len C n z) (blS len n z) B p a len cap C w e w' := by
  have hc := hide hc
  by_cases h : n ≤ 256
  · have EV : Hid (blV len C n z = byV len C z % n) := by show _ = _; unfold blV; rw [if_pos h]
    have ES : Hid (blS len n z = byS len z) := by show _ = _; unfold blS; rw [if_pos h]
    have xb := byV_bd len C z
    go_enter Tryz.func36, Tryz.ntmps36
    go_wp2_with fail
    refine (byteF B p a len cap C z _ hc.out).mono ?_; rintro e w1 ⟨rfl, d1, g1⟩
    generalize byV len C z = x at *
    have r0 : 0 ≤ x % n := Int.emod_nonneg _ (by omega)
    have r1 : x % n < n := Int.emod_lt_of_pos _ (by omega)
    go_wp2_with fail
    go_ret
    exact ⟨by rw [EV.out]; rfl, by rw [ES.out]; exact d1, g1⟩
  · have h2 : decide (n ≤ 256) = false := by rw [decide_eq_false_iff_not]; exact h
    have EV : Hid (blV len C n z = (byV len C z * 16777216 + byV len C (byS len z) * 65536 + byV len C (byS len (byS len z)) * 256 + byV len C (byS len (byS len (byS len z)))) % n) := by show _ = _; unfold blV; rw [if_neg h]
    have ES : Hid (blS len n z = byS len (byS len (byS len (byS len z)))) := by show _ = _; unfold blS; rw [if_neg h]
    have xb := byV_bd len C z
    have yb := byV_bd len C (byS len z)
    have zb := byV_bd len C (byS len (byS len z))
    have vb := byV_bd len C (byS len (byS len (byS len z)))
    clear h
    go_enter Tryz.func36, Tryz.ntmps36
    go_wp2_with fail
    refine (byteF B p a len cap C z _ hc.out).mono ?_; rintro e w1 ⟨rfl, d1, g1⟩
    generalize byV len C z = x at *
    go_wp2_with fail
    refine (byteF B p a len cap C _ _ d1).mono ?_; rintro e w2 ⟨rfl, d2, g2⟩
    generalize byV len C (byS len z) = y at *
    go_wp2_with fail
    refine (byteF B p a len cap C _ _ d2).mono ?_; rintro e w3 ⟨rfl, d3, g3⟩
    generalize byV len C (byS len (byS len z)) = v at *
    go_wp2_with fail
    refine (byteF B p a len cap C _ _ d3).mono ?_; rintro e w4 ⟨rfl, d4, g4⟩
    generalize byV len C (byS len (byS len (byS len z))) = u at *
    have r0 : 0 ≤ (x * 16777216 + y * 65536 + v * 256 + u) % n := Int.emod_nonneg _ (by omega)
    have r1 : (x * 16777216 + y * 65536 + v * 256 + u) % n < n := Int.emod_lt_of_pos _ (by omega)
    clear d1 d2 d3
    go_wp2_with fail
    go_ret
    exact ⟨by rw [EV.out]; rfl, by rw [ES.out]; exact d4, ((g1.trans g2).trans g3).trans g4⟩
theorem onceF (B : Nat) (p : Nat) (a : Option Addr) (len cap : Nat) (C : Nat → Int) (z : Nat × Int) (n : Int) (w : World) (hc : CurF B w p a len cap C z) (n0 : 1 ≤ n) (n1 : n ≤ 2147483648) :
    Calls Tryz.prog 35 #[.pointer (some ⟨p, 0, none⟩), .int .i64 n] w fun e w' => e = .returned (.bool (blV len C n z == 0)) ∧ CurF B w' p a len cap C (blS len n z) ∧ w.grownBy w' (some p) := by
  have hc := hide hc
  go_enter Tryz.func35, Tryz.ntmps35
  go_wp2_with fail
  refine (belowF B p a len cap C z n _ hc.out n0 n1).mono ?_; rintro e w1 ⟨rfl, d1, g1⟩
  obtain ⟨x, hx1⟩ : ∃ x : Int, blV len C n z = x := ⟨_, rfl⟩
  rw [hx1]
  have Hx1 := hide hx1
  clear hx1
  go_wp2_with fail
  go_ret
  exact ⟨by (try dsimp only); rw [Hx1.out]; rfl, d1, g1⟩
theorem pickF (B : Nat) (p : Nat) (a : Option Addr) (len cap : Nat) (C : Nat → Int) (z : Nat × Int) (q n : Nat) (Z : Nat → Int) (w : World) (hc : CurF B w p a len cap C z) (hq : q ≠ p) (n0 : 1 ≤ n) (n1 : n ≤ 100)
    (hl : ∀ j, j < n → w.cell? ⟨q, j, none⟩ = some (.int .i64 (Z j))) :
    Calls Tryz.prog 62 #[.pointer (some ⟨p, 0, none⟩), .slice (some ⟨q, 0, none⟩) n n] w fun e w' => DrF (Z (blV len C n z).toNat) (blS len n z) B p a len cap C w e w' := by
  have hc := hide hc
  have HL := hide hl
  clear hl
  have xb := blV_bd len C (n := (n : Int)) z (by omega)
  go_enter Tryz.func62, Tryz.ntmps62
  go_wp2_with fail
  refine (belowF B p a len cap C z _ _ hc.out (by omega) (by omega)).mono ?_; rintro e w1 ⟨rfl, d1, g1⟩
  obtain ⟨x, hx2⟩ : ∃ x : Int, blV len C n z = x := ⟨_, rfl⟩
  rw [hx2] at xb ⊢
  have Hx2 := hide hx2
  clear hx2
  obtain ⟨j, rfl⟩ := Int.eq_ofNat_of_zero_le xb.1
  have EJ := hide (show Z (blV len C n z).toNat = Z j by rw [Hx2.out, Int.toNat_natCast])
  have hz' := g1.cell (HL.out j (by omega)) (by intro e; injection e with e; exact hq e)
  have hj : j < n := by omega
  clear HL
  obtain ⟨v, hv3⟩ : ∃ v : Int, Z j = v := ⟨_, rfl⟩
  rw [hv3] at EJ hz'
  clear hv3
  go_wp2_with fail
  go_ret
  exact ⟨by rw [EJ.out]; rfl, d1, g1⟩
/-- the cells of a list that was just laid -/
theorem laid_at (w : World) (zs : List Int) (t : TypeId) :
    ∀ j, j < zs.length → (w.alloc (.cells (zs.map (Value.int .i64)).toArray t)).cell? ⟨w.heap.size, j, none⟩ = some (.int .i64 (zs.getD j 0)) := by
  intro j hj
  rw [World.cell?_alloc_at _ _ _ _ (by simp)]
  simp [List.getD, hj]
theorem CurF.alloc {B p : Nat} {a : Option Addr} {len cap : Nat} {C : Nat → Int} {z : Nat × Int} {w : World} (h : CurF B w p a len cap C z) (o : Obj) : CurF B (w.alloc o) p a len cap C z := h.below ((Below.refl _ _).alloc (Nat.le_refl _) _)
/-- that there is one outcome for all worlds -/
def OneF (F : Nat) (len : Nat) (C : Nat → Int) (z : Nat × Int) (r : Int × (Nat × Int)) : Prop :=
  ∀ (B : Nat) (p : Nat) (a : Option Addr) (cap : Nat) (w : World), CurF B w p a len cap C z → Calls Tryz.prog F #[.pointer (some ⟨p, 0, none⟩)] w fun e w' => DrF r.1 r.2 B p a len cap C w e w'
theorem numE (len : Nat) (C : Nat → Int) (z : Nat × Int) : ∃ r : Int × (Nat × Int), 0 ≤ r.1 ∧ r.1 ≤ 2147483647 ∧ OneF 61 len C z r := by
  have xb := blV_bd len C (n := 8) z (by omega)
  by_cases h0 : blV len C 8 z = 0
  · have yb := blV_bd len C (n := 20) (blS len 8 z) (by omega)
    have vb := blV_bd len C (n := 9) (blS len 20 (blS len 8 z)) (by omega)
    refine ⟨((blV len C 20 (blS len 8 z) % 2147483647 * Num.pw ((1 + blV len C 9 (blS len 20 (blS len 8 z))) % 2147483647) 2147483645) % 2147483647, blS len 9 (blS len 20 (blS len 8 z))), ?_, ?_, fun B p a cap w hc => ?_⟩
    · dsimp only; omega
    · dsimp only; omega
    have hc := hide hc
    go_enter Tryz.func61, Tryz.ntmps61
    go_wp2_with fail
    refine (belowF B p a len cap C z _ _ hc.out (by omega) (by omega)).mono ?_; rintro e w1 ⟨rfl, d1, g1⟩
    have z0 : (blV len C 8 z == 0) = true := beq_iff_eq.2 h0
    obtain ⟨x, hx4⟩ : ∃ x : Int, blV len C 8 z = x := ⟨_, rfl⟩
    rw [hx4] at z0 ⊢
    have Hx4 := hide hx4
    clear hx4
    go_wp2_with fail
    refine (belowF B p a len cap C _ _ _ d1 (by omega) (by omega)).mono ?_; rintro e w2 ⟨rfl, d2, g2⟩
    obtain ⟨y, hy5⟩ : ∃ y : Int, blV len C 20 (blS len 8 z) = y := ⟨_, rfl⟩
    rw [hy5] at yb ⊢
    have Hy5 := hide hy5
    clear hy5
    go_wp2_with fail
    refine (belowF B p a len cap C _ _ _ d2 (by omega) (by omega)).mono ?_; rintro e w3 ⟨rfl, d3, g3⟩
    obtain ⟨v, hv6⟩ : ∃ v : Int, blV len C 9 (blS len 20 (blS len 8 z)) = v := ⟨_, rfl⟩
    rw [hv6] at vb ⊢
    have Hv6 := hide hv6
    clear hv6
    go_wp2_with fail
    refine (specOver _ _ _ (by omega) (by omega) (by omega) (by omega)).mono ?_; rintro e w4 ⟨rfl, rfl⟩
    clear d1 d2
    go_wp2_with fail
    go_ret
    exact ⟨by dsimp only; (try rw [Hv6.out]); (try rw [Hy5.out]); (try rw [Hx4.out]); (try simp only [Int.zero_sub]); rfl, d3, (g1.trans g2).trans g3⟩
  have z0 : (blV len C 8 z == 0) = false := beq_eq_false_iff_ne.2 h0
  by_cases h1 : blV len C 8 z = 1
  · have yb := blV_bd len C (n := 9) (blS len 8 z) (by omega)
    refine ⟨((0 - blV len C 9 (blS len 8 z)) % 2147483647, blS len 9 (blS len 8 z)), ?_, ?_, fun B p a cap w hc => ?_⟩
    · dsimp only; omega
    · dsimp only; omega
    have hc := hide hc
    go_enter Tryz.func61, Tryz.ntmps61
    go_wp2_with fail
    refine (belowF B p a len cap C z _ _ hc.out (by omega) (by omega)).mono ?_; rintro e w1 ⟨rfl, d1, g1⟩
    have z1 : (blV len C 8 z == 1) = true := beq_iff_eq.2 h1
    obtain ⟨x, hx7⟩ : ∃ x : Int, blV len C 8 z = x := ⟨_, rfl⟩
    rw [hx7] at z0 z1 ⊢
    have Hx7 := hide hx7
    clear hx7
    go_wp2_with fail
    refine (belowF B p a len cap C _ _ _ d1 (by omega) (by omega)).mono ?_; rintro e w2 ⟨rfl, d2, g2⟩
    obtain ⟨y, hy8⟩ : ∃ y : Int, blV len C 9 (blS len 8 z) = y := ⟨_, rfl⟩
    rw [hy8] at yb ⊢
    have Hy8 := hide hy8
    clear hy8
    go_wp2_with fail
    refine (specMinus _ _ _ (by omega) (by omega) (by omega) (by omega)).mono ?_; rintro e w4 ⟨rfl, rfl⟩
    clear d1
    go_wp2_with fail
    go_ret
    exact ⟨by dsimp only; (try rw [Hy8.out]); (try rw [Hx7.out]); (try simp only [Int.zero_sub]); rfl, d2, g1.trans g2⟩
  have z1 : (blV len C 8 z == 1) = false := beq_eq_false_iff_ne.2 h1
  by_cases h2 : blV len C 8 z = 2
  · have yb := blV_bd len C (n := 2147483647) (blS len 8 z) (by omega)
    refine ⟨(blV len C 2147483647 (blS len 8 z), blS len 2147483647 (blS len 8 z)), ?_, ?_, fun B p a cap w hc => ?_⟩
    · dsimp only; omega
    · dsimp only; omega
    have hc := hide hc
    go_enter Tryz.func61, Tryz.ntmps61
    go_wp2_with fail
    refine (belowF B p a len cap C z _ _ hc.out (by omega) (by omega)).mono ?_; rintro e w1 ⟨rfl, d1, g1⟩
    have z2 : (blV len C 8 z == 2) = true := beq_iff_eq.2 h2
    obtain ⟨x, hx9⟩ : ∃ x : Int, blV len C 8 z = x := ⟨_, rfl⟩
    rw [hx9] at z0 z1 z2 ⊢
    have Hx9 := hide hx9
    clear hx9
    go_wp2_with fail
    refine (belowF B p a len cap C _ _ _ d1 (by omega) (by omega)).mono ?_; rintro e w2 ⟨rfl, d2, g2⟩
    obtain ⟨y, hy10⟩ : ∃ y : Int, blV len C 2147483647 (blS len 8 z) = y := ⟨_, rfl⟩
    rw [hy10] at yb ⊢
    have Hy10 := hide hy10
    clear hy10
    clear d1
    go_wp2_with fail
    go_ret
    exact ⟨by dsimp only; (try rw [Hy10.out]); (try rw [Hx9.out]); (try simp only [Int.zero_sub]); rfl, d2, g1.trans g2⟩
  have z2 : (blV len C 8 z == 2) = false := beq_eq_false_iff_ne.2 h2
  by_cases h3 : blV len C 8 z = 3
  · have yb := blV_bd len C (n := ((7 : Nat) : Int)) (blS len 8 z) (by omega)
    refine ⟨(([0, 1, 2147483646, 1073741823, 1073741824, 32767, 32768] : List Int).getD (blV len C ((7 : Nat) : Int) (blS len 8 z)).toNat 0, blS len ((7 : Nat) : Int) (blS len 8 z)), ?_, ?_, fun B p a cap w hc => ?_⟩
    · obtain ⟨j, hj⟩ := Int.eq_ofNat_of_zero_le yb.1
      dsimp only
      rw [hj, Int.toNat_natCast]
      have : j < 7 := by omega
      clear hj
      match j, this with
      | 0, _ => decide
      | 1, _ => decide
      | 2, _ => decide
      | 3, _ => decide
      | 4, _ => decide
      | 5, _ => decide
      | 6, _ => decide
    · obtain ⟨j, hj⟩ := Int.eq_ofNat_of_zero_le yb.1
      dsimp only
      rw [hj, Int.toNat_natCast]
      have : j < 7 := by omega
      clear hj
      match j, this with
      | 0, _ => decide
      | 1, _ => decide
      | 2, _ => decide
      | 3, _ => decide
      | 4, _ => decide
      | 5, _ => decide
      | 6, _ => decide
    have hc := hide hc
    go_enter Tryz.func61, Tryz.ntmps61
    go_wp2_with fail
    refine (belowF B p a len cap C z _ _ hc.out (by omega) (by omega)).mono ?_; rintro e w1 ⟨rfl, d1, g1⟩
    have z3 : (blV len C 8 z == 3) = true := beq_iff_eq.2 h3
    obtain ⟨x, hx11⟩ : ∃ x : Int, blV len C 8 z = x := ⟨_, rfl⟩
    rw [hx11] at z0 z1 z2 z3 ⊢
    have Hx11 := hide hx11
    clear hx11
    have hlt := d1.lt
    have HL := hide (laid_at w1 [0, 1, 2147483646, 1073741823, 1073741824, 32767, 32768] 3)
    have D2 := hide (d1.alloc (.cells (([0, 1, 2147483646, 1073741823, 1073741824, 32767, 32768] : List Int).map (Value.int .i64)).toArray 3))
    go_wp2_with fail
    refine (pickF B p a len cap C (blS len 8 z) w1.heap.size 7 (fun j => ([0, 1, 2147483646, 1073741823, 1073741824, 32767, 32768] : List Int).getD j 0) _ D2.out (by omega) (by omega) (by omega) HL.out).mono ?_; rintro e w2 ⟨rfl, d3, g3⟩
    clear d1 D2 HL
    dsimp only
    obtain ⟨y, hy12⟩ : ∃ y : Int, ([0, 1, 2147483646, 1073741823, 1073741824, 32767, 32768] : List Int).getD (blV len C ((7 : Nat) : Int) (blS len 8 z)).toNat 0 = y := ⟨_, rfl⟩
    rw [hy12]
    have Hy12 := hide hy12
    clear hy12
    go_wp2_with fail
    go_ret
    exact ⟨by dsimp only; (try rw [Hy12.out]); (try rw [Hx11.out]); (try simp only [Int.zero_sub]); rfl, d3, (Lib.grownBy_allocR g1 _).trans g3⟩
  have z3 : (blV len C 8 z == 3) = false := beq_eq_false_iff_ne.2 h3
  have yb := blV_bd len C (n := 7) (blS len 8 z) (by omega)
  refine ⟨(blV len C 7 (blS len 8 z), blS len 7 (blS len 8 z)), ?_, ?_, fun B p a cap w hc => ?_⟩
  · dsimp only; omega
  · dsimp only; omega
  have hc := hide hc
  go_enter Tryz.func61, Tryz.ntmps61
  go_wp2_with fail
  refine (belowF B p a len cap C z _ _ hc.out (by omega) (by omega)).mono ?_; rintro e w1 ⟨rfl, d1, g1⟩
  obtain ⟨x, hx13⟩ : ∃ x : Int, blV len C 8 z = x := ⟨_, rfl⟩
  rw [hx13] at z0 z1 z2 z3 ⊢
  have Hx13 := hide hx13
  clear hx13
  go_wp2_with fail
  refine (belowF B p a len cap C _ _ _ d1 (by omega) (by omega)).mono ?_; rintro e w2 ⟨rfl, d2, g2⟩
  obtain ⟨y, hy14⟩ : ∃ y : Int, blV len C 7 (blS len 8 z) = y := ⟨_, rfl⟩
  rw [hy14] at yb ⊢
  have Hy14 := hide hy14
  clear hy14
  clear d1
  go_wp2_with fail
  go_ret
  exact ⟨by dsimp only; (try rw [Hy14.out]); (try rw [Hx13.out]); (try simp only [Int.zero_sub]); rfl, d2, g1.trans g2⟩
noncomputable def numR (len : Nat) (C : Nat → Int) (z : Nat × Int) : Int × (Nat × Int) := Classical.choose (numE len C z)
theorem numR_is (len : Nat) (C : Nat → Int) (z : Nat × Int) : 0 ≤ (numR len C z).1 ∧ (numR len C z).1 ≤ 2147483647 ∧ OneF 61 len C z (numR len C z) := Classical.choose_spec (numE len C z)
end Base
end Go.Proofs.YtbbmbgjjhaajjaaGreatDoor
namespace Go.Proofs.YtbbmbgjjhaajjaaGreatDoor
namespace Vo
open Go.ChangeShapes Go.WideShapes Go.ChangeAt Go.RowKit Go.Joins Go.Sort
open Vl Vp
open Base (CodeF CurF DrF blV blS blV_bd belowF onceF pickF laid_at numR numR_is OneF mask30)
set_option linter.unusedVariables false
set_option linter.unusedSimpArgs false
/-- the sum of a code -/
def nwH (len : Nat) (C : Nat → Int) : Nat → Int
  | 0 => 71933 + (len : Int)
  | k + 1 => (nwH len C k * 131 + C k + 7) % 1073741824
theorem nwH_bd (len : Nat) (C : Nat → Int) (h : len ≤ 1048576) (k : Nat) : 0 ≤ nwH len C k ∧ nwH len C k ≤ 1073741823 := by
  cases k with
  | zero => unfold nwH; omega
  | succ k => unfold nwH; omega
def nwZ (len : Nat) (C : Nat → Int) : Nat × Int := (0, nwH len C (min len 4000))
set_option maxRecDepth 100000 in
theorem newF (B : Nat) (a : Option Addr) (len cap : Nat) (C : Nat → Int) (w : World) (hc : CodeF B w a len C) (hB : B ≤ w.heap.size) :
    Calls Tryz.prog 27 #[.slice a len cap] w fun e w' => e = .returned (.pointer (some ⟨w.heap.size, 0, none⟩)) ∧ CurF B w' w.heap.size a len cap C (nwZ len C) ∧ Below w.heap.size w w' ∧ w.heap.size < w'.heap.size := by
  have HC := hide hc
  have m30 := mask30
  have hlen := hc.1
  have hlI : (len : Int) ≤ 1048576 := by omega
  have HB := hide (nwH_bd len C hlen)
  have HS := hide (fun k => (show nwH len C (k + 1) = (nwH len C k * 131 + C k + 7) % 1073741824 from rfl))
  have END := hide (show ∀ (k : Nat) (o : Obj), k = min len 4000 → o = .cells #[.slice a len cap, .int .i64 0, .int .i64 (nwH len C k)] 68 → CurF B (w.alloc o) w.heap.size a len cap C (nwZ len C) from fun k o hk ho => by
    have bd := nwH_bd len C hlen k
    subst ho
    refine ⟨hB, hc.below ((Below.refl _ _).alloc hB _), ?_, ?_, ?_, Nat.zero_le _, ?_, ?_, ?_, ?_⟩
    · simp [go_sem]
    · simp [go_sem, nwZ]
    · simp [go_sem, nwZ, hk]
    · show _ ≤ nwH len C (min len 4000); rw [← hk]; omega
    · show nwH len C (min len 4000) ≤ _; rw [← hk]; omega
    · simp [go_sem]
    · simp [go_sem])
  clear hc hlen
  go_enter Tryz.func27, Tryz.ntmps27
  go_wp2_with fail
  go_loop [3, 4] (fun h i => ∃ k : Nat, k ≤ len ∧ k ≤ 4000 ∧ h = .int .i64 (nwH len C k) ∧ i = .int .i64 k) (fun _ i => len - (intOf i).toNat)
  case atStart => exact ⟨0, Nat.zero_le _, Nat.zero_le _, rfl, rfl⟩
  case round =>
    obtain ⟨k, hk, hk4, rfl, rfl⟩ := hrel
    have gb := HB.out k
    have S1 := hide (HS.out k)
    obtain ⟨g, hg⟩ : ∃ g, nwH len C k = g := ⟨_, rfl⟩
    have HG := hide hg
    rw [hg] at gb S1 ⊢
    clear hg
    by_cases hlt : k < len
    · have kI : (k : Int) < (len : Int) := by omega
      by_cases h4 : k < 4000
      · have h4' : (k : Int) < 4000 := by omega
        rcases HC.out.2.2 with hz | ⟨b, off, rfl, hB, hcell⟩
        · omega
        · have hz := hcell k hlt
          have zb := HC.out.2.1 k
          clear hcell
          obtain ⟨v, hv⟩ : ∃ v, C k = v := ⟨_, rfl⟩
          rw [hv] at hz zb S1
          clear hv
          go_wp2_with fail
          go_round
          case rel => exact ⟨k + 1, by omega, by omega, by rw [S1.out], by go_num⟩
          case measure => simp [intOf]; omega
      · have h5 : decide ((k : Int) < 4000) = false := by rw [decide_eq_false_iff_not]; omega
        go_wp2_with fail
        go_ret
        exact ⟨rfl, END.out k _ (by omega) (by rw [HG.out]), (Below.refl _ _).alloc (Nat.le_refl _) _, by simp⟩
    · have h5 : decide ((k : Int) < (len : Int)) = false := by rw [decide_eq_false_iff_not]; omega
      go_wp2_with fail
      go_ret
      exact ⟨rfl, END.out k _ (by omega) (by rw [HG.out]), (Below.refl _ _).alloc (Nat.le_refl _) _, by simp⟩
def pk8 : List Int := [1, 2, 3, 4, 2, 3, 1, 5]
theorem pk8_bd (j : Nat) (h : j < 8) : 1 ≤ pk8.getD j 0 ∧ pk8.getD j 0 ≤ 5 := by
  match j, h with
  | 0, _ => decide
  | 1, _ => decide
  | 2, _ => decide
  | 3, _ => decide
  | 4, _ => decide
  | 5, _ => decide
  | 6, _ => decide
  | 7, _ => decide
def gd (L : List Int) : Nat → Int := fun j => L.getD j 0
theorem ints_more (L : List Int) (d : Int) : ints L.length (gd L) ++ [.int .i64 d] = ints (L ++ [d]).length (gd (L ++ [d])) := by
  have e : (L ++ [d]).length = L.length + 1 := by simp
  rw [e, ← ints_succ]
  congr 1
  · unfold ints
    apply List.map_congr_left
    intro j hj
    have hj : j < L.length := List.mem_range.1 hj
    simp [gd, List.getD, List.getElem?_append_left hj]
  · simp [gd, List.getD]
/-- dims that are drawn: a step -/
def dmStep (len : Nat) (C : Nat → Int) (most : Int) (x : List Int × (Nat × Int)) : List Int × (Nat × Int) :=
  (if szR (gd x.1) x.1.length * pk8.getD (blV len C ((8 : Nat) : Int) x.2).toNat 0 ≤ most then x.1 ++ [pk8.getD (blV len C ((8 : Nat) : Int) x.2).toNat 0] else x.1, blS len ((8 : Nat) : Int) x.2)
def dmI (len : Nat) (C : Nat → Int) (most : Int) (x : List Int × (Nat × Int)) : Nat → List Int × (Nat × Int)
  | 0 => x
  | k + 1 => dmStep len C most (dmI len C most x k)
theorem dmStep_len {len : Nat} {C : Nat → Int} {most : Int} {x : List Int × (Nat × Int)} {k : Nat} (h : x.1.length ≤ k ∧ ∀ d ∈ x.1, 1 ≤ d ∧ d ≤ 5) : (dmStep len C most x).1.length ≤ k + 1 ∧ ∀ d ∈ (dmStep len C most x).1, 1 ≤ d ∧ d ≤ 5 := by
  have b := blV_bd len C (n := ((8 : Nat) : Int)) x.2 (by omega)
  have q := pk8_bd (blV len C ((8 : Nat) : Int) x.2).toNat (by omega)
  unfold dmStep
  dsimp only
  split
  · refine ⟨by simp only [List.length_append, List.length_cons, List.length_nil]; omega, fun d hd => ?_⟩
    rcases List.mem_append.1 hd with hd | hd
    · exact h.2 d hd
    · rw [List.mem_singleton] at hd; subst hd; exact q
  · exact ⟨by omega, h.2⟩
theorem dmI_len (len : Nat) (C : Nat → Int) (most : Int) (z : Nat × Int) (k : Nat) : (dmI len C most ([], z) k).1.length ≤ k ∧ ∀ d ∈ (dmI len C most ([], z) k).1, 1 ≤ d ∧ d ≤ 5 := by
  induction k with
  | zero => exact ⟨Nat.le_refl _, fun d h => by cases h⟩
  | succ k ih => exact dmStep_len ih
def dmR (len : Nat) (C : Nat → Int) (most : Int) (z : Nat × Int) : List Int × (Nat × Int) := dmI len C most ([], blS len 5 z) (blV len C 5 z).toNat
theorem dmR_len (len : Nat) (C : Nat → Int) (most : Int) (z : Nat × Int) : (dmR len C most z).1.length ≤ 4 := by
  have := (dmI_len len C most (blS len 5 z) (blV len C 5 z).toNat).1
  have := blV_bd len C (n := 5) z (by omega)
  unfold dmR
  omega
theorem keptG {w w' : World} {p : Nat} (h : w.grownBy w' (some p)) : Kept (· = p) w w' := ⟨h.os, h.tape, h.output, h.size, fun k hk hn => h.block k hk (fun e => hn (Option.some.inj e))⟩
theorem grownK {w w' : World} {p : Nat} (h : Kept (· = p) w w') : w.grownBy w' (some p) := ⟨h.os, h.tape, h.output, h.size, fun k hk hn => h.block k hk (fun e => hn (by rw [e]))⟩
theorem own_some {w : World} {B n : Nat} {t : TypeId} {v : Value} {xs : List Value} (h : w.ownsRow B t 1 v n xs) (hn : n ≠ 0) : ∃ g c, v = .slice (some ⟨g, 0, none⟩) n c := by
  obtain ⟨_, ⟨_, e⟩ | ⟨g, cap, cur, rfl, _⟩⟩ := h
  · exact absurd e hn
  · exact ⟨_, _, rfl⟩
theorem gd_bd (L : List Int) (h : ∀ d ∈ L, 1 ≤ d ∧ d ≤ 5) (j : Nat) : bd (gd L j) := by
  unfold gd bd
  by_cases hj : j < L.length
  · have e : L.getD j 0 = L[j] := by simp [List.getD, hj]
    rw [e]
    have := h _ (List.getElem_mem hj)
    omega
  · have e : L.getD j 0 = 0 := by simp [List.getD, List.getElem?_eq_none (Nat.le_of_not_lt hj)]
    rw [e]; omega
set_option maxRecDepth 100000 in
set_option maxHeartbeats 1000000 in
theorem dimsF (B : Nat) (p : Nat) (a : Option Addr) (len cap : Nat) (C : Nat → Int) (z : Nat × Int) (most : Int) (w : World) (hc : CurF B w p a len cap C z) (m0 : 0 ≤ most) (m1 : most ≤ 1000) :
    Calls Tryz.prog 34 #[.pointer (some ⟨p, 0, none⟩), .int .i64 most] w fun e w' => ∃ g c, e = .returned (.slice (some ⟨g, 0, none⟩) (dmR len C most z).1.length c) ∧ RowV w.heap.size w' (.slice (some ⟨g, 0, none⟩) (dmR len C most z).1.length c) (dmR len C most z).1.length (gd (dmR len C most z).1) ∧ CurF B w' p a len cap C (dmR len C most z).2 ∧ w.grownBy w' (some p) := by
  obtain ⟨i0, hi0, hz0, hz1, hz2⟩ := info_parts infoInt
  have plt := hc.lt
  have HO0 := hide (show (w.alloc (.cells #[] 3)).ownsRow w.heap.size 3 1 (.slice (some ⟨w.heap.size, 0, none⟩) 0 0) 0 [] from
    ⟨rfl, .inr ⟨w.heap.size, 0, #[], rfl, Nat.le_refl _, heap_alloc_new w _, Nat.le_refl _, by simp [maxLen], rfl, rfl⟩⟩)
  have D0 := hide (hc.alloc (.cells #[] 3))
  have K0 := hide (show Kept (· = p) w (w.alloc (.cells #[] 3)) from Kept.of_below ((Below.refl _ _).alloc (Nat.le_refl _) _))
  have ER : Hid (dmR len C most z = dmI len C most ([], blS len 5 z) (blV len C 5 z).toNat) := hide rfl
  have LEN := hide (dmI_len len C most (blS len 5 z))
  have nb := blV_bd len C (n := 5) z (by omega)
  clear hc
  go_enter Tryz.func34, Tryz.ntmps34
  go_wp2_with fail
  refine (belowF B p a len cap C z 5 _ D0.out (by omega) (by omega)).mono ?_; rintro e w1 ⟨rfl, d1, g1⟩
  obtain ⟨n, hn⟩ : ∃ n : Nat, blV len C 5 z = n := ⟨(blV len C 5 z).toNat, by omega⟩
  rw [hn] at nb ER ⊢
  rw [Int.toNat_natCast] at ER
  clear hn
  have D1 := hide d1
  have K1 := hide (K0.out.trans (keptG g1))
  have R1 := hide (show RowV w.heap.size w1 (.slice (some ⟨w.heap.size, 0, none⟩) 0 0) 0 (gd []) from RowV.kept (w := w.alloc (.cells #[] 3)) ⟨HO0.out, fun j hj => by omega⟩ (keptG g1) (fun k hk e => by
    have hk : w.heap.size = k := Option.some.inj hk
    have e : k = p := e
    omega))
  clear d1 g1 HO0 D0 K0
  go_wp2_with fail
  go_loopw [5, 6] (fun v i wx => ∃ k g c : Nat, k ≤ n ∧ i = .int .i64 ((n : Int) - k) ∧ v = .slice (some ⟨g, 0, none⟩) (dmI len C most ([], blS len 5 z) k).1.length c ∧ RowV w.heap.size wx v (dmI len C most ([], blS len 5 z) k).1.length (gd (dmI len C most ([], blS len 5 z) k).1) ∧ CurF B wx p a len cap C (dmI len C most ([], blS len 5 z) k).2 ∧ Kept (· = p) w wx) (fun _ i _ => (intOf i).toNat)
  case atStart => exact ⟨0, w.heap.size, 0, Nat.zero_le _, by go_num, rfl, R1.out, D1.out, K1.out⟩
  case round =>
    obtain ⟨X, rfl⟩ : ∃ X, X = wr := ⟨_, rfl⟩
    obtain ⟨k, g, c, hk, rfl, rfl, hrow, hcur, hkp⟩ := hrel
    have hln := (LEN.out k).1
    have HDS := hide (LEN.out k).2
    by_cases hlt : k < n
    · have nI : (0 : Int) < (n : Int) - k := by omega
      have ES : Hid (dmI len C most ([], blS len 5 z) (k + 1) = dmStep len C most (dmI len C most ([], blS len 5 z) k)) := hide rfl
      obtain ⟨⟨L, y⟩, hx⟩ : ∃ x, dmI len C most ([], blS len 5 z) k = x := ⟨_, rfl⟩
      rw [hx] at hrow hcur hln HDS ES ⊢
      dsimp only at hrow hcur hln HDS ⊢
      clear hx
      have R0 := hide hrow
      have C0 := hide hcur
      have KP := hide hkp
      have zX := hkp.size
      have pX := hcur.lt
      clear hrow hcur hkp
      have HL := hide (laid_at X pk8 3)
      have CA := hide (C0.out.alloc (.cells (pk8.map (Value.int .i64)).toArray 3))
      have vb := blV_bd len C (n := ((8 : Nat) : Int)) y (by omega)
      have db := pk8_bd (blV len C ((8 : Nat) : Int) y).toNat (by omega)
      go_wp2_with fail
      refine (pickF B p a len cap C y X.heap.size 8 (fun j => pk8.getD j 0) _ CA.out (by omega) (by omega) (by omega) HL.out).mono ?_; rintro e X1 ⟨rfl, d2, g2⟩
      have K2 := hide (KP.out.trans ((Kept.of_below (S := (· = p)) ((Below.refl _ X).alloc (Nat.le_refl _) (.cells (pk8.map (Value.int .i64)).toArray 3))).trans (keptG g2)))
      have R2 := hide (R0.out.kept ((Kept.of_below (S := (· = p)) ((Below.refl _ X).alloc (Nat.le_refl _) (.cells (pk8.map (Value.int .i64)).toArray 3))).trans (keptG g2)) (fun q hq e => by have e : q = p := e; have := (R0.out.lt hq).1; omega))
      have D2 := hide d2
      have z2 := K2.out.size
      have p2 := d2.lt
      have STP : Hid (dmStep len C most (L, y) = (if szR (gd L) L.length * pk8.getD (blV len C ((8 : Nat) : Int) y).toNat 0 ≤ most then L ++ [pk8.getD (blV len C ((8 : Nat) : Int) y).toNat 0] else L, blS len ((8 : Nat) : Int) y)) := hide rfl
      rw [STP.out] at ES
      clear d2 g2 CA HL R0 C0 KP STP
      dsimp only
      obtain ⟨d, hd⟩ : ∃ d, pk8.getD (blV len C ((8 : Nat) : Int) y).toNat 0 = d := ⟨_, rfl⟩
      rw [hd] at db ES ⊢
      clear hd
      have sb := szR_rng (gd L) L.length
      obtain ⟨av, cv, hav, hO⟩ := R2.out.own
      cases hav
      have CSZ := hide (Vs.l3Size X1.heap.size (some ⟨g, 0, none⟩) L.length c (gd L) X1 hO.ints (by omega))
      clear hO
      have mb : 0 ≤ szR (gd L) L.length * d ∧ szR (gd L) L.length * d ≤ 4096 * 5 := ⟨Int.mul_nonneg sb.1 (by omega), Int.mul_le_mul sb.2 db.2 (by omega) (by omega)⟩
      by_cases hm : szR (gd L) L.length * d ≤ most
      · rw [if_pos hm] at ES
        generalize szR (gd L) L.length = s at CSZ hm mb sb
        go_wp2_with fail
        refine CSZ.out.mono ?_; rintro e X2 ⟨rfl, rfl⟩
        go_wp2_with (at_builtin; refine wpList_append_own _ rfl _ _ 22 rfl w.heap.size 3 i0 (.int .i64 0) 1 8 Tryz.underlying22 hi0 hz0 hz1 hz2 rfl (by decide) _ _ _ rfl (R2.out.1.alloc _) ⟨X2.heap.size, 0, none⟩ 1 1 [.int .i64 d] rfl rfl (World.news_of_block (cs := #[.int .i64 d]) (t := 3) (fr := (0, 0)) (heap_alloc_new X2 _)) (by simp [Value.oneCell']) (by unfold maxLen; omega) (by omega) (by simp; omega) ?_; intro v' X3 hown1 hgrow1 _)
        go_roundw
        case rel =>
          have KA : Kept (fun b => (Value.slice (some ⟨g, 0, none⟩) L.length c).ownBlock = some b) X2 X3 := (Kept.of_below ((Below.refl _ X2).alloc (Nat.le_refl _) (.cells #[.int .i64 d] 3))).trans ⟨hgrow1.os, hgrow1.tape, hgrow1.output, hgrow1.size, fun b hb hn => hgrow1.block b hb (fun q => hn q.symm)⟩
          have nb' : ∀ b, b < w.heap.size → ¬ (Value.slice (some ⟨g, 0, none⟩) L.length c).ownBlock = some b := fun b hb hj => by have := (R2.out.lt hj).1; omega
          obtain ⟨g', c', rfl⟩ := own_some hown1 (by omega)
          have eL : (L ++ [d]).length = L.length + 1 := by simp
          refine ⟨k + 1, g', c', ?_⟩
          rw [ES.out]
          dsimp only
          refine ⟨by omega, by go_num, by rw [eL], ⟨?_, fun j _ => gd_bd _ (fun u hu => ?_) j⟩, D2.out.of (KA.block p p2 (nb' p plt)) (KA.below (by have := D2.out.hp; omega) (fun b hb => by have := (R2.out.lt hb).1; have := D2.out.hp; omega)), ⟨KA.os.trans K2.out.os, KA.tape.trans K2.out.tape, KA.output.trans K2.out.output, Nat.le_trans K2.out.size KA.size, fun b hb hn => (KA.block b (by omega) (nb' b hb)).trans (K2.out.block b hb hn)⟩⟩
          · rw [← ints_more, eL]; exact hown1
          · rcases List.mem_append.1 hu with hu | hu
            · exact HDS.out u hu
            · rw [List.mem_singleton] at hu; subst hu; exact db
        case measure => simp [intOf]; omega
      · rw [if_neg hm] at ES
        generalize szR (gd L) L.length = s at CSZ hm mb sb
        go_wp2_with fail
        refine CSZ.out.mono ?_; rintro e X2 ⟨rfl, rfl⟩
        go_wp2_with fail
        go_roundw
        case rel =>
          refine ⟨k + 1, g, c, ?_⟩
          rw [ES.out]
          exact ⟨by omega, by go_num, rfl, R2.out, D2.out, K2.out⟩
        case measure => simp [intOf]; omega
    · have ekn : k = n := by omega
      subst ekn
      have nI : decide ((0 : Int) < (k : Int) - k) = false := decide_eq_false (by omega)
      have R0 := hide hrow
      have C0 := hide hcur
      have KP := hide hkp
      clear hrow hcur hkp
      go_wp2_with fail
      go_ret
      rw [ER.out]
      exact ⟨g, c, rfl, R0.out, C0.out, grownK KP.out⟩
end Vo
end Go.Proofs.YtbbmbgjjhaajjaaGreatDoor
namespace Go.Proofs.YtbbmbgjjhaajjaaGreatDoor
namespace Vo
open Go.ChangeShapes Go.WideShapes Go.ChangeAt Go.RowKit Go.Joins Go.Sort
open Vl Vp
open Base (CodeF CurF DrF blV blS blV_bd belowF onceF pickF laid_at numR numR_is OneF)
set_option linter.unusedVariables false
set_option linter.unusedSimpArgs false
/-- one number of a drawn tensor -/
noncomputable def ceR (len : Nat) (C : Nat → Int) (z : Nat × Int) : Int × (Nat × Int) := if blV len C 3 (blS len 7 z) = 0 then numR len C (blS len 3 (blS len 7 z)) else (blV len C 7 z, blS len 3 (blS len 7 z))
noncomputable def ceZ (len : Nat) (C : Nat → Int) (z : Nat × Int) : Nat → Nat × Int
  | 0 => z
  | k + 1 => (ceR len C (ceZ len C z k)).2
noncomputable def ceV (len : Nat) (C : Nat → Int) (z : Nat × Int) (k : Nat) : Int := (ceR len C (ceZ len C z k)).1
theorem ceV_bd (len : Nat) (C : Nat → Int) (z : Nat × Int) (k : Nat) : 0 ≤ ceV len C z k ∧ ceV len C z k ≤ 2147483647 := by
  unfold ceV ceR
  split
  · have := numR_is len C (blS len 3 (blS len 7 (ceZ len C z k)))
    exact ⟨this.1, this.2.1⟩
  · have := blV_bd len C (n := 7) (ceZ len C z k) (by omega)
    dsimp only
    omega
/-- the cursor and a row under a store -/
theorem curSet {B p : Nat} {a : Option Addr} {len cap : Nat} {C : Nat → Int} {z : Nat × Int} {w : World} (h : CurF B w p a len cap C z) (q i : Nat) (v : Value) (hq : q ≠ p) (hB : B ≤ q) : CurF B (w.setCell ⟨q, i, none⟩ v) p a len cap C z :=
  h.of (Below.heap_setCell _ _ _ _ (by show p ≠ q; omega)) ((Below.refl B w).setCell (p := ⟨q, i, none⟩) hB v)
/-- the block of a list that has no room -/
def Shp (w : World) (g N : Nat) : Prop := ∃ cur, w.heap[g]? = some (.cells cur 3 (0, 0)) ∧ cur.size = N
theorem Shp.kept {T : Nat → Prop} {w w' : World} {g N : Nat} (h : Shp w g N) (hk : Kept T w w') (hg : g < w.heap.size) (hn : ¬ T g) : Shp w' g N := by
  obtain ⟨cur, e, q⟩ := h
  exact ⟨cur, (hk.block g hg hn).trans e, q⟩
theorem Shp.set {w : World} {g N : Nat} (h : Shp w g N) (k : Nat) (v : Value) : Shp (w.setCell ⟨g, k, none⟩ v) g N := by
  obtain ⟨cur, e, q⟩ := h
  have hg : g < w.heap.size := by
    rcases Nat.lt_or_ge g w.heap.size with h' | h'
    · exact h'
    · rw [Array.getElem?_eq_none h'] at e; cases e
  refine ⟨cur.setIfInBounds k v, ?_, by simpa using q⟩
  rw [Array.getElem?_eq_getElem hg] at e
  have e := Option.some.inj e
  simp only [World.setCell, Array.size_modify, hg, getElem?_pos]
  rw [Array.getElem_modify_self]
  rw [e]
  rfl
theorem rowv_of {w : World} {B g N : Nat} {S : Nat → Int} (h : Shp w g N) (hr : Rw w g N S) (hB : B ≤ g) (hN : (N : Int) ≤ 4194304) : RowV B w (.slice (some ⟨g, 0, none⟩) N N) N S := by
  obtain ⟨cur, e, q⟩ := h
  refine ⟨⟨by simp [ints], .inr ⟨g, N, cur, rfl, hB, e, Nat.le_refl _, by unfold maxLen; omega, by omega, ?_⟩⟩, fun j hj => (hr j hj).2.2⟩
  apply List.ext_getElem?
  intro t
  by_cases ht : t < N
  · have c := (hr t ht).1
    rw [Go.Joins.cell_of_block e] at c
    rw [List.getElem?_take, if_pos (by omega)]
    rw [Array.getElem?_toList, c]
    simp [ints, ht]
  · rw [List.getElem?_eq_none (by simp; omega), List.getElem?_eq_none (by simp [ints]; omega)]
set_option maxRecDepth 100000 in
set_option maxHeartbeats 1000000 in
theorem l4NewR (B : Nat) (a : Addr) (r cap N : Nat) (D : Nat → Int) (w : World) (hB : B ≤ w.heap.size) (h : Ints B w (some a) r D) (hr : (r : Int) ≤ 1048576) (hN : szR D r = (N : Int)) (lN : (N : Int) ≤ 4096) :
    Calls Tryz.prog 60 #[.slice (some a) r cap] w fun e w' => ∃ va vc g, e = .returned (.agg #[.slice va r vc, .slice (some ⟨g, 0, none⟩) N N]) ∧ RowV (w.heap.size + 1) w' (.slice va r vc) r D ∧ Rw w' g N (fun _ => 0) ∧ Shp w' g N ∧ w.heap.size + 1 ≤ g ∧ g < w'.heap.size ∧ (∀ k, (Value.slice va r vc).ownBlock = some k → k ≠ g) ∧ Below w.heap.size w w' := by
  have hmk := make_int N (by omega)
  obtain ⟨W0, hW0⟩ : ∃ W0, w.alloc (.cells #[.slice none 0 0, .slice none 0 0] 24) = W0 := ⟨_, rfl⟩
  have hs0 : W0.heap.size = w.heap.size + 1 := by rw [← hW0]; simp
  have bl : Below w.heap.size w W0 := by rw [← hW0]; exact (Below.refl _ _).alloc (Nat.le_refl _) _
  have M0 := hide (show Bx W0 w.heap.size (.slice none 0 0) (.slice none 0 0) by rw [← hW0]; exact bx_new w _ _ _)
  have G0 := hide (show Free W0 w.heap.size by rw [← hW0]; exact free_new w _ _)
  have H := hide (h.below (bl.mono hB))
  have BL := hide bl
  have HS0 := hide hs0
  have EN := hide hN
  clear h bl hs0 hN
  go_enter Tryz.func60, Tryz.ntmps60
  go_wp2_with fail
  clear hW0
  refine (l3Ints B a r cap D _ H.out (by have := HS0.out; omega) hr).mono ?_
  rintro e w1 ⟨v, rfl, rv, b1⟩
  obtain ⟨va, vc, rfl, ov⟩ := rv.own
  have zz := HS0.out
  have M1 := hide (M0.out.below b1 (by omega))
  have G1 := hide (G0.out.below b1 (by omega))
  have B1 := hide (BL.out.trans (b1.mono BL.out.size))
  have H1 := hide (H.out.below (b1.mono (by omega)))
  have OV := hide ov
  have RV := hide rv
  have s1 : w.heap.size < w1.heap.size := by have := b1.size; omega
  clear rv b1 ov zz
  go_wp2_with fail
  refine (Vs.l3Size B (some a) r cap D _ H1.out hr).mono ?_
  rintro e w2 ⟨rfl, hq⟩
  have hq := hq.symm
  subst hq
  rw [EN.out]
  obtain ⟨W2, hW2⟩ : ∃ W2, w1.alloc (.cells (madeCells #[.int .i64 0] N) 3) = W2 := ⟨_, rfl⟩
  have b2 : Below w1.heap.size w1 W2 := by rw [← hW2]; exact (Below.refl _ _).alloc (Nat.le_refl _) _
  have R2 := hide (show Rw W2 w1.heap.size N (fun _ => 0) by rw [← hW2]; exact rw_new w1 N _)
  have z2 : w1.heap.size < W2.heap.size := by rw [← hW2]; simp
  have M2 := hide (M1.out.below b2 s1)
  have G2 := hide (G1.out.below b2 s1)
  have B2 := hide (B1.out.trans (b2.mono B1.out.size))
  have OV2 := hide (OV.out.below b2)
  have RV2 := hide (RV.out.below b2)
  have SP2 := hide (show Shp W2 w1.heap.size N from ⟨_, by rw [← hW2]; exact heap_alloc_new w1 _, by simp [madeCells]⟩)
  clear b2
  obtain ⟨y0, y1⟩ := M2.out
  have gg := G2.out
  unfold Free at gg
  go_wp2_with fail
  refine bodyPost_ret (v := .agg #[.slice va r vc, .slice (some ⟨w1.heap.size, 0, none⟩) N N]) (by simp [results, Tryz.results60, go_sem, y0, y1]) rfl ?_
  have k2 := kept_sets2 W2 w.heap.size (.slice va r vc) (.slice (some ⟨w1.heap.size, 0, none⟩) N N)
  have zz := HS0.out
  refine ⟨va, vc, w1.heap.size, rfl, (RV2.out.kept k2 (fun b q e => ?_)).mono (by omega), R2.out.kept k2 (by omega), SP2.out.kept k2 (by omega) (by show ¬ w1.heap.size = w.heap.size; omega), by omega, by exact Nat.lt_of_lt_of_le z2 k2.size, fun k q e => ?_, B2.out.trans (k2.below B2.out.size (fun j e => by have e : j = w.heap.size := e; omega))⟩
  · have := (RV2.out.lt q).1
    have e : b = w.heap.size := e
    omega
  · have := (RV.out.lt q).2
    omega
set_option maxRecDepth 100000 in
set_option maxHeartbeats 4000000 in
theorem drawOfF (B : Nat) (p : Nat) (a : Option Addr) (len cap : Nat) (C : Nat → Int) (z : Nat × Int) (E : Nat) (ad : Addr) (r c N : Nat) (D : Nat → Int) (w : World) (hc : CurF B w p a len cap C z) (hE : E ≤ w.heap.size) (h : Ints E w (some ad) r D) (hr : (r : Int) ≤ 1048576) (hN : szR D r = (N : Int)) (lN : (N : Int) ≤ 4096) :
    Calls Tryz.prog 33 #[.pointer (some ⟨p, 0, none⟩), .slice (some ad) r c] w fun e w' => ∃ va vc g, e = .returned (.agg #[.slice va r vc, .slice (some ⟨g, 0, none⟩) N N]) ∧ VOwn w.heap.size w' va (some ⟨g, 0, none⟩) r N D (ceV len C z) ∧ RowV (w.heap.size + 1) w' (.slice va r vc) r D ∧ Shp w' g N ∧ w.heap.size < g ∧ ¬ (Value.slice va r vc).ownBlock = some g ∧ CurF B w' p a len cap C (ceZ len C z N) ∧ Kept (· = p) w w' := by
  have plt := hc.lt
  have hBp := hc.hp
  obtain ⟨W0, hW0⟩ : ∃ W0, w.alloc (.cells #[.slice none 0 0, .slice none 0 0] 24) = W0 := ⟨_, rfl⟩
  have bl : Below w.heap.size w W0 := by rw [← hW0]; exact (Below.refl _ _).alloc (Nat.le_refl _) _
  have z0 : W0.heap.size = w.heap.size + 1 := by rw [← hW0]; simp
  have Z0 := hide z0
  have z0' : w.heap.size + 1 ≤ W0.heap.size := by omega
  have M0 := hide (show Bx W0 w.heap.size (.slice none 0 0) (.slice none 0 0) by rw [← hW0]; exact bx_new w _ _ _)
  have G0 := hide (show Free W0 w.heap.size by rw [← hW0]; intro i; simp [go_sem])
  have C0 := hide (hc.below bl)
  have CN := hide (l4NewR w.heap.size ad r c N D W0 (by omega) ((h.below (bl.mono hE)).mono hE) hr hN lN)
  have B0 := hide bl
  have H0 := hide hW0
  clear hW0 bl hc h z0
  go_enter Tryz.func33, Tryz.ntmps33
  go_wp2_with fail
  rw [H0.out]
  refine CN.out.mono ?_; rintro e w1 ⟨va, vc, g, rfl, oA, rG, sG, gLo, gHi, apart, b1⟩
  have z1 := b1.size
  have bA := (Below.refl w1.heap.size w1).alloc (Nat.le_refl _) (.cells #[.slice va r vc, .slice (some ⟨g, 0, none⟩) N N] 24)
  have b1A := b1.trans (bA.mono z1)
  have M1 := hide (M0.out.below b1A (by omega))
  have G1 := hide (G0.out.below b1A (by omega))
  have C1 := hide (C0.out.below b1A)
  have K1 := hide (show Kept (· = p) w (w1.alloc (.cells #[.slice va r vc, .slice (some ⟨g, 0, none⟩) N N] 24)) from Kept.of_below (B0.out.trans (b1A.mono B0.out.size)))
  have O1 := hide (oA.below bA)
  have R1 := hide (rG.below bA gHi)
  have S1 := hide (sG.kept (Kept.of_below (S := fun _ => False) bA) gHi (fun q => q))
  have X1 := hide (bx_new w1 (.slice va r vc) (.slice (some ⟨g, 0, none⟩) N N) 24)
  have y1 : w1.heap.size + 1 ≤ (w1.alloc (.cells #[.slice va r vc, .slice (some ⟨g, 0, none⟩) N N] 24)).heap.size := by simp
  have AP := hide (show ∀ k, Blk va r k → k ≠ g from fun k hk => by obtain ⟨_, ad', rfl, rfl⟩ := hk; exact apart ad'.block rfl)
  have NG := hide (show ¬ (Value.slice va r vc).ownBlock = some g from fun q => apart g q rfl)
  have LA := hide (show ∀ k, Blk va r k → w.heap.size + 1 ≤ k ∧ k < w1.heap.size from fun k hk => by obtain ⟨x, y, e, o⟩ := oA.own; cases e; have := o.blk hk; have := Z0.out; omega)
  have g1 : w.heap.size + 1 ≤ g := by omega
  clear M0 G0 C0 B0 H0 CN oA rG apart b1 bA b1A gLo Z0
  go_wp2_with fail
  obtain ⟨W1, hW1⟩ : ∃ W1, w1.alloc (.cells #[.slice va r vc, .slice (some ⟨g, 0, none⟩) N N] 24) = W1 := ⟨_, rfl⟩
  rw [hW1] at M1 G1 C1 K1 O1 R1 S1 X1 y1 ⊢
  clear hW1
  go_loopw [6] (fun i wx => ∃ k : Nat, k ≤ N ∧ i = .int .i64 (k : Int) ∧ Rw wx g N (fun t => if t < k then ceV len C z t else 0) ∧ CurF B wx p a len cap C (ceZ len C z k) ∧ Bx wx w1.heap.size (.slice va r vc) (.slice (some ⟨g, 0, none⟩) N N) ∧ Bx wx w.heap.size (.slice none 0 0) (.slice none 0 0) ∧ Free wx w.heap.size ∧ RowV (w.heap.size + 1) wx (.slice va r vc) r D ∧ Shp wx g N ∧ Kept (· = p) w wx ∧ W1.heap.size ≤ wx.heap.size) (fun i _ => N - (intOf i).toNat)
  case atStart => exact ⟨0, Nat.zero_le _, rfl, R1.out.same (fun t ht => by simp), C1.out, X1.out, M1.out, G1.out, O1.out.mono (by omega), S1.out, K1.out, Nat.le_refl _⟩
  case round =>
    obtain ⟨X, rfl⟩ : ∃ X, X = wr := ⟨_, rfl⟩
    obtain ⟨k, hk, rfl, hrw, hcu, hbx, hm, hg, ho, hsp, hkp, hz⟩ := hrel
    have SP := hide hsp
    have RW := hide hrw
    have CU := hide hcu
    have BX := hide hbx
    have MM := hide hm
    have GG := hide hg
    have OO := hide ho
    have KP := hide hkp
    clear hrw hcu hm hg ho hkp hsp
    by_cases hlt : k < N
    · have kI : (k : Int) < (N : Int) := by omega
      have eZ : Hid (ceZ len C z (k + 1) = (ceR len C (ceZ len C z k)).2) := hide rfl
      have eV : Hid (ceV len C z k = (ceR len C (ceZ len C z k)).1) := hide rfl
      have vB := hide (ceV_bd len C z k)
      obtain ⟨y, hy⟩ : ∃ y, ceZ len C z k = y := ⟨_, rfl⟩
      rw [hy] at CU eZ eV
      clear hy
      have xb := blV_bd len C (n := 7) y (by omega)
      -- what a world has in which the cursor alone has moved
      have FACT := hide (show ∀ W : World, Kept (· = p) X W → Bx W w1.heap.size (.slice va r vc) (.slice (some ⟨g, 0, none⟩) N N) ∧ Rw W g N (fun t => if t < k then ceV len C z t else 0) from fun W hW =>
        ⟨BX.out.kept hW (by omega) (by show ¬ w1.heap.size = p; omega), RW.out.kept hW (by show ¬ g = p; omega)⟩)
      have CALL := hide (belowF B p a len cap C y 7 X.drew (CU.out.below ((Below.refl _ _).drew)) (by omega) (by omega))
      obtain ⟨v, hv⟩ : ∃ v, blV len C 7 y = v := ⟨_, rfl⟩
      have HV := hide hv
      rw [hv] at CALL xb
      clear hv
      obtain ⟨x0, x1⟩ := BX.out
      obtain ⟨cg, fg, _⟩ := RW.out k hlt
      have cg' : X.cell? ⟨g, k, none⟩ = some (.int .i64 (if k < k then ceV len C z k else 0)) := cg
      clear cg
      have gne : ¬ g = w1.heap.size := by omega
      have SE := hide (show ∀ (W : World) (u : Value), (W.setCell ⟨g, k, none⟩ u).cell? ⟨w1.heap.size, 1, none⟩ = W.cell? ⟨w1.heap.size, 1, none⟩ from fun W u => World.cell?_setCell_other _ _ _ _ (by intro e; cases e; exact gne rfl))
      go_wp2_with fail
      go_region_held3 (fun w' => w'.cell? ⟨w1.heap.size, 1, none⟩ = some (.slice (some ⟨g, 0, none⟩) N N))
        ((try dsimp only) <;> (first | with_reducible assumption | assumption | (rw [SE.out]; assumption)))
        (first
        | (go_at_call 36
           refine CALL.out.mono ?_
           rintro e X2 ⟨rfl, d2, gr2⟩
           have k2 : Kept (· = p) X X2 := (Kept.of_below ((Below.refl _ _).drew)).trans (keptG gr2)
           obtain ⟨⟨q0, q1⟩, qr⟩ := FACT.out X2 k2
           obtain ⟨cg2, fg2, _⟩ := qr k hlt))
      have ALL := hide (show ∀ W : World, Kept (fun b => b = p ∨ b = g) X W → Bx W w1.heap.size (.slice va r vc) (.slice (some ⟨g, 0, none⟩) N N) ∧ Bx W w.heap.size (.slice none 0 0) (.slice none 0 0) ∧ Free W w.heap.size ∧ RowV (w.heap.size + 1) W (.slice va r vc) r D ∧ Kept (· = p) w W from fun W hW =>
        ⟨BX.out.kept hW (by omega) (by show ¬ (w1.heap.size = p ∨ w1.heap.size = g); omega), MM.out.kept hW (by omega) (by show ¬ (w.heap.size = p ∨ w.heap.size = g); omega), GG.out.kept hW (by omega) (by show ¬ (w.heap.size = p ∨ w.heap.size = g); omega), OO.out.kept hW (fun b hb e => by
          have l := OO.out.lt hb
          rcases e with e | e
          · omega
          · exact NG.out (by rw [← e]; exact hb)), ⟨hW.os.trans KP.out.os, hW.tape.trans KP.out.tape, hW.output.trans KP.out.output, Nat.le_trans KP.out.size hW.size, fun b hb hn => (hW.block b (by have := KP.out.size; omega) (by show ¬ (b = p ∨ b = g); have hn : ¬ b = p := hn; omega)).trans (KP.out.block b hb hn)⟩⟩)
      have K3 := hide ((k2.mono (fun b _ e => .inl e)).trans ((Kept.setCell X2 ⟨g, k, none⟩ (.int .i64 v)).mono (T := fun b => b = p ∨ b = g) (fun b _ e => .inr e)))
      have R3 := hide (qr.set k v (by unfold bd; omega))
      have S3 := hide ((SP.out.kept k2 (by omega) (by show ¬ g = p; omega)).set k (.int .i64 v))
      have C3 := hide (curSet d2 g k (.int .i64 v) (by omega) (by omega))
      have z3 := K3.out.size
      clear d2 gr2 qr cg2 fg2 q0 q1 x0 x1 cg' fg k2 CALL FACT SE
      have CO := hide (onceF B p a len cap C (blS len 7 y) 3 (X2.setCell ⟨g, k, none⟩ (.int .i64 v)) C3.out (by omega) (by omega))
      go_wp2_with fail
      obtain ⟨X3, hX3⟩ : ∃ X3, X2.setCell ⟨g, k, none⟩ (.int .i64 v) = X3 := ⟨_, rfl⟩
      rw [hX3] at K3 R3 S3 C3 z3 CO ⊢
      clear hX3
      refine CO.out.mono ?_; rintro e X4 ⟨rfl, d4, gr4⟩
      have K4 := hide (K3.out.trans ((keptG gr4).mono (T := fun b => b = p ∨ b = g) (fun b _ e => .inl e)))
      have R4 := hide (R3.out.kept (keptG gr4) (by show ¬ g = p; omega))
      have S4 := hide (S3.out.kept (keptG gr4) (by omega) (by show ¬ g = p; omega))
      have C4 := hide d4
      have z4 := K4.out.size
      clear d4 gr4 CO K3 R3 C3 S3
      by_cases hb : blV len C 3 (blS len 7 y) = 0
      · have hb' : (blV len C 3 (blS len 7 y) == 0) = true := beq_iff_eq.2 hb
        have eR : Hid (ceR len C y = numR len C (blS len 3 (blS len 7 y))) := by show _ = _; unfold ceR; rw [if_pos hb]
        rw [eR.out] at eZ eV
        generalize blV len C 3 (blS len 7 y) = bb at hb'
        have CALL := hide ((numR_is len C (blS len 3 (blS len 7 y))).2.2 B p a cap X4.drew (C4.out.below ((Below.refl _ _).drew)))
        have ub := numR_is len C (blS len 3 (blS len 7 y))
        obtain ⟨⟨u, y'⟩, hu⟩ : ∃ q, numR len C (blS len 3 (blS len 7 y)) = q := ⟨_, rfl⟩
        rw [hu] at CALL eZ eV ub
        have ub0 := ub.1
        have ub1 := ub.2.1
        clear hu hb eR ub
        dsimp only at CALL eZ eV ub0 ub1
        obtain ⟨⟨x0, x1⟩, _⟩ := ALL.out X4 K4.out
        have FACT := hide (show ∀ W : World, Kept (· = p) X4 W → Bx W w1.heap.size (.slice va r vc) (.slice (some ⟨g, 0, none⟩) N N) ∧ Rw W g N _ from fun W hW =>
          ⟨(ALL.out W (K4.out.trans (hW.mono (T := fun b => b = p ∨ b = g) (fun b _ e => .inl e)))).1, R4.out.kept hW (by show ¬ g = p; omega)⟩)
        have SE := hide (show ∀ (W : World) (u : Value), (W.setCell ⟨g, k, none⟩ u).cell? ⟨w1.heap.size, 1, none⟩ = W.cell? ⟨w1.heap.size, 1, none⟩ from fun W u => World.cell?_setCell_other _ _ _ _ (by intro e; cases e; exact gne rfl))
        go_wp2_with fail
        go_region_held3 (fun w' => w'.cell? ⟨w1.heap.size, 1, none⟩ = some (.slice (some ⟨g, 0, none⟩) N N))
          ((try dsimp only) <;> (first | with_reducible assumption | assumption | (rw [SE.out]; assumption)))
          (first
          | (go_at_call 61
             refine CALL.out.mono ?_
             rintro e X5 ⟨rfl, d5, gr5⟩
             have k5 : Kept (· = p) X4 X5 := (Kept.of_below ((Below.refl _ _).drew)).trans (keptG gr5)
             obtain ⟨⟨q0, q1⟩, qr⟩ := FACT.out X5 k5
             obtain ⟨cg2, fg2, _⟩ := qr k hlt))
        have K6 := hide ((K4.out.trans (k5.mono (T := fun b => b = p ∨ b = g) (fun b _ e => .inl e))).trans ((Kept.setCell X5 ⟨g, k, none⟩ (.int .i64 u)).mono (T := fun b => b = p ∨ b = g) (fun b _ e => .inr e)))
        have R6 := hide (qr.set k u (by unfold bd; omega))
        have S6 := hide ((S4.out.kept k5 (by omega) (by show ¬ g = p; omega)).set k (.int .i64 u))
        have C6 := hide (curSet d5 g k (.int .i64 u) (by omega) (by omega))
        have z6 := K6.out.size
        clear d5 gr5 qr cg2 fg2 q0 q1 x0 x1 k5 CALL FACT SE
        go_wp2_with fail
        go_roundw
        case rel =>
          obtain ⟨a1, a2, a3, a4, a5⟩ := ALL.out _ K6.out
          refine ⟨k + 1, by omega, by go_num, R6.out.same (fun t ht => ?_), by rw [eZ.out]; exact C6.out, a1, a2, a3, a4, S6.out, a5, by omega⟩
          by_cases e : t = k
          · subst e; simp [eV.out]
          · by_cases e2 : t < k
            · simp [e, e2, show t < k + 1 by omega]
            · simp [e, e2, show ¬ t < k + 1 by omega]
        case measure => simp [intOf]; omega
      · have hb' : (blV len C 3 (blS len 7 y) == 0) = false := beq_eq_false_iff_ne.2 hb
        have eR : Hid (ceR len C y = (blV len C 7 y, blS len 3 (blS len 7 y))) := by show _ = _; unfold ceR; rw [if_neg hb]
        rw [eR.out] at eZ eV
        dsimp only at eZ eV
        rw [HV.out] at eV
        generalize blV len C 3 (blS len 7 y) = bb at hb'
        clear hb eR
        go_wp2_with fail
        go_roundw
        case rel =>
          obtain ⟨a1, a2, a3, a4, a5⟩ := ALL.out _ K4.out
          refine ⟨k + 1, by omega, by go_num, R4.out.same (fun t ht => ?_), by rw [eZ.out]; exact C4.out, a1, a2, a3, a4, S4.out, a5, by omega⟩
          by_cases e : t = k
          · subst e; simp [eV.out]
          · by_cases e2 : t < k
            · simp [e, e2, show t < k + 1 by omega]
            · simp [e, e2, show ¬ t < k + 1 by omega]
        case measure => simp [intOf]; omega
    · have ekn : k = N := by omega
      subst ekn
      have kI : decide ((k : Int) < (k : Int)) = false := decide_eq_false (by omega)
      obtain ⟨x0, x1⟩ := BX.out
      obtain ⟨y0, y1'⟩ := MM.out
      have gg := GG.out
      unfold Free at gg
      clear hbx
      go_wp2_with fail
      refine bodyPost_ret (v := .agg #[.slice va r vc, .slice (some ⟨g, 0, none⟩) k k]) (by simp [results, Tryz.results33, go_sem, y0, y1']) rfl ?_
      have ks := (Kept.setCell X ⟨w.heap.size, 0, none⟩ (.slice va r vc)).trans (Kept.setCell _ ⟨w.heap.size, 1, none⟩ (.slice (some ⟨g, 0, none⟩) k k))
      have RO := OO.out.kept ks (fun b hb e => by have := (OO.out.lt hb).1; have e : b = w.heap.size := e; omega)
      obtain ⟨xa, xc, hxe, OWN⟩ := RO.own
      cases hxe
      refine ⟨va, vc, g, rfl, ⟨OWN.mono (by omega), .inr ⟨g, rfl, by omega, (RW.out.kept ks (by show ¬ g = w.heap.size; omega)).same (fun t ht => by simp [ht])⟩, fun b hb hb' => ?_⟩, RO, SP.out.kept ks (by omega) (by show ¬ g = w.heap.size; omega), by omega, NG.out, curSet (curSet CU.out w.heap.size 0 _ (by omega) (by omega)) w.heap.size 1 _ (by omega) (by omega), ?_⟩
      · obtain ⟨_, ad', e1, e2⟩ := hb'
        cases e1
        exact AP.out b hb e2.symm
      · exact ⟨ks.os.trans KP.out.os, ks.tape.trans KP.out.tape, ks.output.trans KP.out.output, Nat.le_trans KP.out.size ks.size, fun b hb hn => (ks.block b (by have := KP.out.size; omega) (by show ¬ b = w.heap.size; omega)).trans (KP.out.block b hb hn)⟩
end Vo
end Go.Proofs.YtbbmbgjjhaajjaaGreatDoor
