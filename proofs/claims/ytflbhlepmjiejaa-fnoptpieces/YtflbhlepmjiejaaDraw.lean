/- What the laws draw: a cursor over the bytes that came in. Each draw answers within its bounds and writes into the cursor alone, which is new memory. -/
import Derived.Test.YtflbhlepmjiejaaPow
import Derived.Deep.QuietTactic
import Derived.BigQuiet
import Derived.WalkSmall
import Derived.WalkSpells
import Derived.Laws.BitsLemmas
import Derived.Lib.BufferOwn
namespace Go.Proofs.Ytflbhlepmjiejaa
namespace Base
open Go.ChangeShapes Go.WideShapes Go.ChangeAt Go.RowKit
set_option linter.unusedVariables false

/-- bytes that came in: they lie below block B -/
def Code (B : Nat) (w : World) (a : Option Addr) (len : Nat) : Prop :=
  len ≤ 9223372036854775807 ∧ (len = 0 ∨ ∃ b off, a = some ⟨b, off, none⟩ ∧ b < B ∧ ∀ j, j < len → ∃ z : Int, w.cell? ⟨b, off + j, none⟩ = some (.int .u8 z) ∧ 0 ≤ z ∧ z ≤ 255)
theorem Code.below {B : Nat} {w w' : World} {a : Option Addr} {len : Nat} (h : Code B w a len) (hb : Below B w w') : Code B w' a len := by
  refine ⟨h.1, ?_⟩
  rcases h.2 with h0 | ⟨b, off, e, hB, hc⟩
  · exact .inl h0
  · refine .inr ⟨b, off, e, hB, fun j hj => ?_⟩
    obtain ⟨z, hz, b0, b1⟩ := hc j hj
    exact ⟨z, by rw [hb.cell (p := ⟨b, off + j, none⟩) hB]; exact hz, b0, b1⟩

theorem Code.mono {B B' : Nat} {w : World} {a : Option Addr} {len : Nat} (h : Code B w a len) (hB : B ≤ B') : Code B' w a len := by
  refine ⟨h.1, ?_⟩
  rcases h.2 with h0 | ⟨b, off, e, hb, hc⟩
  · exact .inl h0
  · exact .inr ⟨b, off, e, by omega, hc⟩
/-- a slice of bytes that came in, as the row reads it -/
theorem code_of {W : World} {x : Addr} {len cap : Nat} {zs : List Int} (hl : len ≤ cap) (hm : cap ≤ maxLen) (hz : zs.length = cap)
    (hcell : ∀ i, i < zs.length → W.cell? (x.add i) = some (.int .u8 (zs.getD i 0))) (hwz : ∀ n ∈ zs, (Lit.int .u8 n).wf = true) : Code W.heap.size W (some x) len := by
  unfold maxLen at hm
  refine ⟨by omega, ?_⟩
  by_cases h0 : len = 0
  · exact .inl h0
  · obtain ⟨b, off, rfl, hc⟩ := ints_at hcell (by omega)
    refine .inr ⟨b, off, rfl, World.block_lt_of_cell? _ _ (hc 0 (by omega)), fun j hj => ⟨zs.getD j 0, hc j (by omega), ?_⟩⟩
    have hmem : zs.getD j 0 ∈ zs := by
      rw [List.getD, List.getElem?_eq_getElem (by omega), Option.getD_some]; exact List.getElem_mem _
    exact bounds_u8 (hwz _ hmem)

/-- the cursor at block p -/
structure Cur (B : Nat) (w : World) (p : Nat) (a : Option Addr) (len cap : Nat) : Prop where
  hp : B ≤ p
  code : Code B w a len
  c0 : w.cell? ⟨p, 0, none⟩ = some (.slice a len cap)
  st : ∃ i h : Int, w.cell? ⟨p, 1, none⟩ = some (.int .i64 i) ∧ w.cell? ⟨p, 2, none⟩ = some (.int .i64 h) ∧ 0 ≤ i ∧ i ≤ len ∧ -9223372036854775808 ≤ h ∧ h ≤ 9223372036854775807
  f1 : w.frozen? ⟨p, 1, none⟩ = false
  f2 : w.frozen? ⟨p, 2, none⟩ = false

/-- a draw's end: a number from lo to hi, the cursor still one -/
def Drawn (B : Nat) (p : Nat) (a : Option Addr) (len cap : Nat) (lo hi : Int) (w : World) (e : Ending) (w' : World) : Prop :=
  ∃ x : Int, lo ≤ x ∧ x ≤ hi ∧ e = .returned (.int .i64 x) ∧ Cur B w' p a len cap ∧ w.grownBy w' (some p)

theorem mask8 (n : Int) : bits .and .i64 n 255 = n % 256 := by
  have h : (BitVec.ofInt 64 255).toNat = 2 ^ 8 - 1 := by decide
  have key : (BitVec.ofInt 64 n &&& BitVec.ofInt 64 255).toNat = (n % ((2 ^ 64 : Nat) : Int)).toNat % 2 ^ 8 := by
    rw [BitVec.toNat_and, BitVec.toNat_ofInt, h, Nat.and_two_pow_sub_one_eq_mod]
  show IntKind.i64.wrap ((BitVec.ofInt 64 n &&& BitVec.ofInt 64 255).toNat : Nat) = n % 256
  rw [key, IntKind.wrap_i64]
  omega
theorem mask30 (n : Int) : bits .and .i64 n 1073741823 = n % 1073741824 := by
  have h : (BitVec.ofInt 64 1073741823).toNat = 2 ^ 30 - 1 := by decide
  have key : (BitVec.ofInt 64 n &&& BitVec.ofInt 64 1073741823).toNat = (n % ((2 ^ 64 : Nat) : Int)).toNat % 2 ^ 30 := by
    rw [BitVec.toNat_and, BitVec.toNat_ofInt, h, Nat.and_two_pow_sub_one_eq_mod]
  show IntKind.i64.wrap ((BitVec.ofInt 64 n &&& BitVec.ofInt 64 1073741823).toNat : Nat) = n % 1073741824
  rw [key, IntKind.wrap_i64]
  omega
theorem wrap_bd (n : Int) : -9223372036854775808 ≤ wrap64 n ∧ wrap64 n ≤ 9223372036854775807 := bounds_i64 (wrap64_wf _)

theorem grown_drew (w : World) (n p : Nat) : w.grownBy (w.drewN n) (some p) := ⟨rfl, rfl, rfl, Nat.le_refl _, fun _ _ _ => rfl⟩
theorem grown_refl (w : World) (p : Nat) : w.grownBy w (some p) := ⟨rfl, rfl, rfl, Nat.le_refl _, fun _ _ _ => rfl⟩
theorem Cur.lt {B p : Nat} {a : Option Addr} {len cap : Nat} {w : World} (h : Cur B w p a len cap) : p < w.heap.size := World.block_lt_of_cell? _ _ h.c0
theorem Cur.below {B p : Nat} {a : Option Addr} {len cap : Nat} {w w' : World} (h : Cur B w p a len cap) (hg : w.grownBy w' (some p)) : Below B w w' :=
  (Below.refl B w).grown hg (by have := h.lt; have := h.hp; omega) (by rintro k ⟨⟩; exact h.hp)
/-- new memory behind leaves a cursor one -/
theorem Cur.alloc {B p : Nat} {a : Option Addr} {len cap : Nat} {w : World} (h : Cur B w p a len cap) (o : Obj) : Cur B (w.alloc o) p a len cap := by
  have hl := h.lt
  have hb : Below w.heap.size w (w.alloc o) := (Below.refl _ _).alloc (Nat.le_refl _) _
  obtain ⟨hp, hcode, c0, ⟨i, g, c1, c2, q⟩, f1, f2⟩ := h
  refine ⟨hp, hcode.below (hb.mono (by omega)), ?_, ⟨i, g, ?_, ?_, q⟩, ?_, ?_⟩
  · rw [hb.cell (p := ⟨p, 0, none⟩) hl]; exact c0
  · rw [hb.cell (p := ⟨p, 1, none⟩) hl]; exact c1
  · rw [hb.cell (p := ⟨p, 2, none⟩) hl]; exact c2
  · rw [hb.frozen (p := ⟨p, 1, none⟩) hl]; exact f1
  · rw [hb.frozen (p := ⟨p, 2, none⟩) hl]; exact f2

theorem cur_set {B p : Nat} {a : Option Addr} {len cap : Nat} {w : World} {i h : Int} (hp : B ≤ p) (hc : Code B w a len) (c0 : w.cell? ⟨p, 0, none⟩ = some (.slice a len cap))
    (c1 : w.cell? ⟨p, 1, none⟩ = some (.int .i64 i)) (c2 : w.cell? ⟨p, 2, none⟩ = some (.int .i64 h)) (f1 : w.frozen? ⟨p, 1, none⟩ = false) (f2 : w.frozen? ⟨p, 2, none⟩ = false)
    (h' : Int) (q0 : -9223372036854775808 ≤ h') (q1 : h' ≤ 9223372036854775807) (n : Nat) (i' : Int) (i0 : 0 ≤ i') (i1 : i' ≤ len) :
    Cur B (((w.setCell ⟨p, 2, none⟩ (.int .i64 h')).drewN n).setCell ⟨p, 1, none⟩ (.int .i64 i')) p a len cap ∧ w.grownBy (((w.setCell ⟨p, 2, none⟩ (.int .i64 h')).drewN n).setCell ⟨p, 1, none⟩ (.int .i64 i')) (some p) := by
  have hb : Below B w (((w.setCell ⟨p, 2, none⟩ (.int .i64 h')).drewN n).setCell ⟨p, 1, none⟩ (.int .i64 i')) := (below_drewN ((Below.refl _ _).setCell hp _) _).setCell hp _
  refine ⟨⟨hp, hc.below hb, ?_, ⟨i', h', ?_, ?_, i0, i1, q0, q1⟩, ?_, ?_⟩, ((Lib.grownBy_setCell w p 2 _).trans (grown_drew _ n p)).trans (Lib.grownBy_setCell _ p 1 _)⟩
  · simp [go_sem, c0]
  · simp [go_sem, c1]
  · simp [go_sem, c2]
  · simp [go_sem, f1]
  · simp [go_sem, f2]

theorem l1Byte (B : Nat) (p : Nat) (a : Option Addr) (len cap : Nat) (w : World) (hc : Cur B w p a len cap) :
    Calls Try.prog 42 #[.pointer (some ⟨p, 0, none⟩)] w fun e w' => Drawn B p a len cap 0 255 w e w' := by
  obtain ⟨hp, hcode, c0, ⟨i, h, c1, c2, i0, i1, h0, h1⟩, f1, f2⟩ := hc
  have hl := hcode.1
  have m8 := mask8
  by_cases hi : i < len
  · rcases hcode.2 with hz | ⟨b, off, rfl, hB, hcell⟩
    · omega
    · obtain ⟨j, rfl⟩ := Int.eq_ofNat_of_zero_le i0
      obtain ⟨z, hz, z0, z1⟩ := hcell j (by omega)
      have hne : b ≠ p := by omega
      have HC := hide hcode
      clear hcode hcell
      go_enter Try.func42, Try.ntmps42
      go_wp2_with fail
      go_quiet (fail)
      go_wp2_with fail
      go_quiet (fail)
      go_wp2_with fail
      go_quiet (fail)
      go_wp2_with fail
      go_ret
      clear m8
      obtain ⟨q0, q1⟩ := wrap_bd (wrap64 (h * 6364136223846793005) + 1442695040888963407)
      refine ⟨_, ?_, ?_, rfl, cur_set hp HC.out c0 c1 c2 f1 f2 _ q0 q1 _ _ (by omega) (by omega)⟩
      · show 0 ≤ _ % 256; omega
      · show _ % 256 ≤ 255; omega
  · have hi2 : decide (i < (len : Int)) = false := by rw [decide_eq_false_iff_not]; exact hi
    have HC := hide hcode
    clear hcode
    go_enter Try.func42, Try.ntmps42
    go_wp2_with fail
    go_quiet (fail)
    go_wp2_with fail
    go_quiet (fail)
    go_wp2_with fail
    go_ret
    clear m8
    refine ⟨_, ?_, ?_, rfl, ?_, ((Lib.grownBy_setCell w p 2 _).trans (grown_drew _ _ p)).trans (grown_drew _ _ p)⟩
    · show 0 ≤ _ % 256; omega
    · show _ % 256 ≤ 255; omega
    · obtain ⟨q0, q1⟩ := wrap_bd (wrap64 (h * 6364136223846793005) + 1442695040888963407)
      generalize wrap64 (wrap64 (h * 6364136223846793005) + 1442695040888963407) = h' at *
      refine ⟨hp, HC.out.below (below_drewN (below_drewN ((Below.refl _ _).setCell hp _) _) _), ?_, ⟨i, h', ?_, ?_, i0, i1, q0, q1⟩, ?_, ?_⟩
      · simp [go_sem, c0]
      · simp [go_sem, c1]
      · simp [go_sem, c2]
      · simp [go_sem, f1]
      · simp [go_sem, f2]

theorem l1Below (B : Nat) (p : Nat) (a : Option Addr) (len cap : Nat) (n : Int) (w : World) (hc : Cur B w p a len cap) (n0 : 1 ≤ n) (n1 : n ≤ 2147483648) :
    Calls Try.prog 20 #[.pointer (some ⟨p, 0, none⟩), .int .i64 n] w fun e w' => Drawn B p a len cap 0 (n - 1) w e w' := by
  have hc := hide hc
  by_cases h : n ≤ 256
  · go_enter Try.func20, Try.ntmps20
    go_wp2_with fail
    refine (l1Byte B p a len cap _ hc.out).mono ?_; rintro e w1 ⟨x, x0, x1, rfl, d1, g1⟩
    have r0 : 0 ≤ x % n := Int.emod_nonneg _ (by omega)
    have r1 : x % n < n := Int.emod_lt_of_pos _ (by omega)
    go_wp2_with fail
    go_ret
    exact ⟨_, r0, by omega, rfl, d1, g1⟩
  · have h2 : decide (n ≤ 256) = false := by rw [decide_eq_false_iff_not]; exact h
    clear h
    go_enter Try.func20, Try.ntmps20
    go_wp2_with fail
    refine (l1Byte B p a len cap _ hc.out).mono ?_; rintro e w1 ⟨x, x0, x1, rfl, d1, g1⟩
    go_wp2_with fail
    refine (l1Byte B p a len cap _ d1).mono ?_; rintro e w2 ⟨y, y0, y1, rfl, d2, g2⟩
    go_wp2_with fail
    refine (l1Byte B p a len cap _ d2).mono ?_; rintro e w3 ⟨z, z0, z1, rfl, d3, g3⟩
    go_wp2_with fail
    refine (l1Byte B p a len cap _ d3).mono ?_; rintro e w4 ⟨v, v0, v1, rfl, d4, g4⟩
    have r0 : 0 ≤ (x * 16777216 + y * 65536 + z * 256 + v) % n := Int.emod_nonneg _ (by omega)
    have r1 : (x * 16777216 + y * 65536 + z * 256 + v) % n < n := Int.emod_lt_of_pos _ (by omega)
    clear d1 d2 d3
    go_wp2_with fail
    go_ret
    exact ⟨_, r0, by omega, rfl, d4, ((g1.trans g2).trans g3).trans g4⟩

theorem l1PickInt (B : Nat) (p : Nat) (a : Option Addr) (len cap : Nat) (q n : Nat) (lo hi : Int) (w : World) (hc : Cur B w p a len cap) (hq : q ≠ p) (n0 : 1 ≤ n) (n1 : n ≤ 100)
    (hl : ∀ j, j < n → ∃ z : Int, w.cell? ⟨q, j, none⟩ = some (.int .i64 z) ∧ lo ≤ z ∧ z ≤ hi) :
    Calls Try.prog 41 #[.pointer (some ⟨p, 0, none⟩), .slice (some ⟨q, 0, none⟩) n n] w fun e w' => Drawn B p a len cap lo hi w e w' := by
  have hc := hide hc
  have HL := hide hl
  clear hl
  go_enter Try.func41, Try.ntmps41
  go_wp2_with fail
  refine (l1Below B p a len cap _ _ hc.out (by omega) (by omega)).mono ?_; rintro e w1 ⟨x, x0, x1, rfl, d1, g1⟩
  obtain ⟨j, rfl⟩ := Int.eq_ofNat_of_zero_le x0
  obtain ⟨z, hz, z0, z1⟩ := HL.out j (by omega)
  have hz' := g1.cell hz (by intro e; injection e with e; exact hq e)
  have hj : j < n := by omega
  clear HL hz
  go_wp2_with fail
  go_ret
  exact ⟨z, z0, z1, rfl, d1, g1⟩

/-- the cells of a list that was just laid -/
theorem laid_ints (w : World) (zs : List Int) (t : TypeId) (lo hi : Int) (h : ∀ z ∈ zs, lo ≤ z ∧ z ≤ hi) :
    ∀ j, j < zs.length → ∃ z : Int, (w.alloc (.cells (zs.map (Value.int .i64)).toArray t)).cell? ⟨w.heap.size, j, none⟩ = some (.int .i64 z) ∧ lo ≤ z ∧ z ≤ hi := by
  intro j hj
  refine ⟨zs[j], ?_, h _ (List.getElem_mem hj)⟩
  rw [World.cell?_alloc_at _ _ _ _ (by simp)]
  simp



theorem l1New (a : Option Addr) (len cap : Nat) (w : World) (hc : Code w.heap.size w a len) (hlen : len ≤ 1048576) :
    Calls Try.prog 17 #[.slice a len cap] w fun e w' => e = .returned (.pointer (some ⟨w.heap.size, 0, none⟩)) ∧ Cur w.heap.size w' w.heap.size a len cap ∧ Below w.heap.size w w' := by
  have HC := hide hc
  have m30 := mask30
  have hlI : (len : Int) ≤ 1048576 := by omega
  clear hc hlen
  go_enter Try.func17, Try.ntmps17
  go_wp2_with fail
  go_loop [3, 4] (fun h i => ∃ (g : Int) (k : Nat), k ≤ len ∧ 0 ≤ g ∧ g ≤ 1073741823 ∧ h = .int .i64 g ∧ i = .int .i64 k) (fun _ i => len - (intOf i).toNat)
  case atStart => exact ⟨_, 0, Nat.zero_le _, by omega, by omega, rfl, rfl⟩
  case round =>
    obtain ⟨g, k, hk, g0, g1, rfl, rfl⟩ := hrel
    by_cases hlt : k < len
    · by_cases h4 : (k : Int) < 4000
      · rcases HC.out.2 with hz | ⟨b, off, rfl, hB, hcell⟩
        · omega
        · obtain ⟨z, hz, z0, z1⟩ := hcell k hlt
          clear hcell
          go_wp2_with fail
          go_round
          case rel => exact ⟨_, k + 1, by omega, by omega, by omega, rfl, by go_num⟩
          case measure => simp [intOf]; omega
      · have h5 : decide ((k : Int) < 4000) = false := by rw [decide_eq_false_iff_not]; omega
        go_wp2_with fail
        go_ret
        refine ⟨rfl, ?_, (Below.refl _ _).alloc (Nat.le_refl _) _⟩
        refine ⟨Nat.le_refl _, HC.out.below ((Below.refl _ _).alloc (Nat.le_refl _) _), ?_, ⟨0, g, ?_, ?_, by omega, by omega, by omega, by omega⟩, ?_, ?_⟩
        all_goals simp [go_sem]
    · have h5 : decide ((k : Int) < (len : Int)) = false := by rw [decide_eq_false_iff_not]; omega
      go_wp2_with fail
      go_ret
      refine ⟨rfl, ?_, (Below.refl _ _).alloc (Nat.le_refl _) _⟩
      refine ⟨Nat.le_refl _, HC.out.below ((Below.refl _ _).alloc (Nat.le_refl _) _), ?_, ⟨0, g, ?_, ?_, by omega, by omega, by omega, by omega⟩, ?_, ?_⟩
      all_goals simp [go_sem]

/-- how a draw of two numbers ends -/
def DrawnTwo (w : World) (e : Ending) (w' : World) : Prop :=
  ∃ x y : Int, -9223372036854775808 ≤ x ∧ x ≤ 9223372036854775807 ∧ -9223372036854775808 ≤ y ∧ y ≤ 9223372036854775807 ∧ e = .returned (.tuple #[.int .i64 x, .int .i64 y]) ∧ Below w.heap.size w w'




theorem big (a : Option Addr) (len cap : Nat) (b : Bool) (w : World) (hl : (len : Int) ≤ 9223372036854775807) (h : decide ((1048576 : Int) < (len : Int)) = b) :
    Calls Try.prog 5 #[.slice a len cap] w fun e w' => e = .returned (.bool b) ∧ w' = w := by
  subst h
  go_enter Try.func5, Try.ntmps5
  go_wp2
  go_ret
  exact ⟨rfl, rfl⟩

end Base
end Go.Proofs.Ytflbhlepmjiejaa
