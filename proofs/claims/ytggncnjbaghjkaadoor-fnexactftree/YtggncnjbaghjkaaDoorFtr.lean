/- Sums of lists of floats, as a tree: both sides. -/
import Derived.Test.YtggncnjbaghjkaaDoorFsu
import Derived.Lib.QuietBelow
import Derived.BigQuiet
namespace Go.Proofs.YtggncnjbaghjkaaDoor
namespace FlV
open Go.ChangeShapes Go.WideShapes Go.ChangeAt Go.RowKit Go.Joins
open Flo (hide ret_int ret_bool)
set_option linter.unusedVariables false
set_option linter.unusedSimpArgs false
theorem slHead (b off r cap h : Nat) (hh : h ≤ cap) (W : World) : (Instr.slice 24 (.slice (some ⟨b, off, none⟩) r cap) none (some (.int .i64 (h : Int))) none).run Tryd.prog W = .ok (.slice (some ⟨b, off, none⟩) h cap) W := by
  rw [run_slice_h W 24 (some ⟨b, off, none⟩) r cap (by kernel_rfl) .i64 (h : Int) (by omega) (by omega)]
  go_simp
theorem slTail (b off r cap h : Nat) (hh : h < r) (hc : r ≤ cap) (W : World) : (Instr.slice 24 (.slice (some ⟨b, off, none⟩) r cap) (some (.int .i64 (h : Int))) none none).run Tryd.prog W = .ok (.slice (some ⟨b, off + h, none⟩) (r - h) (cap - h)) W := by
  rw [run_slice_l W 24 (some ⟨b, off, none⟩) r cap (by kernel_rfl) .i64 (h : Int) (by omega) (by omega)]
  have hne : ¬ (cap = h) := by omega
  go_simp
theorem ints_tail {B : Nat} {w : World} {r : Nat} {D : Nat → Int} {blk off m q : Nat} (h : Vl.Ints B w (some ⟨blk, off, none⟩) r D) (hm : m + q ≤ r) : Vl.Ints B w (some ⟨blk, off + m, none⟩) q (fun t => D (m + t)) := by
  rcases h with h | ⟨b, o, e, hb, hc⟩
  · exact .inl (by omega)
  · injection e with e
    injection e with e1 e2
    subst e1 e2
    exact .inr ⟨blk, off + m, rfl, hb, fun t ht => by rw [Nat.add_assoc]; exact hc (m + t) (by omega)⟩
theorem ints_head {B : Nat} {w : World} {a : Option Addr} {r q : Nat} {D : Nat → Int} (h : Vl.Ints B w a r D) (hq : q ≤ r) : Vl.Ints B w a q D := by
  rcases h with h | ⟨b, o, e, hb, hc⟩
  · exact .inl (by omega)
  · exact .inr ⟨b, o, e, hb, fun t ht => hc t (by omega)⟩
theorem specTree2 (add : Int → Int → Int) (hadd : IsAdd add) (r h : Nat) (u v : Int) (B : Nat) (a : Option Addr) (cap : Nat) (D : Nat → Int) (w : World) (hI : Vl.Ints B w a r D) (hB : B ≤ w.heap.size) (hr : (r : Int) ≤ 1048576) (hc : r ≤ cap) (h2 : 2 ≤ r) (hh : r / 2 = h)
    (h1 : ∀ (B : Nat) (a : Option Addr) (cap : Nat) (w : World), Vl.Ints B w a h D → B ≤ w.heap.size → h ≤ cap → Calls Tryd.prog 12 #[.slice a h cap] w fun e w' => e = .returned (.int .i64 u) ∧ Below w.heap.size w w')
    (h3 : ∀ (B : Nat) (a : Option Addr) (cap : Nat) (w : World), Vl.Ints B w a (r - h) (fun t => D (h + t)) → B ≤ w.heap.size → r - h ≤ cap → Calls Tryd.prog 12 #[.slice a (r - h) cap] w fun e w' => e = .returned (.int .i64 v) ∧ Below w.heap.size w w') :
    Calls Tryd.prog 12 #[.slice a r cap] w fun e w' => e = .returned (.int .i64 (add u v)) ∧ Below w.heap.size w w' := by
  obtain hz | ⟨b, off, rfl, hb, hcell⟩ := hI
  · omega
  · have hI : Vl.Ints B w (some ⟨b, off, none⟩) r D := .inr ⟨b, off, rfl, hb, hcell⟩
    have hre : ∀ d os, Vl.Ints B (Sort.grow (redrawn w d) os) (some ⟨b, off, none⟩) r D := fun d os => hI.below ((below_regrown w d os).mono hB)
    have hsz : ∀ d os, B ≤ (Sort.grow (redrawn w d) os).heap.size := fun d os => Nat.le_trans hB (below_regrown w d os).size
    have C1 := hide (fun d os => Calls.regrown_of (d := d) (os := os) (w := w) (h1 B (some ⟨b, off, none⟩) cap _ (ints_head (hre d os) (by omega)) (hsz d os) (by omega)))
    have C2 := hide (fun d os => Calls.regrown_of (d := d) (os := os) (w := w) (h3 B (some ⟨b, off + h, none⟩) (cap - h) _ (ints_tail (hre d os) (by omega)) (hsz d os) (by omega)))
    have CA := hide (fun d os => Calls.regrown_of (d := d) (os := os) (w := w) ((hadd u v).1 _))
    have s1 := slHead b off r cap h (by omega)
    have s2 := slTail b off r cap h (by omega) hc
    have q1 : (r : Int) / 2 = (h : Int) := by omega
    have q2 : Int.tdiv (r : Int) 2 = (h : Int) := by rw [Int.tdiv_eq_ediv_of_nonneg (by omega)]; omega
    have qw : IntKind.i64.wrap (h : Int) = (h : Int) := by rw [IntKind.wrap_i64]; omega
    have n0 : ((r : Int) == 0) = false := beq_eq_false_iff_ne.2 (by omega)
    have n1 : ((r : Int) == 1) = false := beq_eq_false_iff_ne.2 (by omega)
    clear h1 h3 hre hsz hI hcell hb
    go_enter Tryd.func12, Tryd.ntmps12
    go_wp2_with fail
    refine wp_region_quiet_below (by kernel_rfl) (by kernel_rfl) ?_
    repeat (quiet_step (first | (go_at_call_of 12 (Value.slice (some ⟨b, off, none⟩) h cap); exact C1.out _ _) | (go_at_call_of 12 (Value.slice (some ⟨b, off + h, none⟩) (r - h) (cap - h)); exact C2.out _ _) | (go_at_call 6; exact CA.out _ _)))
    refine wpQuiet_nil ?_
    intro _ hw'
    obtain ⟨⟨dq, osq⟩, hw''⟩ := hw'
    subst hw''
    go_wp2_with fail
    go_ret
    exact ⟨rfl, below_regrown _ dq osq⟩
theorem implTree2 (add : Int → Int → Int) (hadd : IsAdd add) (r h : Nat) (u v : Int) (B : Nat) (a : Option Addr) (cap : Nat) (D : Nat → Int) (w : World) (hv : SV w) (hI : Vl.Ints B w a r D) (hB : B ≤ w.heap.size) (hr : (r : Int) ≤ 1048576) (hc : r ≤ cap) (h2 : 2 ≤ r) (hh : r / 2 = h)
    (h1 : ∀ (B : Nat) (a : Option Addr) (cap : Nat) (w : World), SV w → Vl.Ints B w a h D → B ≤ w.heap.size → h ≤ cap → Calls Tryd.prog 13 #[.slice a h cap] w fun e w' => e = .returned (.int .i64 u) ∧ Below w.heap.size w w')
    (h3 : ∀ (B : Nat) (a : Option Addr) (cap : Nat) (w : World), SV w → Vl.Ints B w a (r - h) (fun t => D (h + t)) → B ≤ w.heap.size → r - h ≤ cap → Calls Tryd.prog 13 #[.slice a (r - h) cap] w fun e w' => e = .returned (.int .i64 v) ∧ Below w.heap.size w w') :
    Calls Tryd.prog 13 #[.slice a r cap] w fun e w' => e = .returned (.int .i64 (add u v)) ∧ Below w.heap.size w w' := by
  obtain hz | ⟨b, off, rfl, hb, hcell⟩ := hI
  · omega
  · have hI : Vl.Ints B w (some ⟨b, off, none⟩) r D := .inr ⟨b, off, rfl, hb, hcell⟩
    have hre : ∀ d os, Vl.Ints B (Sort.grow (redrawn w d) os) (some ⟨b, off, none⟩) r D := fun d os => hI.below ((below_regrown w d os).mono hB)
    have hsz : ∀ d os, B ≤ (Sort.grow (redrawn w d) os).heap.size := fun d os => Nat.le_trans hB (below_regrown w d os).size
    have hsv : ∀ d os, SV (Sort.grow (redrawn w d) os) := fun d os => hv.below (below_regrown w d os)
    have C1 := hide (fun d os => Calls.regrown_of (d := d) (os := os) (w := w) (h1 B (some ⟨b, off, none⟩) cap _ (hsv d os) (ints_head (hre d os) (by omega)) (hsz d os) (by omega)))
    have C2 := hide (fun d os => Calls.regrown_of (d := d) (os := os) (w := w) (h3 B (some ⟨b, off + h, none⟩) (cap - h) _ (hsv d os) (ints_tail (hre d os) (by omega)) (hsz d os) (by omega)))
    have CA := hide (fun d os => Calls.regrown_of (d := d) (os := os) (w := w) ((hadd u v).2 _ (hsv d os)))
    have s1 := slHead b off r cap h (by omega)
    have s2 := slTail b off r cap h (by omega) hc
    have q1 : (r : Int) / 2 = (h : Int) := by omega
    have q2 : Int.tdiv (r : Int) 2 = (h : Int) := by rw [Int.tdiv_eq_ediv_of_nonneg (by omega)]; omega
    have qw : IntKind.i64.wrap (h : Int) = (h : Int) := by rw [IntKind.wrap_i64]; omega
    have n0 : ((r : Int) == 0) = false := beq_eq_false_iff_ne.2 (by omega)
    have n1 : ((r : Int) == 1) = false := beq_eq_false_iff_ne.2 (by omega)
    clear h1 h3 hre hsz hI hcell hb hsv hv
    go_enter Tryd.func13, Tryd.ntmps13
    go_wp2_with fail
    refine wp_region_quiet_below (by kernel_rfl) (by kernel_rfl) ?_
    repeat (quiet_step (first | (go_at_call_of 13 (Value.slice (some ⟨b, off, none⟩) h cap); exact C1.out _ _) | (go_at_call_of 13 (Value.slice (some ⟨b, off + h, none⟩) (r - h) (cap - h)); exact C2.out _ _) | (go_at_call 7; exact CA.out _ _)))
    refine wpQuiet_nil ?_
    intro _ hw'
    obtain ⟨⟨dq, osq⟩, hw''⟩ := hw'
    subst hw''
    go_wp2_with fail
    go_ret
    exact ⟨rfl, below_regrown _ dq osq⟩
theorem tree0 (w : World) (a : Option Addr) (cap : Nat) : Calls Tryd.prog 12 #[.slice a 0 cap] w fun e w' => e = .returned (.int .i64 0) ∧ Below w.heap.size w w' := by
  go_enter Tryd.func12, Tryd.ntmps12
  go_wp2_with fail
  go_ret
  exact ⟨rfl, Below.refl _ _⟩
theorem implTree0 (w : World) (hv : SV w) (a : Option Addr) (cap : Nat) : Calls Tryd.prog 13 #[.slice a 0 cap] w fun e w' => e = .returned (.int .i64 0) ∧ Below w.heap.size w w' := by
  obtain ⟨v0, v1⟩ := hv.cells
  clear hv
  go_enter Tryd.func13, Tryd.ntmps13
  go_wp2_with fail
  refine (FlP.zeroS 0 _ (by decide) (by decide)).mono ?_; rintro e' w0 ⟨rfl, b0⟩
  go_wp2_with fail
  go_ret
  exact ⟨rfl, b0⟩
theorem fieldP (k s x y : Int) (W : World) : (Instr.field 39 (.agg #[.int .u8 k, .int .u8 s, .int .i16 x, .int .u32 y]) 0).run Tryd.prog W = .ok (.int .u8 k) W := by kernel_rfl
theorem fieldN (k : Int) (n : Bool) (x y : Int) (W : World) : (Instr.field 30 (.agg #[.int .i64 k, .bool n, .int .i64 x, .int .i64 y]) 0).run Tryd.prog W = .ok (.int .i64 k) W := by kernel_rfl
theorem one1 (x : Int) : ∃ v, (∀ (w : World) (b off cap : Nat), w.cell? ⟨b, off, none⟩ = some (.int .i64 x) → Calls Tryd.prog 12 #[.slice (some ⟨b, off, none⟩) 1 cap] w fun e w' => e = .returned (.int .i64 v) ∧ Below w.heap.size w w') ∧
    (∀ (w : World) (b off cap : Nat), SV w → w.cell? ⟨b, off, none⟩ = some (.int .i64 x) → Calls Tryd.prog 13 #[.slice (some ⟨b, off, none⟩) 1 cap] w fun e w' => e = .returned (.int .i64 v) ∧ Below w.heap.size w w') := by
  obtain ⟨k1, s1, x1, y1, c1, hA⟩ := splitAny x
  have imp : ∀ (v : Int), (k1 = 3 ∧ v = 2143289344) ∨ ((k1 == 3) = false ∧ v = x) → (∀ (w : World) (b off cap : Nat), SV w → w.cell? ⟨b, off, none⟩ = some (.int .i64 x) → Calls Tryd.prog 13 #[.slice (some ⟨b, off, none⟩) 1 cap] w fun e w' => e = .returned (.int .i64 v) ∧ Below w.heap.size w w') := by
    intro v hk w b off cap hv hcell
    obtain ⟨v0, v1⟩ := hv.cells
    have k0 := cell_regrown hcell
    have k4 := cell_regrown v0
    have k5 := cell_regrown v1
    have fl := fun W => fieldP k1 s1 x1 y1 W
    have HS := hide (fun d os => Calls.regrown_of (d := d) (os := os) (w := w) (hA _))
    clear hA c1 hv
    rcases hk with ⟨rfl, rfl⟩ | ⟨hk, rfl⟩
    all_goals
      go_enter Tryd.func13, Tryd.ntmps13
      go_wp2_with fail
      clear hcell v0 v1
      refine wp_region_quiet_below (by kernel_rfl) (by kernel_rfl) ?_
      repeat (quiet_step (first | (go_at_call 17; exact HS.out _ _)))
      refine wpQuiet_nil ?_
      intro _ hw'
      obtain ⟨⟨dq, osq⟩, hw''⟩ := hw'
      subst hw''
      have kk := k0 dq osq
      clear k0 k4 k5
      go_wp2_with fail
      go_ret
      exact ⟨rfl, below_regrown _ dq osq⟩
  rcases c1.num with ⟨e1, ba⟩ | ⟨e1, na⟩
  · refine ⟨2143289344, fun w b off cap hcell => ?_, imp _ (.inl ⟨e1, rfl⟩)⟩
    clear imp hA c1 e1
    go_enter Tryd.func12, Tryd.ntmps12
    go_wp2_with fail
    refine (FlM.openBad x _ ba).mono ?_; rintro e w1 ⟨b', x', y', rfl, b1⟩
    have fn := fun W => fieldN 2 b' x' y' W
    go_wp2_with fail
    go_ret
    exact ⟨rfl, b1⟩
  · refine ⟨x, fun w b off cap hcell => ?_, imp _ (.inr ⟨e1, rfl⟩)⟩
    have hb := block_lt_of_cell hcell
    clear imp hA c1 e1
    go_enter Tryd.func12, Tryd.ntmps12
    go_wp2_with fail
    refine (openNum x s1 _ na).mono ?_; rintro e w1 ⟨k, y, z, hk, rfl, b1⟩
    have hcell1 := (b1.cell (p := ⟨b, off, none⟩) hb).trans hcell
    have hk' : (k == 2) = false := hk
    have fn := fun W => fieldN k (s1 == 1) y z W
    clear hcell hk
    go_wp2_with fail
    go_ret
    exact ⟨rfl, b1⟩
theorem treeBoth (add : Int → Int → Int) (hadd : IsAdd add) (r : Nat) : ∀ (D : Nat → Int), (r : Int) ≤ 1048576 → ∃ v,
    (∀ (B : Nat) (a : Option Addr) (cap : Nat) (w : World), Vl.Ints B w a r D → B ≤ w.heap.size → r ≤ cap → Calls Tryd.prog 12 #[.slice a r cap] w fun e w' => e = .returned (.int .i64 v) ∧ Below w.heap.size w w') ∧
    (∀ (B : Nat) (a : Option Addr) (cap : Nat) (w : World), SV w → Vl.Ints B w a r D → B ≤ w.heap.size → r ≤ cap → Calls Tryd.prog 13 #[.slice a r cap] w fun e w' => e = .returned (.int .i64 v) ∧ Below w.heap.size w w') := by
  induction r using Nat.strongRecOn with
  | ind r ih =>
    intro D hr
    by_cases h0 : r = 0
    · subst h0
      exact ⟨0, fun B a cap w _ _ _ => tree0 w a cap, fun B a cap w hv _ _ _ => implTree0 w hv a cap⟩
    · by_cases h1 : r = 1
      · subst h1
        obtain ⟨v, hs, hi⟩ := one1 (D 0)
        refine ⟨v, fun B a cap w hI _ _ => ?_, fun B a cap w hv hI _ _ => ?_⟩
        · obtain hz | ⟨b, off, rfl, hb, hcell⟩ := hI
          · omega
          · exact hs w b off cap (hcell 0 (by omega)).1
        · obtain hz | ⟨b, off, rfl, hb, hcell⟩ := hI
          · omega
          · exact hi w b off cap hv (hcell 0 (by omega)).1
      · obtain ⟨u, hs1, hi1⟩ := ih (r / 2) (by omega) D (by omega)
        obtain ⟨v, hs2, hi2⟩ := ih (r - r / 2) (by omega) (fun t => D (r / 2 + t)) (by omega)
        exact ⟨add u v, fun B a cap w hI hB hc => specTree2 add hadd r (r / 2) u v B a cap D w hI hB hr hc (by omega) rfl hs1 hs2, fun B a cap w hv hI hB hc => implTree2 add hadd r (r / 2) u v B a cap D w hv hI hB hr hc (by omega) rfl hi1 hi2⟩
end FlV
end Go.Proofs.YtggncnjbaghjkaaDoor
