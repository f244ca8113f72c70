/- What a nest must be: the model. -/
import Derived.Test.YtgmjijjckedmcaaJj
import Derived.Test.YtgmjijjckedmcaaTb
import Derived.Test.YtgmjijjckedmcaaVc
import Derived.Deep.AppendLies
namespace Go.Proofs.Ytgmjijjckedmcaa
namespace Vo
open Go.ChangeShapes Go.WideShapes Go.ChangeAt Go.RowKit Go.Joins Go.Sort
open Vl Vp
set_option linter.unusedVariables false
set_option linter.unusedSimpArgs false
/-- what is given: the ins, then what is fixed -/
def gvn (v : NV) : Nat → Int := fun j => if j < v.i then v.ID j else (v.FF (j - v.i)).u
def psum (K : Nat → KV) : Nat → Int | 0 => 0 | n + 1 => psum K n + pd (K n).LD (K n).lr
/-- something fixed that can be -/
def FxOk (v : NV) (j : Nat) : Prop := (0 ≤ (v.FF j).u ∧ (v.FF j).u < v.sn) ∧ hasB (v.i + j) (gvn v) (v.FF j).u = false ∧ ((v.FF j).r : Int) = v.SD (v.FF j).u.toNat ∧ WI (v.FF j).r (v.FF j).D 2147483647
instance (v : NV) (j : Nat) : Decidable (FxOk v j) := by unfold FxOk; infer_instance
/-- a nest that can be -/
def NOk (v : NV) : Prop :=
  (v.sn ≤ 200 ∧ v.i ≤ 40 ∧ v.on ≤ 40 ∧ v.kn ≤ 400) ∧ (WI v.i v.ID v.sn ∧ WI v.on v.OD v.sn) ∧ (∀ j, j < v.sn → 0 ≤ v.SD j ∧ v.SD j ≤ 4096) ∧ (∀ j, j < v.i → hasB j (gvn v) (v.ID j) = false) ∧ (∀ j, j < v.fn → FxOk v j) ∧ (∀ j, j < v.kn → KOk (v.KK j) v.sn v.SD ∧ hasB (v.i + v.fn) (gvn v) (v.KK j).st.u = false) ∧ psum v.KK v.kn ≤ 1000000
instance (v : NV) : Decidable (NOk v) := by unfold NOk; infer_instance
theorem psum_rng (K : Nat → KV) (n : Nat) : 0 ≤ psum K n ∧ psum K n ≤ 65536 * (n : Int) := by
  induction n with
  | zero => unfold psum; omega
  | succ n ih =>
    have := pd_rng (K n).LD (K n).lr
    unfold psum
    omega
theorem l4WithinN (B : Nat) (c : Option Addr) (q cap : Nat) (I : Nat → Int) (n : Int) (w : World) (h : Ints B w c q I) (hq : (q : Int) ≤ 1048576) :
    Calls Try.prog 45 #[.slice c q cap, .int .i64 n] w fun e w' => e = .returned (.bool (wi q I n)) ∧ w' = w := by
  have H := hide h
  clear h
  go_enter Try.func45, Try.ntmps45
  go_wp2_with fail
  go_loopw [5] (fun i wx => ∃ k : Nat, k ≤ q ∧ i = .int .i64 k ∧ WI k I n ∧ wx = w) (fun i _ => q - (intOf i).toNat)
  case atStart => exact ⟨0, Nat.zero_le _, rfl, fun j hj => by omega, rfl⟩
  case round =>
    obtain ⟨k, hk, rfl, hall, rfl⟩ := hrel
    have HA := hide hall
    clear hall
    by_cases hlt : k < q
    · rcases H.out with h0 | ⟨b', off, rfl, hbB, hc⟩
      · omega
      have c1 := (hc k hlt).1
      have kI : (k : Int) < q := by omega
      clear hc
      by_cases q1 : I k < 0
      · have e := hide (show wi q I n = false from decide_eq_false (fun e => by have := e k hlt; omega))
        have q1' : decide (I k < 0) = true := decide_eq_true q1
        clear q1
        go_wp2_with fail
        go_ret
        exact ⟨by rw [e.out]; rfl, rfl⟩
      have q1' : decide (I k < 0) = false := decide_eq_false q1
      by_cases q2 : n ≤ I k
      · have e := hide (show wi q I n = false from decide_eq_false (fun e => by have := e k hlt; omega))
        have q2' : decide (n ≤ I k) = true := decide_eq_true q2
        clear q1 q2
        go_wp2_with fail
        go_ret
        exact ⟨by rw [e.out]; rfl, rfl⟩
      have q2' : decide (n ≤ I k) = false := decide_eq_false q2
      have f := hide (show WI (k + 1) I n from fun j hj => by
        by_cases ej : j = k
        · subst ej; omega
        · exact HA.out j (by omega))
      clear q1 q2
      go_wp2_with fail
      go_roundw
      all_goals first
        | (simp only [intOf]; omega)
        | (simp [intOf]; omega)
        | exact ⟨k + 1, by omega, by go_num, f.out, trivial⟩
    · obtain rfl : k = q := by omega
      have e := hide (show wi k I n = true from decide_eq_true HA.out)
      go_wp2_with fail
      go_ret
      exact ⟨by rw [e.out]; rfl, rfl⟩
/-- numbers, one at least -/
def rwN (r : Nat) (D : Nat → Int) : Bool := decide (1 ≤ r ∧ r ≤ 4096 ∧ WI r D 2147483647)
set_option maxHeartbeats 1000000 in
theorem l5RowN (B : Nat) (a : Option Addr) (r cap : Nat) (D : Nat → Int) (w : World) (h : Ints B w a r D) (hr : (r : Int) ≤ 1048576) :
    Calls Try.prog 47 #[.slice a r cap] w fun e w' => e = .returned (.bool (rwN r D)) ∧ w' = w := by
  have H := hide h
  clear h
  go_enter Try.func47, Try.ntmps47
  go_wp2_with fail
  go_loopw [3] (fun i wx => ∃ k : Nat, k ≤ r ∧ i = .int .i64 k ∧ (∀ j, j < k → 0 ≤ D j ∧ D j < 2147483647) ∧ wx = w) (fun i _ => r - (intOf i).toNat)
  case atStart => exact ⟨0, Nat.zero_le _, rfl, fun j hj => by omega, rfl⟩
  case round =>
    obtain ⟨k, hk, rfl, hall, rfl⟩ := hrel
    have HA := hide hall
    clear hall
    by_cases hlt : k < r
    · have kI : (k : Int) < r := by omega
      rcases H.out with q0 | ⟨blk, off, rfl, hbk, hc⟩
      · omega
      have c0 := (hc k hlt).1
      clear hc
      by_cases d0 : D k < 0
      · have d0' : decide (D k < 0) = true := decide_eq_true d0
        have ez := hide (show rwN r D = false from decide_eq_false (fun e => by have := e.2.2 k hlt; omega))
        clear d0
        go_wp2_with fail
        go_ret
        exact ⟨by rw [ez.out]; rfl, rfl⟩
      have d0' : decide (D k < 0) = false := decide_eq_false d0
      by_cases d1 : 2147483647 ≤ D k
      · have d1' : decide (2147483647 ≤ D k) = true := decide_eq_true d1
        have ez := hide (show rwN r D = false from decide_eq_false (fun e => by have := e.2.2 k hlt; omega))
        clear d0 d1
        go_wp2_with fail
        go_ret
        exact ⟨by rw [ez.out]; rfl, rfl⟩
      have d1' : decide (2147483647 ≤ D k) = false := decide_eq_false d1
      have A1 := hide (show ∀ j, j < k + 1 → 0 ≤ D j ∧ D j < 2147483647 from fun j hj => by
        by_cases c : j = k
        · subst c; omega
        · exact HA.out j (by omega))
      clear d0 d1
      go_wp2_with fail
      go_roundw
      all_goals first
        | (simp only [intOf]; omega)
        | (simp [intOf]; omega)
        | exact ⟨k + 1, by omega, by go_num, A1.out, trivial⟩
    · obtain rfl : k = r := by omega
      by_cases r0 : (0 : Int) < k
      · by_cases r1 : (k : Int) ≤ 4096
        · have ez := hide (show rwN k D = true from decide_eq_true ⟨by omega, by omega, HA.out⟩)
          go_wp2_with fail
          go_ret
          exact ⟨by rw [ez.out]; rfl, rfl⟩
        · have ez := hide (show rwN k D = false from decide_eq_false (fun e => by have := e.2.1; omega))
          have r1' : decide ((k : Int) ≤ 4096) = false := by rw [decide_eq_false_iff_not]; exact r1
          have r2' : decide (k ≤ 4096) = false := by rw [decide_eq_false_iff_not]; omega
          clear r1
          go_wp2_with fail
          go_ret
          exact ⟨by rw [ez.out]; rfl, rfl⟩
      · have ez := hide (show rwN k D = false from decide_eq_false (fun e => by have := e.1; omega))
        have r0' : decide ((0 : Int) < k) = false := by rw [decide_eq_false_iff_not]; exact r0
        have r3' : decide (0 < k) = false := by rw [decide_eq_false_iff_not]; omega
        clear r0
        go_wp2_with fail
        go_ret
        exact ⟨by rw [ez.out]; rfl, rfl⟩
set_option maxHeartbeats 1000000 in
theorem l7HasN (B : Nat) (a : Option Addr) (r cap : Nat) (D : Nat → Int) (x : Int) (w : World) (h : Ints B w a r D) (hr : (r : Int) ≤ 4194304) :
    Calls Try.prog 46 #[.slice a r cap, .int .i64 x] w fun e w' => e = .returned (.bool (hasB r D x)) ∧ w' = w := by
  have H := hide h
  clear h
  go_enter Try.func46, Try.ntmps46
  go_wp2_with fail
  go_loopw [5] (fun i wx => ∃ k : Nat, k ≤ r ∧ i = .int .i64 k ∧ (∀ j, j < k → D j ≠ x) ∧ wx = w) (fun i _ => r - (intOf i).toNat)
  case atStart => exact ⟨0, Nat.zero_le _, rfl, fun j hj => by omega, rfl⟩
  case round =>
    obtain ⟨k, hk, rfl, hn, rfl⟩ := hrel
    have HN := hide hn
    clear hn
    by_cases hlt : k < r
    · have kI : (k : Int) < r := by omega
      rcases H.out with h0 | ⟨b, off, rfl, hbB, hc⟩
      · omega
      have c1 := (hc k hlt).1
      clear hc
      by_cases hx : D k = x
      · have e := hide (show hasB r D x = true from decide_eq_true ⟨k, hlt, hx⟩)
        have hx' : (D k == x) = true := by simp [hx]
        clear hx
        go_wp2_with fail
        go_ret
        exact ⟨by rw [e.out]; rfl, rfl⟩
      · have hx' : (D k == x) = false := by simp [hx]
        have HX := hide hx
        clear hx
        go_wp2_with fail
        go_roundw
        all_goals first
          | (simp only [intOf]; omega)
          | (simp [intOf]; omega)
          | exact ⟨k + 1, by omega, by go_num, fun j hj => by
              by_cases c : j = k
              · rw [c]; exact HX.out
              · exact HN.out j (by omega), trivial⟩
    · obtain rfl : k = r := by omega
      have e := hide (show hasB k D x = false from decide_eq_false (by rintro ⟨j, hj, hx⟩; exact HN.out j hj hx))
      go_wp2_with fail
      go_ret
      exact ⟨by rw [e.out]; rfl, rfl⟩
theorem rowv_below {base : Nat} {X X' : World} {v : Value} {m : Nat} {G : Nat → Int} (R : RowV base X v m G) (hb : Below X.heap.size X X') : RowV base X' v m G := ⟨own_below R.1 hb, R.2⟩
theorem grow_kept {base : Nat} {W1 X X3 : World} {v : Value} {m : Nat} {G : Nat → Int} (R : RowV base X v m G) (o : Obj) (os : X3.os = (X.alloc o).os) (tape : X3.tape = (X.alloc o).tape) (output : X3.output = (X.alloc o).output) (size : (X.alloc o).heap.size ≤ X3.heap.size) (blk : ∀ b, b < (X.alloc o).heap.size → ¬ v.ownBlock = some b → X3.heap[b]? = (X.alloc o).heap[b]?) (hb : Below base W1 X) (hB : base ≤ X.heap.size) : Below base W1 X3 := by
  have KA : Kept (fun b => v.ownBlock = some b) X X3 := (Kept.of_below ((Below.refl _ X).alloc (Nat.le_refl _) o)).trans ⟨os, tape, output, size, blk⟩
  exact hb.trans (KA.below hB (fun b hj => (R.1.lt b hj).1))
set_option maxRecDepth 100000 in
set_option maxHeartbeats 8000000 in
theorem specNestOk (B : Nat) (v : NV) (w : World) (hB : B ≤ w.heap.size) (h : v.read B w) (hl : v.len 1048576) :
    Calls Try.prog 22 #[v.val] w fun e w' => e = .returned (.bool (decide (NOk v))) ∧ Below w.heap.size w w' := by
  obtain ⟨i0, hi0, hz0, hz1, hz2⟩ := info_parts infoInt
  obtain ⟨sa, sn, scap, SD, ia, i, icap, ID, fa, fn, fcap, FF, ka, kn, kcap, KK, oa, on, ocap, OD⟩ := v
  obtain ⟨h1, h2, h3, h4, h5⟩ := h
  obtain ⟨l1, l2, ⟨l3, l4⟩, ⟨l5, l6⟩, l7⟩ := hl
  unfold NV.val
  dsimp only at *
  obtain ⟨W1, hW1⟩ : ∃ W1, w.alloc (.cells #[.slice sa sn scap, .slice ia i icap, .slice fa fn fcap, .slice ka kn kcap, .slice oa on ocap] 33) = W1 := ⟨_, rfl⟩
  have BL := hide (show Below w.heap.size w W1 by rw [← hW1]; exact (Below.refl _ _).alloc (Nat.le_refl _) _)
  have p := Cells5.new w (.slice sa sn scap) (.slice ia i icap) (.slice fa fn fcap) (.slice ka kn kcap) (.slice oa on ocap) 33
  rw [hW1] at p
  have C1 := hide p
  have z1 : w.heap.size < W1.heap.size := World.block_lt_of_cell? _ _ p.1
  obtain ⟨p0, p1, p2, p3, p4⟩ := p
  have hB1 : B ≤ W1.heap.size := by omega
  have H1 := hide (h1.below (BL.out.mono hB))
  have H2 := hide (h2.below (BL.out.mono hB))
  have H3 := hide (h3.below (BL.out.mono hB))
  have H4 := hide (h4.below (BL.out.mono hB))
  have H5 := hide (h5.below (BL.out.mono hB))
  have L4 := hide l4
  have L6 := hide l6
  clear h1 h2 h3 h4 h5 l4 l6
  obtain ⟨N, hN⟩ : ∃ N : NV, N = ⟨sa, sn, scap, SD, ia, i, icap, ID, fa, fn, fcap, FF, ka, kn, kcap, KK, oa, on, ocap, OD⟩ := ⟨_, rfl⟩
  rw [← hN]
  have GV := hide (show ∀ j, gvn N j = if j < i then ID j else (FF (j - i)).u by intro j; rw [hN]; rfl)
  obtain ⟨G, hG⟩ : ∃ G, gvn N = G := ⟨_, rfl⟩
  rw [hG] at GV
  have FX := hide (show ∀ j, FxOk N j ↔ ((0 ≤ (FF j).u ∧ (FF j).u < sn) ∧ hasB (i + j) G (FF j).u = false ∧ ((FF j).r : Int) = SD (FF j).u.toNat ∧ WI (FF j).r (FF j).D 2147483647) by intro j; rw [← hG, hN]; exact Iff.rfl)
  have UN := hide (show NOk N ↔ ((sn ≤ 200 ∧ i ≤ 40 ∧ on ≤ 40 ∧ kn ≤ 400) ∧ (WI i ID sn ∧ WI on OD sn) ∧ (∀ j, j < sn → 0 ≤ SD j ∧ SD j ≤ 4096) ∧ (∀ j, j < i → hasB j G (ID j) = false) ∧ (∀ j, j < fn → FxOk N j) ∧ (∀ j, j < kn → KOk (KK j) sn SD ∧ hasB (i + fn) G (KK j).st.u = false) ∧ psum KK kn ≤ 1000000) by rw [← hG, hN]; exact Iff.rfl)
  clear hN hG
  go_enter Try.func22, Try.ntmps22
  by_cases c1 : 200 < (sn : Int)
  · have e := hide (show ¬ NOk N from fun q => by have := (UN.out.1 q).1.1; omega)
    go_wp2_with fail
    go_ret
    exact ⟨by rw [decide_eq_false e.out]; rfl, BL.out⟩
  have c1' : decide (200 < (sn : Int)) = false := by rw [decide_eq_false_iff_not]; exact c1
  have c1'' : decide (200 < sn) = false := by rw [decide_eq_false_iff_not]; omega
  by_cases c2 : 40 < (i : Int)
  · have e := hide (show ¬ NOk N from fun q => by have := (UN.out.1 q).1.2.1; omega)
    go_wp2_with fail
    go_ret
    exact ⟨by rw [decide_eq_false e.out]; rfl, BL.out⟩
  have c2' : decide (40 < (i : Int)) = false := by rw [decide_eq_false_iff_not]; exact c2
  have c2'' : decide (40 < i) = false := by rw [decide_eq_false_iff_not]; omega
  by_cases c3 : 40 < (on : Int)
  · have e := hide (show ¬ NOk N from fun q => by have := (UN.out.1 q).1.2.2.1; omega)
    go_wp2_with fail
    go_ret
    exact ⟨by rw [decide_eq_false e.out]; rfl, BL.out⟩
  have c3' : decide (40 < (on : Int)) = false := by rw [decide_eq_false_iff_not]; exact c3
  have c3'' : decide (40 < on) = false := by rw [decide_eq_false_iff_not]; omega
  by_cases c4 : 400 < (kn : Int)
  · have e := hide (show ¬ NOk N from fun q => by have := (UN.out.1 q).1.2.2.2; omega)
    go_wp2_with fail
    go_ret
    exact ⟨by rw [decide_eq_false e.out]; rfl, BL.out⟩
  have c4' : decide (400 < (kn : Int)) = false := by rw [decide_eq_false_iff_not]; exact c4
  have c4'' : decide (400 < kn) = false := by rw [decide_eq_false_iff_not]; omega
  have bd1 : sn ≤ 200 := by omega
  have bd2 : i ≤ 40 := by omega
  have bd3 : on ≤ 40 := by omega
  have bd4 : kn ≤ 400 := by omega
  clear c1 c2 c3 c4
  have CI := hide (l4WithinN B ia i icap ID sn W1 H2.out l2)
  have CO' := hide (l4WithinN B oa on ocap OD sn W1 H5.out l7)
  by_cases d1 : WI i ID sn
  case neg =>
    have e := hide (show ¬ NOk N from fun q => d1 (UN.out.1 q).2.1.1)
    rw [show wi i ID sn = false from decide_eq_false d1] at CI
    clear d1
    go_wp2_with fail
    refine CI.out.mono ?_
    rintro e1 w1 ⟨rfl, rfl⟩
    go_wp2_with fail
    go_ret
    exact ⟨by rw [decide_eq_false e.out]; rfl, BL.out⟩
  rw [show wi i ID sn = true from decide_eq_true d1] at CI
  by_cases d2 : WI on OD sn
  case neg =>
    have e := hide (show ¬ NOk N from fun q => d2 (UN.out.1 q).2.1.2)
    rw [show wi on OD sn = false from decide_eq_false d2] at CO'
    clear d1 d2
    go_wp2_with fail
    refine CI.out.mono ?_
    rintro e1 w1 ⟨rfl, rfl⟩
    go_wp2_with fail
    refine CO'.out.mono ?_
    rintro e1 w1 ⟨rfl, rfl⟩
    go_wp2_with fail
    go_ret
    exact ⟨by rw [decide_eq_false e.out]; rfl, BL.out⟩
  rw [show wi on OD sn = true from decide_eq_true d2] at CO'
  have D1 := hide d1
  have D2 := hide d2
  clear d1 d2
  go_wp2_with fail
  refine CI.out.mono ?_
  rintro e1 w1 ⟨rfl, rfl⟩
  go_wp2_with fail
  refine CO'.out.mono ?_
  rintro e1 w1 ⟨rfl, hw⟩
  have hw := hw.symm
  subst hw
  clear CI CO'
  go_wp2_with fail
  go_loopw [3] (fun t wx => ∃ j : Nat, j ≤ sn ∧ t = .int .i64 j ∧ (∀ m, m < j → 0 ≤ SD m ∧ SD m ≤ 4096) ∧ wx = w1) (fun t _ => sn - (intOf t).toNat)
  case atStart => exact ⟨0, Nat.zero_le _, rfl, fun m hm => by omega, rfl⟩
  case round =>
    obtain ⟨j, hj, rfl, hs, rfl⟩ := hrel
    have HT := hide hs
    clear hs
    by_cases hlt : j < sn
    case pos =>
      have jI : (j : Int) < sn := by omega
      rcases H1.out with q0 | ⟨sb, so, rfl, hsb, hsc⟩
      · omega
      have cs := (hsc j hlt).1
      obtain ⟨S, hS⟩ : ∃ S, SD j = S := ⟨_, rfl⟩
      rw [hS] at cs
      have ES := hide hS
      clear hS hsc
      by_cases s0 : S < 0
      · have e := hide (show ¬ NOk N from fun q => by have q1 := (UN.out.1 q).2.2.1 j hlt; rw [ES.out] at q1; omega)
        go_wp2_with fail
        go_ret
        exact ⟨by rw [decide_eq_false e.out]; rfl, BL.out⟩
      have s0' : decide (S < 0) = false := by rw [decide_eq_false_iff_not]; exact s0
      by_cases s1 : 4096 < S
      · have e := hide (show ¬ NOk N from fun q => by have q1 := (UN.out.1 q).2.2.1 j hlt; rw [ES.out] at q1; omega)
        clear s0
        go_wp2_with fail
        go_ret
        exact ⟨by rw [decide_eq_false e.out]; rfl, BL.out⟩
      have s1' : decide (4096 < S) = false := by rw [decide_eq_false_iff_not]; exact s1
      have A1 := hide (show ∀ m, m < j + 1 → 0 ≤ SD m ∧ SD m ≤ 4096 from fun m hm => by
        by_cases c : m = j
        · rw [c, ES.out]; omega
        · exact HT.out m (by omega))
      clear s0 s1
      go_wp2_with fail
      go_roundw
      all_goals first
        | (simp only [intOf]; omega)
        | (simp [intOf]; omega)
        | exact ⟨j + 1, by omega, by go_num, A1.out, trivial⟩
    case neg =>
      obtain rfl : j = sn := by omega
      obtain ⟨Z, rfl⟩ : ∃ Z, Z = wr := ⟨_, rfl⟩
      have SZ := hide (show SzOk j SD from ⟨bd1, HT.out⟩)
      have W0 := hide (show Below Z.heap.size Z (Z.alloc (.cells #[] 3)) from (Below.refl _ _).alloc (Nat.le_refl _) _)
      have R0 := hide (show RowV Z.heap.size (Z.alloc (.cells #[] 3)) (.slice (some ⟨Z.heap.size, 0, none⟩) 0 0) 0 G from ⟨⟨rfl, .inr ⟨Z.heap.size, 0, #[], rfl, Nat.le_refl _, heap_alloc_new Z _, Nat.le_refl _, by simp [maxLen], rfl, rfl⟩⟩, fun m hm => by omega⟩)
      have IDB := hide (fun m (hm : m < i) => H2.out.bd m hm)
      clear hW1
      go_wp2_with fail
      clear p0 p1 p2 p3 p4
      go_loopw [4, 5] (fun g t wx => ∃ (m : Nat) (a : Option Addr) (c : Nat), m ≤ i ∧ t = .int .i64 m ∧ g = .slice a m c ∧ RowV Z.heap.size wx (.slice a m c) m G ∧ (∀ q, q < m → hasB q G (ID q) = false) ∧ Below Z.heap.size Z wx) (fun _ t _ => i - (intOf t).toNat)
      case atStart => exact ⟨0, _, _, Nat.zero_le _, rfl, rfl, R0.out, fun q hq => by omega, W0.out⟩
      case round =>
        obtain ⟨X, rfl⟩ : ∃ X, X = wr := ⟨_, rfl⟩
        obtain ⟨m, a, c, hm, rfl, rfl, hrv, hf, hby⟩ := hrel
        have RV := hide hrv
        have HF := hide hf
        have HBY := hide hby
        have BX := hide (BL.out.trans (hby.mono BL.out.size))
        have zX := hby.size
        obtain ⟨p0, p1, p2, p3, p4⟩ := C1.out.below hby z1
        clear hrv hf hby
        by_cases hlt : m < i
        case pos =>
          have mI : (m : Int) < i := by omega
          rcases H2.out.below (HBY.out.mono hB1) with q0 | ⟨ib, io, rfl, hib, hic⟩
          · omega
          have ci := (hic m hlt).1
          have eG : ID m = G m := by rw [GV.out m, if_pos hlt]
          have bG : bd (G m) := by rw [← eG]; exact IDB.out m hlt
          rw [eG] at ci
          obtain ⟨av, cv, hav, hO⟩ := RowV.own RV.out
          cases hav
          have CH := hide (l7HasN X.heap.size a m c G (G m) X hO.ints (by omega))
          have EG := hide eG
          have BG := hide bG
          clear hic eG bG hO
          cases hh : hasB m G (G m) with
          | true =>
            have e := hide (show ¬ NOk N from fun q => by have q1 := (UN.out.1 q).2.2.2.1 m hlt; rw [EG.out, hh] at q1; cases q1)
            rw [hh] at CH
            clear hh
            go_wp2_with fail
            refine CH.out.mono ?_
            rintro e1 X2 ⟨rfl, hX⟩
            have hX := hX.symm
            subst hX
            go_wp2_with fail
            go_ret
            exact ⟨by rw [decide_eq_false e.out]; rfl, BX.out⟩
          | false =>
            have e := hide (show ∀ q, q < m + 1 → hasB q G (ID q) = false from fun q hq => by
              by_cases cq : q = m
              · rw [cq, EG.out]; exact hh
              · exact HF.out q (by omega))
            rw [hh] at CH
            clear hh
            go_wp2_with fail
            refine CH.out.mono ?_
            rintro e1 X2 ⟨rfl, hX⟩
            have hX := hX.symm
            subst hX
            go_wp2_with (at_builtin; refine wpList_append_own _ rfl _ _ 22 rfl Z.heap.size 3 i0 (.int .i64 0) 1 8 Try.underlying22 hi0 hz0 hz1 hz2 rfl (by decide) _ _ _ rfl (RV.out.1.alloc _) ⟨X.heap.size, 0, none⟩ 1 1 [.int .i64 (G m)] rfl rfl (World.news_of_block (cs := #[.int .i64 (G m)]) (t := 3) (fr := (0, 0)) (heap_alloc_new X _)) (by simp [Value.oneCell']) (by unfold maxLen; omega) (by omega) (by simp; omega) ?_; intro v' X3 hown1 hgrow1 _)
            go_roundw
            case rel =>
              rw [ints_succ] at hown1
              have rv : RowV Z.heap.size X3 v' (m + 1) G := ⟨hown1, fun q hq => by
                by_cases cq : q = m
                · rw [cq]; exact BG.out
                · exact RV.out.2 q (by omega)⟩
              obtain ⟨a', c', rfl, _⟩ := RowV.own rv
              exact ⟨m + 1, a', c', by omega, by go_num, rfl, rv, e.out, grow_kept RV.out _ hgrow1.os hgrow1.tape hgrow1.output hgrow1.size (fun b hb hn => hgrow1.block b hb (fun q => hn q.symm)) HBY.out zX⟩
            case measure => simp [intOf]; omega
        case neg =>
          obtain rfl : m = i := by omega
          have HI := hide HF.out
          go_wp2_with fail
          clear p0 p1 p2 p3 p4
          go_loopw [4, 6] (fun g t wx => ∃ (f : Nat) (a : Option Addr) (c : Nat), f ≤ fn ∧ t = .int .i64 f ∧ g = .slice a (m + f) c ∧ RowV Z.heap.size wx (.slice a (m + f) c) (m + f) G ∧ (∀ q, q < f → FxOk N q) ∧ Below Z.heap.size Z wx) (fun _ t _ => fn - (intOf t).toNat)
          case atStart => exact ⟨0, a, c, Nat.zero_le _, rfl, rfl, RV.out, fun q hq => by omega, HBY.out⟩
          case round =>
            clear RV HF HBY BX zX
            obtain ⟨Y, rfl⟩ : ∃ Y, Y = wr := ⟨_, rfl⟩
            obtain ⟨f, a, c, hf, rfl, rfl, hrv, hfx, hby⟩ := hrel
            have RV := hide hrv
            have HF := hide hfx
            have HBY := hide hby
            have BX := hide (BL.out.trans (hby.mono BL.out.size))
            have zY := hby.size
            obtain ⟨p0, p1, p2, p3, p4⟩ := C1.out.below hby z1
            clear hrv hfx hby
            obtain ⟨av, cv, hav, hO⟩ := RowV.own RV.out
            cases hav
            have OI := hide hO.ints
            clear hO
            by_cases hlt : f < fn
            case pos =>
              have fI : (f : Int) < fn := by omega
              rcases H3.out.below (HBY.out.mono hB1) with q0 | ⟨fb, fo, rfl, hfb, hfc⟩
              · omega
              obtain ⟨d0, d1, fi, ub⟩ := hfc f hlt
              have fxf := FX.out f
              have fr := L4.out f hlt
              obtain ⟨⟨u, fa', r, fcap', FD⟩, hF⟩ : ∃ x, FF f = x := ⟨_, rfl⟩
              have gu : G (m + f) = u := by rw [GV.out (m + f), if_neg (by omega), show m + f - m = f by omega, hF]
              rw [hF] at d0 d1 fi ub fxf fr
              dsimp only at d0 d1 fi ub fxf fr
              have FXF := hide fxf
              have GU := hide gu
              have CH := hide (fun (q1 : Nat) (os : Array Obj) => show Calls Try.prog 46 #[.slice a (m + f) c, .int .i64 u] (Sort.grow (redrawn Y q1) os) (fun e w'' => e = .returned (.bool (hasB (m + f) G u)) ∧ ∃ p : Regrown, w'' = Sort.grow (redrawn Y p.d) p.os) from Calls.regrown_of ((l7HasN Y.heap.size a (m + f) c G u (Sort.grow (redrawn Y q1) os) (OI.out.below (below_regrown Y q1 os)) (by omega)).mono (by rintro e1 w1 ⟨rfl, rfl⟩; exact ⟨rfl, Below.refl _ _⟩)))
              have CR := hide (fun (q1 : Nat) (os : Array Obj) => show Calls Try.prog 47 #[.slice fa' r fcap'] (Sort.grow (redrawn Y q1) os) (fun e w'' => e = .returned (.bool (rwN r FD)) ∧ ∃ p : Regrown, w'' = Sort.grow (redrawn Y p.d) p.os) from Calls.regrown_of ((l5RowN B fa' r fcap' FD (Sort.grow (redrawn Y q1) os) (fi.below ((below_regrown Y q1 os).mono (Nat.le_trans hB1 zY))) fr).mono (by rintro e1 w1 ⟨rfl, rfl⟩; exact ⟨rfl, Below.refl _ _⟩)))
              clear hfc hF fi gu fxf
              have k0 := cell_regrown p0
              have k1 := cell_regrown p1
              have k2 := cell_regrown p2
              have k3 := cell_regrown d0
              have k4 := cell_regrown d1
              by_cases u0 : u < 0
              · have e := hide (show ¬ NOk N from fun q => by have q1 := (FXF.out.1 ((UN.out.1 q).2.2.2.2.1 f hlt)).1.1; omega)
                go_wp2_with fail
                refine wp_region_quiet_below (by kernel_rfl) (by kernel_rfl) ?_
                repeat (go_big_quiet_step (first | (go_at_call 46; exact CH.out _ _) | (go_at_call 47; exact CR.out _ _)))
                refine wpQuiet_nil ?_
                intro _ hw'
                obtain ⟨⟨dq, osq⟩, hw''⟩ := hw'
                subst hw''
                go_wp2_with fail
                go_ret
                exact ⟨by rw [decide_eq_false e.out]; rfl, BX.out.trans ((below_regrown Y dq osq).mono BX.out.size)⟩
              have u0' : decide (u < 0) = false := by rw [decide_eq_false_iff_not]; exact u0
              by_cases v1 : (j : Int) ≤ u
              · have e := hide (show ¬ NOk N from fun q => by have q1 := (FXF.out.1 ((UN.out.1 q).2.2.2.2.1 f hlt)).1.2; omega)
                clear u0
                go_wp2_with fail
                refine wp_region_quiet_below (by kernel_rfl) (by kernel_rfl) ?_
                repeat (go_big_quiet_step (first | (go_at_call 46; exact CH.out _ _) | (go_at_call 47; exact CR.out _ _)))
                refine wpQuiet_nil ?_
                intro _ hw'
                obtain ⟨⟨dq, osq⟩, hw''⟩ := hw'
                subst hw''
                go_wp2_with fail
                go_ret
                exact ⟨by rw [decide_eq_false e.out]; rfl, BX.out.trans ((below_regrown Y dq osq).mono BX.out.size)⟩
              have v1' : decide ((j : Int) ≤ u) = false := by rw [decide_eq_false_iff_not]; exact v1
              obtain ⟨n, rfl⟩ : ∃ n : Nat, u = n := ⟨u.toNat, by omega⟩
              have nlt : n < j := by omega
              have v2' : decide (j ≤ n) = false := by rw [decide_eq_false_iff_not]; omega
              clear u0 v1
              cases hh : hasB (m + f) G (n : Int) with
              | true =>
                have e := hide (show ¬ NOk N from fun q => by have q1 := (FXF.out.1 ((UN.out.1 q).2.2.2.2.1 f hlt)).2.1; rw [hh] at q1; cases q1)
                rw [hh] at CH
                clear hh
                go_wp2_with fail
                refine wp_region_quiet_below (by kernel_rfl) (by kernel_rfl) ?_
                repeat (go_big_quiet_step (first | (go_at_call 46; exact CH.out _ _) | (go_at_call 47; exact CR.out _ _)))
                refine wpQuiet_nil ?_
                intro _ hw'
                obtain ⟨⟨dq, osq⟩, hw''⟩ := hw'
                subst hw''
                go_wp2_with fail
                go_ret
                exact ⟨by rw [decide_eq_false e.out]; rfl, BX.out.trans ((below_regrown Y dq osq).mono BX.out.size)⟩
              | false =>
                rw [hh] at CH
                have HH := hide hh
                clear hh
                rcases H1.out.below (HBY.out.mono hB1) with z0 | ⟨sb, so, rfl, hsb, hsc⟩
                · omega
                have cs := (hsc n nlt).1
                have sr := SZ.out.2 n nlt
                obtain ⟨S, hS⟩ : ∃ S, SD n = S := ⟨_, rfl⟩
                rw [hS] at cs sr
                have ES := hide hS
                have k5 := cell_regrown cs
                clear hS hsc
                by_cases r0 : (r : Int) = S
                case neg =>
                  have e := hide (show ¬ NOk N from fun q => by have q1 := (FXF.out.1 ((UN.out.1 q).2.2.2.2.1 f hlt)).2.2.1; rw [Int.toNat_natCast, ES.out] at q1; exact r0 q1)
                  have r0' : ((r : Int) != S) = true := by simp; omega
                  clear r0
                  go_wp2_with fail
                  refine wp_region_quiet_below (by kernel_rfl) (by kernel_rfl) ?_
                  repeat (go_big_quiet_step (first | (go_at_call 46; exact CH.out _ _) | (go_at_call 47; exact CR.out _ _)))
                  refine wpQuiet_nil ?_
                  intro _ hw'
                  obtain ⟨⟨dq, osq⟩, hw''⟩ := hw'
                  subst hw''
                  go_wp2_with fail
                  go_ret
                  exact ⟨by rw [decide_eq_false e.out]; rfl, BX.out.trans ((below_regrown Y dq osq).mono BX.out.size)⟩
                have r0' : ((r : Int) != S) = false := by simp; omega
                have ER := hide r0
                have r4 : r ≤ 4096 := by omega
                clear r0
                by_cases r1 : (0 : Int) < r
                · have r1' : decide (0 < r) = true := decide_eq_true (by omega)
                  cases hr : rwN r FD with
                  | false =>
                    have e := hide (show ¬ NOk N from fun q => by have q1 := (FXF.out.1 ((UN.out.1 q).2.2.2.2.1 f hlt)).2.2.2; exact (of_decide_eq_false hr) ⟨by omega, r4, q1⟩)
                    rw [hr] at CR
                    clear hr
                    go_wp2_with fail
                    refine wp_region_quiet_below (by kernel_rfl) (by kernel_rfl) ?_
                    repeat (go_big_quiet_step (first | (go_at_call 46; exact CH.out _ _) | (go_at_call 47; exact CR.out _ _)))
                    refine wpQuiet_nil ?_
                    intro _ hw'
                    obtain ⟨⟨dq, osq⟩, hw''⟩ := hw'
                    subst hw''
                    go_wp2_with fail
                    go_ret
                    exact ⟨by rw [decide_eq_false e.out]; rfl, BX.out.trans ((below_regrown Y dq osq).mono BX.out.size)⟩
                  | true =>
                    have e := hide (show ∀ q, q < f + 1 → FxOk N q from fun q hq => by
                      by_cases cq : q = f
                      · rw [cq]; exact FXF.out.2 ⟨⟨by omega, by omega⟩, HH.out, by rw [Int.toNat_natCast, ES.out]; exact ER.out, (of_decide_eq_true hr).2.2⟩
                      · exact HF.out q (by omega))
                    rw [hr] at CR
                    clear hr
                    go_wp2_with fail
                    refine wp_region_quiet_below (by kernel_rfl) (by kernel_rfl) ?_
                    repeat (go_big_quiet_step (first | (go_at_call 46; exact CH.out _ _) | (go_at_call 47; exact CR.out _ _)))
                    refine wpQuiet_nil ?_
                    intro _ hw'
                    obtain ⟨⟨dq, osq⟩, hw''⟩ := hw'
                    subst hw''
                    have by1 := below_regrown Y dq osq
                    have RY := hide (show RowV Z.heap.size (Sort.grow (redrawn Y dq) osq) (.slice a (m + f) c) (m + f) G from rowv_below RV.out by1)
                    have BY := hide (HBY.out.trans (by1.mono HBY.out.size))
                    clear by1 k0 k1 k2 k3 k4 p0 p1 p2 p3 p4 d0 d1
                    generalize Sort.grow (redrawn Y dq) osq = Y2 at *
                    have zY2 := BY.out.size
                    go_wp2_with (at_builtin; refine wpList_append_own _ rfl _ _ 22 rfl Z.heap.size 3 i0 (.int .i64 0) 1 8 Try.underlying22 hi0 hz0 hz1 hz2 rfl (by decide) _ _ _ rfl (RY.out.1.alloc _) ⟨Y2.heap.size, 0, none⟩ 1 1 [.int .i64 (n : Int)] rfl rfl (World.news_of_block (cs := #[.int .i64 (n : Int)]) (t := 3) (fr := (0, 0)) (heap_alloc_new Y2 _)) (by simp [Value.oneCell']) (by unfold maxLen; omega) (by omega) (by simp; omega) ?_; intro v' X3 hown1 hgrow1 _)
                    go_roundw
                    case rel =>
                      rw [← GU.out, ints_succ] at hown1
                      have rv : RowV Z.heap.size X3 v' (m + f + 1) G := ⟨hown1, fun q hq => by
                        by_cases cq : q = m + f
                        · rw [cq, GU.out]; unfold bd; omega
                        · exact RY.out.2 q (by omega)⟩
                      obtain ⟨a', c', rfl, _⟩ := RowV.own rv
                      exact ⟨f + 1, a', c', by omega, by go_num, rfl, rv, e.out, grow_kept RY.out _ hgrow1.os hgrow1.tape hgrow1.output hgrow1.size (fun b hb hn => hgrow1.block b hb (fun q => hn q.symm)) BY.out BY.out.size⟩
                    case measure => simp [intOf]; omega
                · have r1' : decide ((0 : Int) < r) = false := by rw [decide_eq_false_iff_not]; exact r1
                  have r2' : decide (0 < r) = false := by rw [decide_eq_false_iff_not]; omega
                  have e := hide (show ∀ q, q < f + 1 → FxOk N q from fun q hq => by
                    by_cases cq : q = f
                    · rw [cq]; exact FXF.out.2 ⟨⟨by omega, by omega⟩, HH.out, by rw [Int.toNat_natCast, ES.out]; exact ER.out, fun t ht => by omega⟩
                    · exact HF.out q (by omega))
                  clear r1
                  go_wp2_with fail
                  refine wp_region_quiet_below (by kernel_rfl) (by kernel_rfl) ?_
                  repeat (go_big_quiet_step (first | (go_at_call 46; exact CH.out _ _) | (go_at_call 47; exact CR.out _ _)))
                  refine wpQuiet_nil ?_
                  intro _ hw'
                  obtain ⟨⟨dq, osq⟩, hw''⟩ := hw'
                  subst hw''
                  have by1 := below_regrown Y dq osq
                  have RY := hide (show RowV Z.heap.size (Sort.grow (redrawn Y dq) osq) (.slice a (m + f) c) (m + f) G from rowv_below RV.out by1)
                  have BY := hide (HBY.out.trans (by1.mono HBY.out.size))
                  clear by1 k0 k1 k2 k3 k4 p0 p1 p2 p3 p4 d0 d1
                  generalize Sort.grow (redrawn Y dq) osq = Y2 at *
                  have zY2 := BY.out.size
                  go_wp2_with (at_builtin; refine wpList_append_own _ rfl _ _ 22 rfl Z.heap.size 3 i0 (.int .i64 0) 1 8 Try.underlying22 hi0 hz0 hz1 hz2 rfl (by decide) _ _ _ rfl (RY.out.1.alloc _) ⟨Y2.heap.size, 0, none⟩ 1 1 [.int .i64 (n : Int)] rfl rfl (World.news_of_block (cs := #[.int .i64 (n : Int)]) (t := 3) (fr := (0, 0)) (heap_alloc_new Y2 _)) (by simp [Value.oneCell']) (by unfold maxLen; omega) (by omega) (by simp; omega) ?_; intro v' X3 hown1 hgrow1 _)
                  go_roundw
                  case rel =>
                    rw [← GU.out, ints_succ] at hown1
                    have rv : RowV Z.heap.size X3 v' (m + f + 1) G := ⟨hown1, fun q hq => by
                      by_cases cq : q = m + f
                      · rw [cq, GU.out]; unfold bd; omega
                      · exact RY.out.2 q (by omega)⟩
                    obtain ⟨a', c', rfl, _⟩ := RowV.own rv
                    exact ⟨f + 1, a', c', by omega, by go_num, rfl, rv, e.out, grow_kept RY.out _ hgrow1.os hgrow1.tape hgrow1.output hgrow1.size (fun b hb hn => hgrow1.block b hb (fun q => hn q.symm)) BY.out BY.out.size⟩
                  case measure => simp [intOf]; omega
            case neg =>
              obtain rfl : f = fn := by omega
              go_wp2_with fail
              clear p0 p1 p2 p3 p4
              go_loopw [8, 9] (fun x t wx => ∃ (k : Nat) (y : Int), k ≤ kn ∧ t = .int .i64 k ∧ x = .int .i64 y ∧ y = psum KK k ∧ (∀ q, q < k → KOk (KK q) j SD ∧ hasB (m + f) G (KK q).st.u = false) ∧ Below Y.heap.size Y wx) (fun _ t _ => kn - (intOf t).toNat)
              case atStart => exact ⟨0, 0, Nat.zero_le _, rfl, rfl, rfl, fun q hq => by omega, Below.refl _ _⟩
              case round =>
                obtain ⟨X5, rfl⟩ : ∃ X5, X5 = wr := ⟨_, rfl⟩
                obtain ⟨k, y, hk, rfl, rfl, hy, hks, hby⟩ := hrel
                have pr := psum_rng KK k
                have y0 : 0 ≤ y := by omega
                have y1 : y ≤ 26214400 := by omega
                have EY := hide hy
                have KS := hide hks
                have BY5 := hide hby
                have HB5 := hide (HBY.out.trans (hby.mono HBY.out.size))
                have BX := hide (BL.out.trans (HB5.out.mono BL.out.size))
                have z5 := HB5.out.size
                obtain ⟨p0, p1, p2, p3, p4⟩ := C1.out.below HB5.out z1
                clear hy hks hby pr
                by_cases hlt : k < kn
                case pos =>
                  have kI : (k : Int) < kn := by omega
                  rcases H4.out.below (HB5.out.mono hB1) with q0 | ⟨kb, ko, rfl, hkb, hkc⟩
                  · omega
                  obtain ⟨⟨c0, c1, c2, c3, c4, c5, c6⟩, rd⟩ := hkc k hlt
                  have CK := hide (fun (q1 : Nat) (os : Array Obj) => show Calls Try.prog 48 #[(KK k).val, .slice sa j scap] (Sort.grow (redrawn X5 q1) os) (fun e w'' => e = .returned (.bool (decide (KOk (KK k) j SD))) ∧ ∃ p : Regrown, w'' = Sort.grow (redrawn X5 p.d) p.os) from Calls.regrown_of (l11Kernel B (KK k) sa j scap SD (Sort.grow (redrawn X5 q1) os) (Nat.le_trans (Nat.le_trans hB1 z5) (below_regrown X5 q1 os).size) (rd.below ((below_regrown X5 q1 os).mono (Nat.le_trans hB1 z5))) (H1.out.below ((HB5.out.trans ((below_regrown X5 q1 os).mono z5)).mono hB1)) (L6.out k hlt) SZ.out))
                  unfold KV.val at CK
                  have CH := hide (fun (q1 : Nat) (os : Array Obj) => show Calls Try.prog 46 #[.slice a (m + f) c, .int .i64 (KK k).st.u] (Sort.grow (redrawn X5 q1) os) (fun e w'' => e = .returned (.bool (hasB (m + f) G (KK k).st.u)) ∧ ∃ p : Regrown, w'' = Sort.grow (redrawn X5 p.d) p.os) from Calls.regrown_of ((l7HasN Y.heap.size a (m + f) c G (KK k).st.u (Sort.grow (redrawn X5 q1) os) (OI.out.below (BY5.out.trans ((below_regrown X5 q1 os).mono BY5.out.size))) (by omega)).mono (by rintro e1 w1 ⟨rfl, rfl⟩; exact ⟨rfl, Below.refl _ _⟩)))
                  have CP := hide (fun (W : World) (hW : Below X5.heap.size X5 W) => l11Product B (KK k).la (KK k).lr (KK k).lcap (KK k).LD W (rd.1.below (hW.mono (Nat.le_trans hB1 z5))) (L6.out k hlt).1)
                  have k0 := cell_regrown p0
                  have k3 := cell_regrown p3
                  have e0 := cell_regrown c0
                  have e1 := cell_regrown c1
                  have e2 := cell_regrown c2
                  have e3 := cell_regrown c3
                  have e4 := cell_regrown c4
                  have e5 := cell_regrown c5
                  have e6 := cell_regrown c6
                  clear hkc rd
                  by_cases d3 : KOk (KK k) j SD
                  case neg =>
                    have e := hide (show ¬ NOk N from fun q => d3 ((UN.out.1 q).2.2.2.2.2.1 k hlt).1)
                    rw [decide_eq_false d3] at CK
                    clear d3
                    go_wp2_with fail
                    refine wp_region_quiet_below (by kernel_rfl) (by kernel_rfl) ?_
                    repeat (go_big_quiet_step (first | (go_at_call 48; exact CK.out _ _) | (go_at_call 46; exact CH.out _ _)))
                    refine wpQuiet_nil ?_
                    intro _ hw'
                    obtain ⟨⟨dq, osq⟩, hw''⟩ := hw'
                    subst hw''
                    go_wp2_with fail
                    go_ret
                    exact ⟨by rw [decide_eq_false e.out]; rfl, BX.out.trans ((below_regrown X5 dq osq).mono BX.out.size)⟩
                  rw [decide_eq_true d3] at CK
                  cases hh : hasB (m + f) G (KK k).st.u with
                  | true =>
                    have e := hide (show ¬ NOk N from fun q => by have q1 := ((UN.out.1 q).2.2.2.2.2.1 k hlt).2; rw [hh] at q1; cases q1)
                    rw [hh] at CH
                    clear hh d3
                    go_wp2_with fail
                    refine wp_region_quiet_below (by kernel_rfl) (by kernel_rfl) ?_
                    repeat (go_big_quiet_step (first | (go_at_call 48; exact CK.out _ _) | (go_at_call 46; exact CH.out _ _)))
                    refine wpQuiet_nil ?_
                    intro _ hw'
                    obtain ⟨⟨dq, osq⟩, hw''⟩ := hw'
                    subst hw''
                    go_wp2_with fail
                    go_ret
                    exact ⟨by rw [decide_eq_false e.out]; rfl, BX.out.trans ((below_regrown X5 dq osq).mono BX.out.size)⟩
                  | false =>
                    have e := hide (show ∀ q, q < k + 1 → KOk (KK q) j SD ∧ hasB (m + f) G (KK q).st.u = false from fun q hq => by
                      by_cases cq : q = k
                      · rw [cq]; exact ⟨d3, hh⟩
                      · exact KS.out q (by omega))
                    rw [hh] at CH
                    clear hh d3
                    go_wp2_with fail
                    refine wp_region_quiet_below (by kernel_rfl) (by kernel_rfl) ?_
                    repeat (go_big_quiet_step (first | (go_at_call 48; exact CK.out _ _) | (go_at_call 46; exact CH.out _ _)))
                    refine wpQuiet_nil ?_
                    intro _ hw'
                    obtain ⟨⟨dq, osq⟩, hw''⟩ := hw'
                    subst hw''
                    have by1 := below_regrown X5 dq osq
                    have q0 := k0 dq osq
                    have q3 := k3 dq osq
                    have g0 := e0 dq osq
                    have CP1 := hide (CP.out _ by1)
                    have B6 := hide (BY5.out.trans (by1.mono BY5.out.size))
                    clear by1 k0 k3 e0 e1 e2 e3 e4 e5 e6 p0 p1 p2 p3 p4 c0 c1 c2 c3 c4 c5 c6 CK CH CP
                    generalize Sort.grow (redrawn X5 dq) osq = X6 at *
                    have prg := pd_rng (KK k).LD (KK k).lr
                    have ep := hide (show psum KK (k + 1) = psum KK k + pd (KK k).LD (KK k).lr from rfl)
                    obtain ⟨r, hr⟩ : ∃ r, pd (KK k).LD (KK k).lr = r := ⟨_, rfl⟩
                    rw [hr] at CP1 prg ep
                    have ex := hide (show y + r = psum KK (k + 1) by rw [ep.out, ← EY.out])
                    have wy : IntKind.i64.wrap (y + r) = y + r := by rw [IntKind.wrap_i64]; omega
                    clear hr ep
                    go_wp2_with fail
                    refine CP1.out.mono ?_
                    rintro e1 X7 ⟨rfl, hX⟩
                    have hX := hX.symm
                    subst hX
                    go_wp2_with fail
                    go_roundw
                    all_goals first
                      | (simp only [intOf]; omega)
                      | (simp [intOf]; omega)
                      | exact ⟨k + 1, y + r, by omega, by go_num, rfl, ex.out, e.out, B6.out⟩
                case neg =>
                  obtain rfl : k = kn := by omega
                  by_cases t0 : y ≤ 1000000
                  · have e := hide (show NOk N from UN.out.2 ⟨⟨bd1, bd2, bd3, bd4⟩, ⟨D1.out, D2.out⟩, SZ.out.2, HI.out, HF.out, KS.out, by rw [← EY.out]; exact t0⟩)
                    go_wp2_with fail
                    go_ret
                    exact ⟨by rw [decide_eq_true e.out]; rfl, BX.out⟩
                  · have e := hide (show ¬ NOk N from fun q => by have q1 := (UN.out.1 q).2.2.2.2.2.2; rw [← EY.out] at q1; exact t0 q1)
                    have t0' : decide (y ≤ 1000000) = false := by rw [decide_eq_false_iff_not]; exact t0
                    clear t0
                    go_wp2_with fail
                    go_ret
                    exact ⟨by rw [decide_eq_false e.out]; rfl, BX.out⟩
end Vo
end Go.Proofs.Ytgmjijjckedmcaa
