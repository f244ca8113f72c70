/- Lives: what is asked of them; packed ones. -/
import Derived.Test.YtbdcbanbnbaoiaaMa
import Derived.Test.YtbdcbanbnbaoiaaTb
import Derived.Lib.QuietBelow
import Derived.BigQuiet
namespace Go.Proofs.Ytbdcbanbnbaoiaa
namespace Vo
open Go.ChangeShapes Go.WideShapes Go.ChangeAt Go.RowKit Go.Joins Go.Sort
open Vl Vp
set_option linter.unusedVariables false
set_option linter.unusedSimpArgs false
/-- a life that can be -/
def MOk (x : MV) : Prop := (1 ≤ x.s ∧ x.s ≤ 4096) ∧ 0 ≤ x.f ∧ x.f ≤ x.t ∧ x.t ≤ 400
instance (x : MV) : Decidable (MOk x) := by unfold MOk; infer_instance
/-- lives that can be packed -/
def LOk (n : Nat) (C : Nat → MV) : Prop := n ≤ 200 ∧ ∀ i, i < n → MOk (C i)
instance (n : Nat) (C : Nat → MV) : Decidable (LOk n C) := by unfold LOk; infer_instance
def meet (x y : MV) : Prop := x.f ≤ y.t ∧ y.f ≤ x.t
instance (x y : MV) : Decidable (meet x y) := by unfold meet; infer_instance
/-- two rooms have a place in common -/
def lap (a s b t : Int) : Prop := a < b + t ∧ b < a + s
instance (a s b t : Int) : Decidable (lap a s b t) := by unfold lap; infer_instance
/-- offsets that can be -/
def POk (n : Nat) (C : Nat → MV) (r : Nat) (O : Nat → Int) : Prop := r = n ∧ LOk n C ∧ WI r O 1000001 ∧ ∀ i, i < n → ∀ k, k < i → ¬ (meet (C i) (C k) ∧ lap (O i) (C i).s (O k) (C k).s)
instance (n : Nat) (C : Nat → MV) (r : Nat) (O : Nat → Int) : Decidable (POk n C r O) := by unfold POk; infer_instance
theorem mcells (w : World) (a b c d : Value) (t : TypeId) : (w.alloc (.cells #[a, b, c, d] t)).cell? ⟨w.heap.size, 0, none⟩ = some a ∧ (w.alloc (.cells #[a, b, c, d] t)).cell? ⟨w.heap.size, 1, none⟩ = some b ∧ (w.alloc (.cells #[a, b, c, d] t)).cell? ⟨w.heap.size, 2, none⟩ = some c ∧ (w.alloc (.cells #[a, b, c, d] t)).cell? ⟨w.heap.size, 3, none⟩ = some d := by simp [go_sem]
set_option maxHeartbeats 1000000 in
theorem meetsF (x y : MV) (w : World) : Calls Try.prog 15 #[.agg #[.int .i64 x.b, .int .i64 x.s, .int .i64 x.f, .int .i64 x.t], .agg #[.int .i64 y.b, .int .i64 y.s, .int .i64 y.f, .int .i64 y.t]] w fun e w' => e = .returned (.bool (decide (meet x y))) ∧ Below w.heap.size w w' := by
  have B0 := hide (show Below w.heap.size w ((w.alloc (.cells #[.int .i64 x.b, .int .i64 x.s, .int .i64 x.f, .int .i64 x.t] 31)).alloc (.cells #[.int .i64 y.b, .int .i64 y.s, .int .i64 y.f, .int .i64 y.t] 31)) from ((Below.refl _ _).alloc (Nat.le_refl _) _).alloc (by simp) _)
  go_enter Try.func15, Try.ntmps15
  by_cases c : x.f ≤ y.t
  · have e := hide (show decide (y.f ≤ x.t) = decide (meet x y) from decide_eq_decide.2 ⟨fun q => ⟨c, q⟩, fun q => q.2⟩)
    go_wp2_with fail
    go_ret
    exact ⟨by rw [← e.out]; rfl, B0.out⟩
  · have e := hide (show ¬ meet x y from fun q => c q.1)
    have c' : decide (x.f ≤ y.t) = false := by rw [decide_eq_false_iff_not]; exact c
    clear c
    go_wp2_with fail
    go_ret
    exact ⟨by rw [decide_eq_false e.out]; rfl, B0.out⟩
set_option maxHeartbeats 1000000 in
theorem specMeet (x y : MV) (w : World) : Calls Try.prog 40 #[.agg #[.int .i64 x.b, .int .i64 x.s, .int .i64 x.f, .int .i64 x.t], .agg #[.int .i64 y.b, .int .i64 y.s, .int .i64 y.f, .int .i64 y.t]] w fun e w' => e = .returned (.bool (decide (meet x y))) ∧ Below w.heap.size w w' := by
  have B0 := hide (show Below w.heap.size w ((w.alloc (.cells #[.int .i64 x.b, .int .i64 x.s, .int .i64 x.f, .int .i64 x.t] 31)).alloc (.cells #[.int .i64 y.b, .int .i64 y.s, .int .i64 y.f, .int .i64 y.t] 31)) from ((Below.refl _ _).alloc (Nat.le_refl _) _).alloc (by simp) _)
  go_enter Try.func40, Try.ntmps40
  by_cases c : x.f ≤ y.t
  · have e := hide (show decide (y.f ≤ x.t) = decide (meet x y) from decide_eq_decide.2 ⟨fun q => ⟨c, q⟩, fun q => q.2⟩)
    go_wp2_with fail
    go_ret
    exact ⟨by rw [← e.out]; rfl, B0.out⟩
  · have e := hide (show ¬ meet x y from fun q => c q.1)
    have c' : decide (x.f ≤ y.t) = false := by rw [decide_eq_false_iff_not]; exact c
    clear c
    go_wp2_with fail
    go_ret
    exact ⟨by rw [decide_eq_false e.out]; rfl, B0.out⟩
set_option maxHeartbeats 1000000 in
theorem roomAtF (x : MV) (o : Int) (w : World) (ho : 0 ≤ o ∧ o < 1000001) (hs : MOk x) : Calls Try.prog 16 #[.agg #[.int .i64 x.b, .int .i64 x.s, .int .i64 x.f, .int .i64 x.t], .int .i64 o] w fun e w' => e = .returned (.agg #[.int .i64 o, .int .i64 (o + x.s)]) ∧ Below w.heap.size w w' := by
  have wo : IntKind.i64.wrap (o + x.s) = o + x.s := by have := hs.1; rw [IntKind.wrap_i64]; omega
  go_enter Try.func16, Try.ntmps16
  go_wp2_with fail
  refine bodyPost_ret (v := .agg #[.int .i64 o, .int .i64 (o + x.s)]) (by simp [results, Try.results16, go_sem]) rfl ⟨rfl, ?_⟩
  repeat (refine Below.setCell ?_ (by simp; try omega) _)
  exact ((Below.refl _ _).alloc (Nat.le_refl _) _).alloc (by simp) _
set_option maxHeartbeats 1000000 in
theorem overlapsF (a s b t : Int) (w : World) : Calls Try.prog 24 #[.agg #[.int .i64 a, .int .i64 (a + s)], .agg #[.int .i64 b, .int .i64 (b + t)]] w fun e w' => e = .returned (.bool (decide (lap a s b t))) ∧ Below w.heap.size w w' := by
  have B0 := hide (show Below w.heap.size w ((w.alloc (.cells #[.int .i64 a, .int .i64 (a + s)] 40)).alloc (.cells #[.int .i64 b, .int .i64 (b + t)] 40)) from ((Below.refl _ _).alloc (Nat.le_refl _) _).alloc (by simp) _)
  obtain ⟨ae, has⟩ : ∃ z, a + s = z := ⟨_, rfl⟩
  obtain ⟨bt, hbt⟩ : ∃ z, b + t = z := ⟨_, rfl⟩
  have U := hide (show lap a s b t ↔ (a < bt ∧ b < ae) by rw [← has, ← hbt]; exact Iff.rfl)
  rw [has, hbt] at B0 ⊢
  clear has hbt
  go_enter Try.func24, Try.ntmps24
  by_cases c : a < bt
  · have e := hide (show decide (b < ae) = decide (lap a s b t) from decide_eq_decide.2 ⟨fun q => U.out.2 ⟨c, q⟩, fun q => (U.out.1 q).2⟩)
    go_wp2_with fail
    go_ret
    exact ⟨by rw [← e.out]; rfl, B0.out⟩
  · have e := hide (show ¬ lap a s b t from fun q => c (U.out.1 q).1)
    have c' : decide (a < bt) = false := by rw [decide_eq_false_iff_not]; exact c
    clear c
    go_wp2_with fail
    go_ret
    exact ⟨by rw [decide_eq_false e.out]; rfl, B0.out⟩
set_option maxHeartbeats 2000000 in
theorem fitWrong (x : MV) (w : World) : Calls Try.prog 29 #[.agg #[.int .i64 x.b, .int .i64 x.s, .int .i64 x.f, .int .i64 x.t]] w fun e w' => e = .returned (.bool (!decide (MOk x))) ∧ Below w.heap.size w w' := by
  have B0 := hide (show Below w.heap.size w (w.alloc (.cells #[.int .i64 x.b, .int .i64 x.s, .int .i64 x.f, .int .i64 x.t] 31)) from (Below.refl _ _).alloc (Nat.le_refl _) _)
  go_enter Try.func29, Try.ntmps29
  by_cases c0 : x.s < 1
  · have e := hide (show ¬ MOk x from fun q => by have := q.1; omega)
    go_wp2_with fail
    go_ret
    exact ⟨by rw [decide_eq_false e.out]; rfl, B0.out⟩
  have c0' : decide (x.s < 1) = false := by rw [decide_eq_false_iff_not]; exact c0
  by_cases c1 : 4096 < x.s
  · have e := hide (show ¬ MOk x from fun q => by have := q.1; omega)
    go_wp2_with fail
    go_ret
    exact ⟨by rw [decide_eq_false e.out]; rfl, B0.out⟩
  have c1' : decide (4096 < x.s) = false := by rw [decide_eq_false_iff_not]; exact c1
  by_cases c2 : x.f < 0
  · have e := hide (show ¬ MOk x from fun q => by have := q.2.1; omega)
    go_wp2_with fail
    go_ret
    exact ⟨by rw [decide_eq_false e.out]; rfl, B0.out⟩
  have c2' : decide (x.f < 0) = false := by rw [decide_eq_false_iff_not]; exact c2
  by_cases c3 : x.t < x.f
  · have e := hide (show ¬ MOk x from fun q => by have := q.2.2.1; omega)
    go_wp2_with fail
    go_ret
    exact ⟨by rw [decide_eq_false e.out]; rfl, B0.out⟩
  have c3' : decide (x.t < x.f) = false := by rw [decide_eq_false_iff_not]; exact c3
  by_cases c4 : 400 < x.t
  · have e := hide (show ¬ MOk x from fun q => by have := q.2.2.2; omega)
    go_wp2_with fail
    go_ret
    exact ⟨by rw [decide_eq_false e.out]; rfl, B0.out⟩
  have c4' : decide (400 < x.t) = false := by rw [decide_eq_false_iff_not]; exact c4
  have e := hide (show MOk x from ⟨by omega, by omega, by omega, by omega⟩)
  clear c0 c1 c2 c3 c4
  go_wp2_with fail
  go_ret
  exact ⟨by rw [decide_eq_true e.out]; rfl, B0.out⟩
set_option maxHeartbeats 1000000 in
theorem indexM (B : Nat) (a : Option Addr) (n cap : Nat) (C : Nat → MV) (w : World) (hB : B ≤ w.heap.size) (h : LM B w a n C) (hn : (n : Int) ≤ 1048576) :
    Calls Try.prog 44 #[.slice a n cap, .func (.func 29) #[] #[]] w fun e w' => ∃ i, e = .returned (.int .i64 i) ∧ decide (0 ≤ i) = !(decide (∀ i, i < n → MOk (C i))) ∧ Below w.heap.size w w' := by
  have H := hide h
  clear h
  go_enter Try.func44, Try.ntmps44
  go_wp2_with fail
  go_loopw [8] (fun i wx => ∃ k : Nat, k ≤ n ∧ i = .int .i64 k ∧ (∀ j, j < k → MOk (C j)) ∧ Below w.heap.size w wx) (fun i _ => n - (intOf i).toNat)
  case atStart => exact ⟨0, Nat.zero_le _, rfl, fun j hj => by omega, Below.refl _ _⟩
  case round =>
    obtain ⟨X, rfl⟩ : ∃ X, X = wr := ⟨_, rfl⟩
    obtain ⟨k, hk, rfl, hall, hby⟩ := hrel
    have HA := hide hall
    have HBY := hide hby
    clear hall hby
    by_cases hlt : k < n
    · rcases H.out.below (HBY.out.mono hB) with h0 | ⟨b, off, rfl, hbB, hc⟩
      · omega
      obtain ⟨⟨c0, c1, c2, c3⟩, _⟩ := hc k hlt
      have kI : (k : Int) < n := by omega
      have CW := hide (fitWrong (C k) X)
      clear hc
      by_cases hq : MOk (C k)
      · rw [decide_eq_true hq] at CW
        have f := hide (show ∀ j, j < k + 1 → MOk (C j) from fun j hj => by
          by_cases ej : j = k
          · rw [ej]; exact hq
          · exact HA.out j (by omega))
        clear hq
        go_wp2_with fail
        refine CW.out.mono ?_
        rintro e1 w1 ⟨rfl, b1⟩
        have B1 := hide (HBY.out.trans (b1.mono HBY.out.size))
        go_wp2_with fail
        go_roundw
        case rel => exact ⟨k + 1, by omega, by go_num, f.out, B1.out⟩
        case measure => simp [intOf]; omega
      · rw [decide_eq_false hq] at CW
        have f := hide (show decide ((0 : Int) ≤ (k : Int)) = !(decide (∀ i, i < n → MOk (C i))) by
          rw [decide_eq_false (p := ∀ i, i < n → MOk (C i)) (fun q => hq (q k hlt))]
          simp)
        clear hq
        go_wp2_with fail
        refine CW.out.mono ?_
        rintro e1 w1 ⟨rfl, b1⟩
        have B1 := hide (HBY.out.trans (b1.mono HBY.out.size))
        go_wp2_with fail
        go_ret
        exact ⟨_, rfl, f.out, B1.out⟩
    · obtain rfl : k = n := by omega
      have f := hide (show decide (∀ i, i < k → MOk (C i)) = true from decide_eq_true HA.out)
      go_wp2_with fail
      go_ret
      exact ⟨_, rfl, by rw [f.out]; rfl, HBY.out⟩
theorem containsM (B : Nat) (a : Option Addr) (n cap : Nat) (C : Nat → MV) (w : World) (hB : B ≤ w.heap.size) (h : LM B w a n C) (hn : (n : Int) ≤ 1048576) :
    Calls Try.prog 30 #[.slice a n cap, .func (.func 29) #[] #[]] w fun e w' => e = .returned (.bool (!(decide (∀ i, i < n → MOk (C i))))) ∧ Below w.heap.size w w' := by
  have CI := hide (indexM B a n cap C w hB h hn)
  clear h
  go_enter Try.func30, Try.ntmps30
  go_wp2_with fail
  refine CI.out.mono ?_
  rintro e1 w1 ⟨i, rfl, hi, b1⟩
  have HI := hide hi
  have B1 := hide b1
  clear hi b1
  go_wp2_with fail
  go_ret
  exact ⟨by rw [HI.out]; rfl, B1.out⟩
set_option maxHeartbeats 1000000 in
theorem livesFitF (B : Nat) (a : Option Addr) (n cap : Nat) (C : Nat → MV) (w : World) (hB : B ≤ w.heap.size) (h : LM B w a n C) (hn : (n : Int) ≤ 1048576) :
    Calls Try.prog 12 #[.slice a n cap] w fun e w' => e = .returned (.bool (decide (LOk n C))) ∧ Below w.heap.size w w' := by
  have CI := hide (containsM B a n cap C w hB h hn)
  clear h
  go_enter Try.func12, Try.ntmps12
  by_cases c : (n : Int) ≤ 200
  · have c'' : decide (n ≤ 200) = true := decide_eq_true (by omega)
    have e := hide (show decide (∀ i, i < n → MOk (C i)) = decide (LOk n C) from decide_eq_decide.2 ⟨fun q => ⟨by omega, q⟩, fun q => q.2⟩)
    rw [e.out] at CI
    go_wp2_with fail
    refine CI.out.mono ?_
    rintro e1 w1 ⟨rfl, b1⟩
    have B1 := hide b1
    clear b1
    go_wp2_with fail
    go_ret
    exact ⟨by simp, B1.out⟩
  · have e := hide (show ¬ LOk n C from fun q => by have := q.1; omega)
    have c' : decide ((n : Int) ≤ 200) = false := by rw [decide_eq_false_iff_not]; exact c
    have c'' : decide (n ≤ 200) = false := by rw [decide_eq_false_iff_not]; omega
    clear c
    go_wp2_with fail
    go_ret
    exact ⟨by rw [decide_eq_false e.out]; rfl, Below.refl _ _⟩
set_option maxHeartbeats 2000000 in
theorem specLivesOk (B : Nat) (a : Option Addr) (n cap : Nat) (C : Nat → MV) (w : World) (hB : B ≤ w.heap.size) (h : LM B w a n C) (hn : (n : Int) ≤ 1048576) :
    Calls Try.prog 20 #[.slice a n cap] w fun e w' => e = .returned (.bool (decide (LOk n C))) ∧ Below w.heap.size w w' := by
  have H := hide h
  clear h
  go_enter Try.func20, Try.ntmps20
  by_cases c : 200 < (n : Int)
  · have e := hide (show ¬ LOk n C from fun q => by have := q.1; omega)
    have c'' : decide (200 < n) = true := decide_eq_true (by omega)
    go_wp2_with fail
    go_ret
    exact ⟨by rw [decide_eq_false e.out]; rfl, Below.refl _ _⟩
  have c' : decide (200 < (n : Int)) = false := by rw [decide_eq_false_iff_not]; exact c
  have c'' : decide (200 < n) = false := by rw [decide_eq_false_iff_not]; omega
  have ub : n ≤ 200 := by omega
  clear c
  go_wp2_with fail
  clear c' c''
  go_loopw [3] (fun i wx => ∃ k : Nat, k ≤ n ∧ i = .int .i64 k ∧ (∀ j, j < k → MOk (C j)) ∧ Below w.heap.size w wx) (fun i _ => n - (intOf i).toNat)
  case atStart => exact ⟨0, Nat.zero_le _, rfl, fun j hj => by omega, Below.refl _ _⟩
  case round =>
    obtain ⟨X, rfl⟩ : ∃ X, X = wr := ⟨_, rfl⟩
    obtain ⟨k, hk, rfl, hall, hby⟩ := hrel
    have HA := hide hall
    have HBY := hide hby
    clear hall hby
    by_cases hlt : k < n
    · rcases H.out.below (HBY.out.mono hB) with h0 | ⟨b, off, rfl, hbB, hc⟩
      · omega
      obtain ⟨⟨c0, c1, c2, c3⟩, _⟩ := hc k hlt
      have kI : (k : Int) < n := by omega
      clear hc
      obtain ⟨x, hx⟩ : ∃ x, C k = x := ⟨_, rfl⟩
      rw [hx] at c0 c1 c2 c3
      have EX := hide hx
      clear hx
      have B1 := hide (show Below w.heap.size w (X.alloc (.cells #[.int .i64 x.b, .int .i64 x.s, .int .i64 x.f, .int .i64 x.t] 31)) from HBY.out.alloc HBY.out.size _)
      have m := mcells X (.int .i64 x.b) (.int .i64 x.s) (.int .i64 x.f) (.int .i64 x.t) 31
      obtain ⟨Y, hY⟩ : ∃ Y, X.alloc (.cells #[.int .i64 x.b, .int .i64 x.s, .int .i64 x.f, .int .i64 x.t] 31) = Y := ⟨_, rfl⟩
      rw [hY] at B1 m
      obtain ⟨m0, m1, m2, m3⟩ := m
      by_cases t0 : x.s < 1
      · have e := hide (show ¬ LOk n C from fun q0 => by have q := q0.2 k hlt; rw [EX.out] at q; have := q.1; omega)
        go_wp2_with fail
        go_ret
        exact ⟨by rw [decide_eq_false e.out]; rfl, B1.out⟩
      have t0' : decide (x.s < 1) = false := by rw [decide_eq_false_iff_not]; exact t0
      by_cases t1 : 4096 < x.s
      · have e := hide (show ¬ LOk n C from fun q0 => by have q := q0.2 k hlt; rw [EX.out] at q; have := q.1; omega)
        go_wp2_with fail
        go_ret
        exact ⟨by rw [decide_eq_false e.out]; rfl, B1.out⟩
      have t1' : decide (4096 < x.s) = false := by rw [decide_eq_false_iff_not]; exact t1
      by_cases t2 : x.f < 0
      · have e := hide (show ¬ LOk n C from fun q0 => by have q := q0.2 k hlt; rw [EX.out] at q; have := q.2.1; omega)
        go_wp2_with fail
        go_ret
        exact ⟨by rw [decide_eq_false e.out]; rfl, B1.out⟩
      have t2' : decide (x.f < 0) = false := by rw [decide_eq_false_iff_not]; exact t2
      by_cases t3 : x.t < x.f
      · have e := hide (show ¬ LOk n C from fun q0 => by have q := q0.2 k hlt; rw [EX.out] at q; have := q.2.2.1; omega)
        go_wp2_with fail
        go_ret
        exact ⟨by rw [decide_eq_false e.out]; rfl, B1.out⟩
      have t3' : decide (x.t < x.f) = false := by rw [decide_eq_false_iff_not]; exact t3
      by_cases t4 : 400 < x.t
      · have e := hide (show ¬ LOk n C from fun q0 => by have q := q0.2 k hlt; rw [EX.out] at q; have := q.2.2.2; omega)
        go_wp2_with fail
        go_ret
        exact ⟨by rw [decide_eq_false e.out]; rfl, B1.out⟩
      have t4' : decide (400 < x.t) = false := by rw [decide_eq_false_iff_not]; exact t4
      have f := hide (show ∀ j, j < k + 1 → MOk (C j) from fun j hj => by
        by_cases ej : j = k
        · rw [ej, EX.out]; exact ⟨by omega, by omega, by omega, by omega⟩
        · exact HA.out j (by omega))
      clear t0 t1 t2 t3 t4
      go_wp2_with fail
      go_roundw
      all_goals first | (simp only [intOf]; omega) | (simp [intOf]; omega) | exact ⟨k + 1, by omega, by go_num, f.out, B1.out⟩
    · obtain rfl : k = n := by omega
      have e := hide (show LOk k C from ⟨ub, HA.out⟩)
      go_wp2_with fail
      go_ret
      exact ⟨by rw [decide_eq_true e.out]; rfl, HBY.out⟩
end Vo
end Go.Proofs.Ytbdcbanbnbaoiaa
