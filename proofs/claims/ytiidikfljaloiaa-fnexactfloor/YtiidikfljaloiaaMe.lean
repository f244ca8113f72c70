/- Floor: what is alive at one time, in the program and in the model. -/
import Derived.Test.YtiidikfljaloiaaMb
namespace Go.Proofs.Ytiidikfljaloiaa
namespace Vo
open Go.ChangeShapes Go.WideShapes Go.ChangeAt Go.RowKit Go.Joins Go.Sort
open Vl Vp
set_option linter.unusedVariables false
set_option linter.unusedSimpArgs false
def alive (x : MV) (t : Int) : Prop := x.f ≤ t ∧ t ≤ x.t
instance (x : MV) (t : Int) : Decidable (alive x t) := by unfold alive; infer_instance
/-- how much of the first n is alive -/
def al (C : Nat → MV) (t : Int) : Nat → Int | 0 => 0 | n + 1 => if alive (C n) t then al C t n + (C n).s else al C t n
def up (a b : Int) : Int := if a < b then b else a
/-- the most at the beginnings of the first m -/
def mxF (C : Nat → MV) (n : Nat) : Nat → Int | 0 => 0 | m + 1 => up (mxF C n m) (al C (C m).f n)
/-- the most at the numbers below m -/
def mxT (C : Nat → MV) (n : Nat) : Nat → Int | 0 => 0 | m + 1 => up (mxT C n m) (al C (m : Int) n)
def FL (n : Nat) (C : Nat → MV) : Int := if LOk n C then mxT C n 401 else 0
theorem up_ge (a b : Int) : a ≤ up a b ∧ b ≤ up a b := by unfold up; split <;> omega
theorem up_le {a b c : Int} (h1 : a ≤ c) (h2 : b ≤ c) : up a b ≤ c := by unfold up; split <;> omega
theorem al_rng {C : Nat → MV} {t : Int} : ∀ (n : Nat), (∀ i, i < n → MOk (C i)) → 0 ≤ al C t n ∧ al C t n ≤ 4096 * (n : Int)
  | 0, _ => by unfold al; omega
  | n + 1, h => by
    have q := al_rng n (fun i hi => h i (by omega)) (t := t)
    have s := (h n (by omega)).1
    unfold al
    split <;> omega
theorem al_le {C : Nat → MV} {t t' : Int} : ∀ (n : Nat), (∀ i, i < n → MOk (C i)) → (∀ i, i < n → alive (C i) t → alive (C i) t') → al C t n ≤ al C t' n
  | 0, _, _ => by unfold al; omega
  | n + 1, h, g => by
    have q := al_le n (fun i hi => h i (by omega)) (fun i hi => g i (by omega)) (t := t) (t' := t')
    have s := (h n (by omega)).1
    have gn := g n (by omega)
    unfold al
    by_cases c : alive (C n) t
    · rw [if_pos c, if_pos (gn c)]; omega
    · rw [if_neg c]; split <;> omega
theorem al_last {C : Nat → MV} {t : Int} : ∀ (n : Nat), (∀ i, i < n → ¬ alive (C i) t) ∨ ∃ i, i < n ∧ alive (C i) t ∧ ∀ j, j < n → alive (C j) t → (C j).f ≤ (C i).f
  | 0 => .inl fun i hi => by omega
  | n + 1 => by
    by_cases c : alive (C n) t
    · rcases al_last n (C := C) (t := t) with h | ⟨i, hi, ha, hm⟩
      · exact .inr ⟨n, by omega, c, fun j hj hja => by
          by_cases e : j = n
          · rw [e]; omega
          · exact absurd hja (h j (by omega))⟩
      · by_cases d : (C i).f ≤ (C n).f
        · exact .inr ⟨n, by omega, c, fun j hj hja => by
            by_cases e : j = n
            · rw [e]; omega
            · have := hm j (by omega) hja; omega⟩
        · exact .inr ⟨i, by omega, ha, fun j hj hja => by
            by_cases e : j = n
            · rw [e]; omega
            · exact hm j (by omega) hja⟩
    · rcases al_last n (C := C) (t := t) with h | ⟨i, hi, ha, hm⟩
      · exact .inl fun j hj => by
          by_cases e : j = n
          · rw [e]; exact c
          · exact h j (by omega)
      · exact .inr ⟨i, by omega, ha, fun j hj hja => by
          by_cases e : j = n
          · rw [e] at hja; exact absurd hja c
          · exact hm j (by omega) hja⟩
theorem al_none {C : Nat → MV} {t : Int} : ∀ (n : Nat), (∀ i, i < n → ¬ alive (C i) t) → al C t n = 0
  | 0, _ => rfl
  | n + 1, h => by
    unfold al
    rw [if_neg (h n (by omega))]
    exact al_none n (fun i hi => h i (by omega))
theorem mxF_ge {C : Nat → MV} {n : Nat} : ∀ (m i : Nat), i < m → al C (C i).f n ≤ mxF C n m
  | 0, i, h => by omega
  | m + 1, i, h => by
    have q := up_ge (mxF C n m) (al C (C m).f n)
    show _ ≤ up (mxF C n m) (al C (C m).f n)
    by_cases e : i = m
    · rw [e]; exact q.2
    · exact Int.le_trans (mxF_ge m i (by omega)) q.1
theorem mxF_0 {C : Nat → MV} {n : Nat} : ∀ (m : Nat), 0 ≤ mxF C n m
  | 0 => by unfold mxF; omega
  | m + 1 => Int.le_trans (mxF_0 m) (up_ge _ _).1
theorem mxF_le {C : Nat → MV} {n : Nat} {c : Int} (h0 : 0 ≤ c) : ∀ (m : Nat), (∀ i, i < m → al C (C i).f n ≤ c) → mxF C n m ≤ c
  | 0, _ => h0
  | m + 1, h => up_le (mxF_le h0 m (fun i hi => h i (by omega))) (h m (by omega))
theorem mxT_ge {C : Nat → MV} {n : Nat} : ∀ (m i : Nat), i < m → al C (i : Int) n ≤ mxT C n m
  | 0, i, h => by omega
  | m + 1, i, h => by
    have q := up_ge (mxT C n m) (al C (m : Int) n)
    show _ ≤ up (mxT C n m) (al C (m : Int) n)
    by_cases e : i = m
    · rw [e]; exact q.2
    · exact Int.le_trans (mxT_ge m i (by omega)) q.1
theorem mxT_0 {C : Nat → MV} {n : Nat} : ∀ (m : Nat), 0 ≤ mxT C n m
  | 0 => by unfold mxT; omega
  | m + 1 => Int.le_trans (mxT_0 m) (up_ge _ _).1
theorem mxT_le {C : Nat → MV} {n : Nat} {c : Int} (h0 : 0 ≤ c) : ∀ (m : Nat), (∀ i, i < m → al C (i : Int) n ≤ c) → mxT C n m ≤ c
  | 0, _ => h0
  | m + 1, h => up_le (mxT_le h0 m (fun i hi => h i (by omega))) (h m (by omega))
theorem mx_same {C : Nat → MV} {n : Nat} (h : LOk n C) : mxF C n n = mxT C n 401 := by
  refine Int.le_antisymm (mxF_le (mxT_0 _) n fun i hi => ?_) (mxT_le (mxF_0 _) 401 fun t ht => ?_)
  · have m := h.2 i hi
    obtain ⟨k, hk⟩ : ∃ k : Nat, (C i).f = k := ⟨(C i).f.toNat, by have := m.2.1; omega⟩
    have := mxT_ge (C := C) (n := n) 401 k (by have := m.2.2; omega)
    rw [hk]
    exact this
  · rcases al_last n (C := C) (t := (t : Int)) with q | ⟨i, hi, ha, hm⟩
    · rw [al_none n q]; exact mxF_0 n
    · refine Int.le_trans (al_le n h.2 (fun j hj hja => ?_)) (mxF_ge n i hi)
      have e1 := hm j hj hja
      have e2 := ha.1
      have e3 := hja.2
      exact ⟨e1, by omega⟩
theorem mxF_rng {C : Nat → MV} {n : Nat} (h : LOk n C) (m : Nat) (hm : m ≤ n) : 0 ≤ mxF C n m ∧ mxF C n m ≤ 819200 :=
  ⟨mxF_0 m, mxF_le (by omega) m fun i hi => by have := (al_rng n h.2 (t := (C i).f)).2; have := h.1; omega⟩
theorem mxT_rng {C : Nat → MV} {n : Nat} (h : LOk n C) (m : Nat) : 0 ≤ mxT C n m ∧ mxT C n m ≤ 819200 :=
  ⟨mxT_0 m, mxT_le (by omega) m fun i hi => by have := (al_rng n h.2 (t := (i : Int))).2; have := h.1; omega⟩
theorem fl_same {n : Nat} {C U : Nat → MV} (h : ∀ i, i < n → U i = C i) : FL n U = FL n C := by
  have al_s : ∀ (t : Int) (m : Nat), m ≤ n → al U t m = al C t m := by
    intro t m
    induction m with
    | zero => intro _; rfl
    | succ m ih => intro hm; unfold al; rw [ih (by omega), h m (by omega)]
  have mx_s : ∀ m, mxT U n m = mxT C n m := by
    intro m
    induction m with
    | zero => rfl
    | succ m ih => unfold mxT; rw [ih, al_s _ n (Nat.le_refl _)]
  have lo : LOk n U ↔ LOk n C := ⟨fun q => ⟨q.1, fun i hi => by rw [← h i hi]; exact q.2 i hi⟩, fun q => ⟨q.1, fun i hi => by rw [h i hi]; exact q.2 i hi⟩⟩
  unfold FL
  by_cases c : LOk n C
  · rw [if_pos c, if_pos (lo.2 c), mx_s]
  · rw [if_neg c, if_neg (fun q => c (lo.1 q))]
set_option maxHeartbeats 2000000 in
theorem aliveAtF (B : Nat) (a : Option Addr) (n cap : Nat) (C : Nat → MV) (t : Int) (w : World) (hB : B ≤ w.heap.size) (h : LM B w a n C) (hL : LOk n C) :
    Calls Try.prog 23 #[.slice a n cap, .int .i64 t] w fun e w' => e = .returned (.int .i64 (al C t n)) ∧ Below w.heap.size w w' := by
  have H := hide h
  have HL := hide hL
  have n200 : (n : Int) ≤ 200 := by have := hL.1; omega
  clear h hL
  go_enter Try.func23, Try.ntmps23
  go_wp2_with fail
  go_loopw [5, 10] (fun v i wx => ∃ (k : Nat) (s : Int), k ≤ n ∧ i = .int .i64 k ∧ v = .int .i64 s ∧ s = al C t k ∧ Below w.heap.size w wx) (fun _ i _ => n - (intOf i).toNat)
  case atStart => exact ⟨0, 0, Nat.zero_le _, rfl, rfl, rfl, Below.refl _ _⟩
  case round =>
    obtain ⟨Z, rfl⟩ : ∃ Z, Z = wr := ⟨_, rfl⟩
    obtain ⟨k, s, hk, rfl, rfl, hs, hby⟩ := hrel
    have sr := al_rng k (fun i hi => HL.out.2 i (by omega)) (C := C) (t := t)
    rw [← hs] at sr
    have HS := hide hs
    have HBY := hide hby
    clear hs hby
    by_cases hlt : k < n
    case neg =>
      obtain rfl : k = n := by omega
      go_wp2_with fail
      go_ret
      exact ⟨by rw [← HS.out]; rfl, HBY.out⟩
    have kI : (k : Int) < n := by omega
    rcases H.out.below (HBY.out.mono hB) with h0 | ⟨b, off, rfl, hbB, hc⟩
    · omega
    obtain ⟨⟨c0, c1, c2, c3⟩, _⟩ := hc k hlt
    clear hc
    obtain ⟨x, hx⟩ : ∃ x, C k = x := ⟨_, rfl⟩
    rw [hx] at c0 c1 c2 c3
    have xs := (HL.out.2 k hlt).1
    rw [hx] at xs
    have AL := hide (show al C t (k + 1) = if alive x t then s + x.s else s by rw [← hx, HS.out]; rfl)
    clear hx
    obtain ⟨Y, hY⟩ : ∃ Y, Z.alloc (.cells #[.int .i64 x.b, .int .i64 x.s, .int .i64 x.f, .int .i64 x.t] 37) = Y := ⟨_, rfl⟩
    have BY := hide (show Below w.heap.size w Y by rw [← hY]; exact HBY.out.alloc HBY.out.size _)
    have m := mcells Z (.int .i64 x.b) (.int .i64 x.s) (.int .i64 x.f) (.int .i64 x.t) 37
    rw [hY] at m
    obtain ⟨m0, m1, m2, m3⟩ := m
    by_cases t0 : x.f ≤ t
    case neg =>
      have t0' : decide (x.f ≤ t) = false := by rw [decide_eq_false_iff_not]; exact t0
      have e := hide (show s = al C t (k + 1) by rw [AL.out, if_neg (fun q => t0 q.1)])
      clear t0
      go_wp2_with fail
      go_roundw
      all_goals first
        | (simp only [intOf]; omega)
        | (simp [intOf]; omega)
        | exact ⟨k + 1, s, by omega, by go_num, rfl, e.out, BY.out⟩
    by_cases t1 : t ≤ x.t
    case neg =>
      have t1' : decide (t ≤ x.t) = false := by rw [decide_eq_false_iff_not]; exact t1
      have e := hide (show s = al C t (k + 1) by rw [AL.out, if_neg (fun q => t1 q.2)])
      clear t1
      go_wp2_with fail
      go_roundw
      all_goals first
        | (simp only [intOf]; omega)
        | (simp [intOf]; omega)
        | exact ⟨k + 1, s, by omega, by go_num, rfl, e.out, BY.out⟩
    have e := hide (show s + x.s = al C t (k + 1) by rw [AL.out, if_pos ⟨t0, t1⟩])
    have ws : IntKind.i64.wrap (s + x.s) = s + x.s := by rw [IntKind.wrap_i64]; omega
    go_wp2_with fail
    go_roundw
    all_goals first
      | (simp only [intOf]; omega)
      | (simp [intOf]; omega)
      | exact ⟨k + 1, s + x.s, by omega, by go_num, rfl, e.out, BY.out⟩
set_option maxHeartbeats 2000000 in
theorem floorF (B : Nat) (a : Option Addr) (n cap : Nat) (C : Nat → MV) (w : World) (hB : B ≤ w.heap.size) (h : LM B w a n C) (hn : (n : Int) ≤ 1048576) :
    Calls Try.prog 13 #[.slice a n cap] w fun e w' => e = .returned (.int .i64 (FL n C)) ∧ Below w.heap.size w w' := by
  have H := hide h
  have CL := hide (livesFitF B a n cap C w hB h hn)
  clear h
  go_enter Try.func13, Try.ntmps13
  by_cases d2 : LOk n C
  case neg =>
    have e := hide (show FL n C = 0 from if_neg d2)
    rw [decide_eq_false d2] at CL
    clear d2
    go_wp2_with fail
    refine CL.out.mono ?_
    rintro e1 w2 ⟨rfl, b2⟩
    have B2 := hide b2
    go_wp2_with fail
    go_ret
    exact ⟨by rw [e.out]; rfl, B2.out⟩
  rw [decide_eq_true d2] at CL
  have HL := hide d2
  have e := hide (show FL n C = mxF C n n by rw [mx_same d2]; exact if_pos d2)
  clear d2
  go_wp2_with fail
  refine CL.out.mono ?_
  rintro e1 w1 ⟨rfl, b1⟩
  have B1 := hide b1
  clear CL b1
  go_wp2_with fail
  go_loopw [3, 11] (fun v i wx => ∃ (k : Nat) (s : Int), k ≤ n ∧ i = .int .i64 k ∧ v = .int .i64 s ∧ s = mxF C n k ∧ Below w.heap.size w wx) (fun _ i _ => n - (intOf i).toNat)
  case atStart => exact ⟨0, 0, Nat.zero_le _, rfl, rfl, rfl, B1.out⟩
  case round =>
    obtain ⟨Z, rfl⟩ : ∃ Z, Z = wr := ⟨_, rfl⟩
    obtain ⟨k, s, hk, rfl, rfl, hs, hby⟩ := hrel
    have HS := hide hs
    have HBY := hide hby
    clear hs hby
    by_cases hlt : k < n
    case neg =>
      obtain rfl : k = n := by omega
      go_wp2_with fail
      go_ret
      exact ⟨by rw [e.out, ← HS.out]; rfl, HBY.out⟩
    have kI : (k : Int) < n := by omega
    have HZ := hide (H.out.below (HBY.out.mono hB))
    rcases HZ.out with h0 | ⟨b, off, rfl, hbB, hc⟩
    · omega
    obtain ⟨⟨c0, c1, c2, c3⟩, _⟩ := hc k hlt
    clear hc
    obtain ⟨x, hx⟩ : ∃ x, C k = x := ⟨_, rfl⟩
    rw [hx] at c0 c1 c2 c3
    obtain ⟨Y, hY⟩ : ∃ Y, Z.alloc (.cells #[.int .i64 x.b, .int .i64 x.s, .int .i64 x.f, .int .i64 x.t] 37) = Y := ⟨_, rfl⟩
    have bY : Below Z.heap.size Z Y := by rw [← hY]; exact (Below.refl _ _).alloc (Nat.le_refl _) _
    have BY := hide (HBY.out.trans (bY.mono HBY.out.size))
    have m := mcells Z (.int .i64 x.b) (.int .i64 x.s) (.int .i64 x.f) (.int .i64 x.t) 37
    rw [hY] at m
    obtain ⟨m0, m1, m2, m3⟩ := m
    have CA := hide (aliveAtF B (some ⟨b, off, none⟩) n cap C x.f Y (Nat.le_trans hB BY.out.size) (H.out.below (BY.out.mono hB)) HL.out)
    obtain ⟨z, hz⟩ : ∃ z, al C x.f n = z := ⟨_, rfl⟩
    rw [hz] at CA
    have e2 := hide (show (if s < z then z else s) = mxF C n (k + 1) by
      show _ = up (mxF C n k) (al C (C k).f n)
      rw [hx, hz, ← HS.out]
      rfl)
    clear hx hz bY
    go_wp2_with fail
    refine CA.out.mono ?_
    rintro e1 Y2 ⟨rfl, b2⟩
    have BZ := hide (BY.out.trans (b2.mono BY.out.size))
    clear b2 c0 c1 c2 c3 m0 m1 m2 m3 hY CA
    go_wp2_with fail
    go_roundw
    all_goals first
      | (simp only [intOf]; omega)
      | (simp [intOf]; omega)
      | exact ⟨k + 1, _, by omega, by go_num, rfl, e2.out, BZ.out⟩
set_option maxRecDepth 100000 in
set_option maxHeartbeats 4000000 in
theorem specFloor (B : Nat) (a : Option Addr) (n cap : Nat) (C : Nat → MV) (w : World) (hB : B ≤ w.heap.size) (h : LM B w a n C) (hn : (n : Int) ≤ 1048576) :
    Calls Try.prog 12 #[.slice a n cap] w fun e w' => e = .returned (.int .i64 (FL n C)) ∧ Below w.heap.size w w' := by
  have H := hide h
  clear h
  go_enter Try.func12, Try.ntmps12
  by_cases d2 : LOk n C
  case neg =>
    have e := hide (show FL n C = 0 from if_neg d2)
    have CL := hide (specLivesOk B a n cap C w hB H.out hn)
    rw [decide_eq_false d2] at CL
    clear d2
    go_wp2_with fail
    go_loopw [3, 4] (fun v i wx => i = .int .i64 0 ∧ v = .int .i64 0 ∧ wx = w) (fun _ _ _ => 0)
    case atStart => exact ⟨rfl, rfl, rfl⟩
    case round =>
      obtain ⟨rfl, rfl, rfl⟩ := hrel
      go_wp2_with fail
      refine CL.out.mono ?_
      rintro e1 w2 ⟨rfl, b2⟩
      have B2 := hide b2
      go_wp2_with fail
      go_ret
      exact ⟨by rw [e.out]; rfl, B2.out⟩
  have HL := hide d2
  have n200 : (n : Int) ≤ 200 := by have := d2.1; omega
  have e := hide (show FL n C = mxT C n 401 from if_pos d2)
  clear d2
  go_wp2_with fail
  go_loopw [3, 4] (fun v i wx => ∃ (t : Nat) (s : Int), t ≤ 401 ∧ i = .int .i64 t ∧ v = .int .i64 s ∧ s = mxT C n t ∧ Below w.heap.size w wx) (fun _ i _ => 401 - (intOf i).toNat)
  case atStart => exact ⟨0, 0, Nat.zero_le _, rfl, rfl, rfl, Below.refl _ _⟩
  case round =>
    obtain ⟨Z, rfl⟩ : ∃ Z, Z = wr := ⟨_, rfl⟩
    obtain ⟨t, s, ht, rfl, rfl, hs, hby⟩ := hrel
    have HS := hide hs
    have HBY := hide hby
    clear hs hby
    by_cases hlt : t ≤ 400
    case neg =>
      obtain rfl : t = 401 := by omega
      go_wp2_with fail
      go_ret
      exact ⟨by rw [e.out, ← HS.out]; rfl, HBY.out⟩
    have tI : (t : Int) ≤ 400 := by omega
    have tI' : decide (t ≤ 400) = true := decide_eq_true hlt
    have CL := hide (specLivesOk B a n cap C Z (Nat.le_trans hB HBY.out.size) (H.out.below (HBY.out.mono hB)) hn)
    rw [decide_eq_true HL.out] at CL
    go_wp2_with fail
    refine CL.out.mono ?_
    rintro e1 Z1 ⟨rfl, b1⟩
    have B1 := hide (HBY.out.trans (b1.mono HBY.out.size))
    clear CL b1 HBY tI'
    go_wp2_with fail
    go_loopw [5, 6] (fun v i wx => ∃ (k : Nat) (q : Int), k ≤ n ∧ i = .int .i64 k ∧ v = .int .i64 q ∧ q = al C (t : Int) k ∧ Below w.heap.size w wx) (fun _ i _ => n - (intOf i).toNat)
    case atStart => exact ⟨0, 0, Nat.zero_le _, rfl, rfl, rfl, B1.out⟩
    case round =>
      obtain ⟨V, rfl⟩ : ∃ V, V = wr := ⟨_, rfl⟩
      obtain ⟨k, q, hk, rfl, rfl, hq, hby⟩ := hrel
      have sr := al_rng k (fun i hi => HL.out.2 i (by omega)) (C := C) (t := (t : Int))
      rw [← hq] at sr
      have HQ := hide hq
      have HBY := hide hby
      clear hq hby
      by_cases hlk : k < n
      case neg =>
        obtain rfl : k = n := by omega
        have MU := hide (show mxT C k (t + 1) = up s q by rw [HS.out, HQ.out]; rfl)
        by_cases g : s < q
        · have e2 := hide (show q = mxT C k (t + 1) by rw [MU.out]; exact (if_pos g).symm)
          go_wp2_with fail
          go_roundw
          all_goals first
            | (simp only [intOf]; omega)
            | (simp [intOf]; omega)
            | exact ⟨t + 1, q, by omega, by go_num, rfl, e2.out, HBY.out⟩
        · have g' : decide (s < q) = false := by rw [decide_eq_false_iff_not]; exact g
          have e2 := hide (show s = mxT C k (t + 1) by rw [MU.out]; exact (if_neg g).symm)
          clear g
          go_wp2_with fail
          go_roundw
          all_goals first
            | (simp only [intOf]; omega)
            | (simp [intOf]; omega)
            | exact ⟨t + 1, s, by omega, by go_num, rfl, e2.out, HBY.out⟩
      have kI : (k : Int) < n := by omega
      rcases H.out.below (HBY.out.mono hB) with h0 | ⟨b, off, rfl, hbB, hc⟩
      · omega
      obtain ⟨⟨c0, c1, c2, c3⟩, _⟩ := hc k hlk
      clear hc
      obtain ⟨x, hx⟩ : ∃ x, C k = x := ⟨_, rfl⟩
      rw [hx] at c0 c1 c2 c3
      have xs := (HL.out.2 k hlk).1
      rw [hx] at xs
      have AL := hide (show al C (t : Int) (k + 1) = if alive x (t : Int) then q + x.s else q by rw [← hx, HQ.out]; rfl)
      clear hx
      by_cases t0 : x.f ≤ (t : Int)
      case neg =>
        have t0' : decide (x.f ≤ (t : Int)) = false := by rw [decide_eq_false_iff_not]; exact t0
        have e2 := hide (show q = al C (t : Int) (k + 1) by rw [AL.out, if_neg (fun z => t0 z.1)])
        clear t0
        go_wp2_with fail
        go_roundw
        all_goals first
          | (simp only [intOf]; omega)
          | (simp [intOf]; omega)
          | exact ⟨k + 1, q, by omega, by go_num, rfl, e2.out, HBY.out⟩
      by_cases t1 : (t : Int) ≤ x.t
      case neg =>
        have t1' : decide ((t : Int) ≤ x.t) = false := by rw [decide_eq_false_iff_not]; exact t1
        have e2 := hide (show q = al C (t : Int) (k + 1) by rw [AL.out, if_neg (fun z => t1 z.2)])
        clear t1
        go_wp2_with fail
        go_roundw
        all_goals first
          | (simp only [intOf]; omega)
          | (simp [intOf]; omega)
          | exact ⟨k + 1, q, by omega, by go_num, rfl, e2.out, HBY.out⟩
      have e2 := hide (show q + x.s = al C (t : Int) (k + 1) by rw [AL.out, if_pos ⟨t0, t1⟩])
      have ws : IntKind.i64.wrap (q + x.s) = q + x.s := by rw [IntKind.wrap_i64]; omega
      go_wp2_with fail
      go_roundw
      all_goals first
        | (simp only [intOf]; omega)
        | (simp [intOf]; omega)
        | exact ⟨k + 1, q + x.s, by omega, by go_num, rfl, e2.out, HBY.out⟩
end Vo
end Go.Proofs.Ytiidikfljaloiaa
