/- Lemmas for the proof of the law. -/
import Derived.Test.YtbdcbanbnbaoiaaMb
import Derived.Test.YtbdcbanbnbaoiaaHi
import Derived.Test.YtbdcbanbnbaoiaaPow
import Derived.Deep.QuietTactic
import Derived.BigQuiet
import Derived.WalkSmall
import Derived.WalkSpells
import Derived.Laws.BitsLemmas
import Derived.Lib.BufferOwn
/- Floor: what is alive at one time, in the program and in the model. -/
namespace Go.Proofs.Ytbdcbanbnbaoiaa
namespace Vo
open Go.ChangeShapes Go.WideShapes Go.ChangeAt Go.RowKit Go.Joins Go.Sort
open Vl Vp
set_option linter.unusedVariables false
set_option linter.unusedSimpArgs false
def alive (x : MV) (t : Int) : Prop := x.f ≤ t ∧ t ≤ x.t
instance (x : MV) (t : Int) : Decidable (alive x t) := by unfold alive; infer_instance
/-- how much of the first n is alive -/
def al (C : Nat → MV) (t : Int) : Nat → Int | 0 => 0 | n + 1 => if alive (C n) t then al C t n + (C n).s else al C t n
def up (a b : Int) : Int := if a < b then b else a
/-- the most at the beginnings of the first m -/
def mxF (C : Nat → MV) (n : Nat) : Nat → Int | 0 => 0 | m + 1 => up (mxF C n m) (al C (C m).f n)
/-- the most at the numbers below m -/
def mxT (C : Nat → MV) (n : Nat) : Nat → Int | 0 => 0 | m + 1 => up (mxT C n m) (al C (m : Int) n)
def FL (n : Nat) (C : Nat → MV) : Int := if LOk n C then mxT C n 401 else 0
theorem up_ge (a b : Int) : a ≤ up a b ∧ b ≤ up a b := by unfold up; split <;> omega
theorem up_le {a b c : Int} (h1 : a ≤ c) (h2 : b ≤ c) : up a b ≤ c := by unfold up; split <;> omega
theorem al_rng {C : Nat → MV} {t : Int} : ∀ (n : Nat), (∀ i, i < n → MOk (C i)) → 0 ≤ al C t n ∧ al C t n ≤ 4096 * (n : Int)
  | 0, _ => by unfold al; omega
  | n + 1, h => by
    have q := al_rng n (fun i hi => h i (by omega)) (t := t)
    have s := (h n (by omega)).1
    unfold al
    split <;> omega
theorem al_le {C : Nat → MV} {t t' : Int} : ∀ (n : Nat), (∀ i, i < n → MOk (C i)) → (∀ i, i < n → alive (C i) t → alive (C i) t') → al C t n ≤ al C t' n
  | 0, _, _ => by unfold al; omega
  | n + 1, h, g => by
    have q := al_le n (fun i hi => h i (by omega)) (fun i hi => g i (by omega)) (t := t) (t' := t')
    have s := (h n (by omega)).1
    have gn := g n (by omega)
    unfold al
    by_cases c : alive (C n) t
    · rw [if_pos c, if_pos (gn c)]; omega
    · rw [if_neg c]; split <;> omega
theorem al_last {C : Nat → MV} {t : Int} : ∀ (n : Nat), (∀ i, i < n → ¬ alive (C i) t) ∨ ∃ i, i < n ∧ alive (C i) t ∧ ∀ j, j < n → alive (C j) t → (C j).f ≤ (C i).f
  | 0 => .inl fun i hi => by omega
  | n + 1 => by
    by_cases c : alive (C n) t
    · rcases al_last n (C := C) (t := t) with h | ⟨i, hi, ha, hm⟩
      · exact .inr ⟨n, by omega, c, fun j hj hja => by
          by_cases e : j = n
          · rw [e]; omega
          · exact absurd hja (h j (by omega))⟩
      · by_cases d : (C i).f ≤ (C n).f
        · exact .inr ⟨n, by omega, c, fun j hj hja => by
            by_cases e : j = n
            · rw [e]; omega
            · have := hm j (by omega) hja; omega⟩
        · exact .inr ⟨i, by omega, ha, fun j hj hja => by
            by_cases e : j = n
            · rw [e]; omega
            · exact hm j (by omega) hja⟩
    · rcases al_last n (C := C) (t := t) with h | ⟨i, hi, ha, hm⟩
      · exact .inl fun j hj => by
          by_cases e : j = n
          · rw [e]; exact c
          · exact h j (by omega)
      · exact .inr ⟨i, by omega, ha, fun j hj hja => by
          by_cases e : j = n
          · rw [e] at hja; exact absurd hja c
          · exact hm j (by omega) hja⟩
theorem al_none {C : Nat → MV} {t : Int} : ∀ (n : Nat), (∀ i, i < n → ¬ alive (C i) t) → al C t n = 0
  | 0, _ => rfl
  | n + 1, h => by
    unfold al
    rw [if_neg (h n (by omega))]
    exact al_none n (fun i hi => h i (by omega))
theorem mxF_ge {C : Nat → MV} {n : Nat} : ∀ (m i : Nat), i < m → al C (C i).f n ≤ mxF C n m
  | 0, i, h => by omega
  | m + 1, i, h => by
    have q := up_ge (mxF C n m) (al C (C m).f n)
    show _ ≤ up (mxF C n m) (al C (C m).f n)
    by_cases e : i = m
    · rw [e]; exact q.2
    · exact Int.le_trans (mxF_ge m i (by omega)) q.1
theorem mxF_0 {C : Nat → MV} {n : Nat} : ∀ (m : Nat), 0 ≤ mxF C n m
  | 0 => by unfold mxF; omega
  | m + 1 => Int.le_trans (mxF_0 m) (up_ge _ _).1
theorem mxF_le {C : Nat → MV} {n : Nat} {c : Int} (h0 : 0 ≤ c) : ∀ (m : Nat), (∀ i, i < m → al C (C i).f n ≤ c) → mxF C n m ≤ c
  | 0, _ => h0
  | m + 1, h => up_le (mxF_le h0 m (fun i hi => h i (by omega))) (h m (by omega))
theorem mxT_ge {C : Nat → MV} {n : Nat} : ∀ (m i : Nat), i < m → al C (i : Int) n ≤ mxT C n m
  | 0, i, h => by omega
  | m + 1, i, h => by
    have q := up_ge (mxT C n m) (al C (m : Int) n)
    show _ ≤ up (mxT C n m) (al C (m : Int) n)
    by_cases e : i = m
    · rw [e]; exact q.2
    · exact Int.le_trans (mxT_ge m i (by omega)) q.1
theorem mxT_0 {C : Nat → MV} {n : Nat} : ∀ (m : Nat), 0 ≤ mxT C n m
  | 0 => by unfold mxT; omega
  | m + 1 => Int.le_trans (mxT_0 m) (up_ge _ _).1
theorem mxT_le {C : Nat → MV} {n : Nat} {c : Int} (h0 : 0 ≤ c) : ∀ (m : Nat), (∀ i, i < m → al C (i : Int) n ≤ c) → mxT C n m ≤ c
  | 0, _ => h0
  | m + 1, h => up_le (mxT_le h0 m (fun i hi => h i (by omega))) (h m (by omega))
theorem mx_same {C : Nat → MV} {n : Nat} (h : LOk n C) : mxF C n n = mxT C n 401 := by
  refine Int.le_antisymm (mxF_le (mxT_0 _) n fun i hi => ?_) (mxT_le (mxF_0 _) 401 fun t ht => ?_)
  · have m := h.2 i hi
    obtain ⟨k, hk⟩ : ∃ k : Nat, (C i).f = k := ⟨(C i).f.toNat, by have := m.2.1; omega⟩
    have := mxT_ge (C := C) (n := n) 401 k (by have := m.2.2; omega)
    rw [hk]
    exact this
  · rcases al_last n (C := C) (t := (t : Int)) with q | ⟨i, hi, ha, hm⟩
    · rw [al_none n q]; exact mxF_0 n
    · refine Int.le_trans (al_le n h.2 (fun j hj hja => ?_)) (mxF_ge n i hi)
      have e1 := hm j hj hja
      have e2 := ha.1
      have e3 := hja.2
      exact ⟨e1, by omega⟩
theorem mxF_rng {C : Nat → MV} {n : Nat} (h : LOk n C) (m : Nat) (hm : m ≤ n) : 0 ≤ mxF C n m ∧ mxF C n m ≤ 819200 :=
  ⟨mxF_0 m, mxF_le (by omega) m fun i hi => by have := (al_rng n h.2 (t := (C i).f)).2; have := h.1; omega⟩
theorem mxT_rng {C : Nat → MV} {n : Nat} (h : LOk n C) (m : Nat) : 0 ≤ mxT C n m ∧ mxT C n m ≤ 819200 :=
  ⟨mxT_0 m, mxT_le (by omega) m fun i hi => by have := (al_rng n h.2 (t := (i : Int))).2; have := h.1; omega⟩
theorem fl_same {n : Nat} {C U : Nat → MV} (h : ∀ i, i < n → U i = C i) : FL n U = FL n C := by
  have al_s : ∀ (t : Int) (m : Nat), m ≤ n → al U t m = al C t m := by
    intro t m
    induction m with
    | zero => intro _; rfl
    | succ m ih => intro hm; unfold al; rw [ih (by omega), h m (by omega)]
  have mx_s : ∀ m, mxT U n m = mxT C n m := by
    intro m
    induction m with
    | zero => rfl
    | succ m ih => unfold mxT; rw [ih, al_s _ n (Nat.le_refl _)]
  have lo : LOk n U ↔ LOk n C := ⟨fun q => ⟨q.1, fun i hi => by rw [← h i hi]; exact q.2 i hi⟩, fun q => ⟨q.1, fun i hi => by rw [h i hi]; exact q.2 i hi⟩⟩
  unfold FL
  by_cases c : LOk n C
  · rw [if_pos c, if_pos (lo.2 c), mx_s]
  · rw [if_neg c, if_neg (fun q => c (lo.1 q))]
set_option maxHeartbeats 2000000 in
theorem aliveAtF (B : Nat) (a : Option Addr) (n cap : Nat) (C : Nat → MV) (t : Int) (w : World) (hB : B ≤ w.heap.size) (h : LM B w a n C) (hL : LOk n C) :
    Calls Try.prog 25 #[.slice a n cap, .int .i64 t] w fun e w' => e = .returned (.int .i64 (al C t n)) ∧ Below w.heap.size w w' := by
  have H := hide h
  have HL := hide hL
  have n200 : (n : Int) ≤ 200 := by have := hL.1; omega
  clear h hL
  go_enter Try.func25, Try.ntmps25
  go_wp2_with fail
  go_loopw [5, 10] (fun v i wx => ∃ (k : Nat) (s : Int), k ≤ n ∧ i = .int .i64 k ∧ v = .int .i64 s ∧ s = al C t k ∧ Below w.heap.size w wx) (fun _ i _ => n - (intOf i).toNat)
  case atStart => exact ⟨0, 0, Nat.zero_le _, rfl, rfl, rfl, Below.refl _ _⟩
  case round =>
    obtain ⟨Z, rfl⟩ : ∃ Z, Z = wr := ⟨_, rfl⟩
    obtain ⟨k, s, hk, rfl, rfl, hs, hby⟩ := hrel
    have sr := al_rng k (fun i hi => HL.out.2 i (by omega)) (C := C) (t := t)
    rw [← hs] at sr
    have HS := hide hs
    have HBY := hide hby
    clear hs hby
    by_cases hlt : k < n
    case neg =>
      obtain rfl : k = n := by omega
      go_wp2_with fail
      go_ret
      exact ⟨by rw [← HS.out]; rfl, HBY.out⟩
    have kI : (k : Int) < n := by omega
    rcases H.out.below (HBY.out.mono hB) with h0 | ⟨b, off, rfl, hbB, hc⟩
    · omega
    obtain ⟨⟨c0, c1, c2, c3⟩, _⟩ := hc k hlt
    clear hc
    obtain ⟨x, hx⟩ : ∃ x, C k = x := ⟨_, rfl⟩
    rw [hx] at c0 c1 c2 c3
    have xs := (HL.out.2 k hlt).1
    rw [hx] at xs
    have AL := hide (show al C t (k + 1) = if alive x t then s + x.s else s by rw [← hx, HS.out]; rfl)
    clear hx
    obtain ⟨Y, hY⟩ : ∃ Y, Z.alloc (.cells #[.int .i64 x.b, .int .i64 x.s, .int .i64 x.f, .int .i64 x.t] 31) = Y := ⟨_, rfl⟩
    have BY := hide (show Below w.heap.size w Y by rw [← hY]; exact HBY.out.alloc HBY.out.size _)
    have m := mcells Z (.int .i64 x.b) (.int .i64 x.s) (.int .i64 x.f) (.int .i64 x.t) 31
    rw [hY] at m
    obtain ⟨m0, m1, m2, m3⟩ := m
    by_cases t0 : x.f ≤ t
    case neg =>
      have t0' : decide (x.f ≤ t) = false := by rw [decide_eq_false_iff_not]; exact t0
      have e := hide (show s = al C t (k + 1) by rw [AL.out, if_neg (fun q => t0 q.1)])
      clear t0
      go_wp2_with fail
      go_roundw
      all_goals first
        | (simp only [intOf]; omega)
        | (simp [intOf]; omega)
        | exact ⟨k + 1, s, by omega, by go_num, rfl, e.out, BY.out⟩
    by_cases t1 : t ≤ x.t
    case neg =>
      have t1' : decide (t ≤ x.t) = false := by rw [decide_eq_false_iff_not]; exact t1
      have e := hide (show s = al C t (k + 1) by rw [AL.out, if_neg (fun q => t1 q.2)])
      clear t1
      go_wp2_with fail
      go_roundw
      all_goals first
        | (simp only [intOf]; omega)
        | (simp [intOf]; omega)
        | exact ⟨k + 1, s, by omega, by go_num, rfl, e.out, BY.out⟩
    have e := hide (show s + x.s = al C t (k + 1) by rw [AL.out, if_pos ⟨t0, t1⟩])
    have ws : IntKind.i64.wrap (s + x.s) = s + x.s := by rw [IntKind.wrap_i64]; omega
    go_wp2_with fail
    go_roundw
    all_goals first
      | (simp only [intOf]; omega)
      | (simp [intOf]; omega)
      | exact ⟨k + 1, s + x.s, by omega, by go_num, rfl, e.out, BY.out⟩
set_option maxHeartbeats 2000000 in
theorem floorF (B : Nat) (a : Option Addr) (n cap : Nat) (C : Nat → MV) (w : World) (hB : B ≤ w.heap.size) (h : LM B w a n C) (hn : (n : Int) ≤ 1048576) :
    Calls Try.prog 9 #[.slice a n cap] w fun e w' => e = .returned (.int .i64 (FL n C)) ∧ Below w.heap.size w w' := by
  have H := hide h
  have CL := hide (livesFitF B a n cap C w hB h hn)
  clear h
  go_enter Try.func9, Try.ntmps9
  by_cases d2 : LOk n C
  case neg =>
    have e := hide (show FL n C = 0 from if_neg d2)
    rw [decide_eq_false d2] at CL
    clear d2
    go_wp2_with fail
    refine CL.out.mono ?_
    rintro e1 w2 ⟨rfl, b2⟩
    have B2 := hide b2
    go_wp2_with fail
    go_ret
    exact ⟨by rw [e.out]; rfl, B2.out⟩
  rw [decide_eq_true d2] at CL
  have HL := hide d2
  have e := hide (show FL n C = mxF C n n by rw [mx_same d2]; exact if_pos d2)
  clear d2
  go_wp2_with fail
  refine CL.out.mono ?_
  rintro e1 w1 ⟨rfl, b1⟩
  have B1 := hide b1
  clear CL b1
  go_wp2_with fail
  go_loopw [3, 11] (fun v i wx => ∃ (k : Nat) (s : Int), k ≤ n ∧ i = .int .i64 k ∧ v = .int .i64 s ∧ s = mxF C n k ∧ Below w.heap.size w wx) (fun _ i _ => n - (intOf i).toNat)
  case atStart => exact ⟨0, 0, Nat.zero_le _, rfl, rfl, rfl, B1.out⟩
  case round =>
    obtain ⟨Z, rfl⟩ : ∃ Z, Z = wr := ⟨_, rfl⟩
    obtain ⟨k, s, hk, rfl, rfl, hs, hby⟩ := hrel
    have HS := hide hs
    have HBY := hide hby
    clear hs hby
    by_cases hlt : k < n
    case neg =>
      obtain rfl : k = n := by omega
      go_wp2_with fail
      go_ret
      exact ⟨by rw [e.out, ← HS.out]; rfl, HBY.out⟩
    have kI : (k : Int) < n := by omega
    have HZ := hide (H.out.below (HBY.out.mono hB))
    rcases HZ.out with h0 | ⟨b, off, rfl, hbB, hc⟩
    · omega
    obtain ⟨⟨c0, c1, c2, c3⟩, _⟩ := hc k hlt
    clear hc
    obtain ⟨x, hx⟩ : ∃ x, C k = x := ⟨_, rfl⟩
    rw [hx] at c0 c1 c2 c3
    obtain ⟨Y, hY⟩ : ∃ Y, Z.alloc (.cells #[.int .i64 x.b, .int .i64 x.s, .int .i64 x.f, .int .i64 x.t] 31) = Y := ⟨_, rfl⟩
    have bY : Below Z.heap.size Z Y := by rw [← hY]; exact (Below.refl _ _).alloc (Nat.le_refl _) _
    have BY := hide (HBY.out.trans (bY.mono HBY.out.size))
    have m := mcells Z (.int .i64 x.b) (.int .i64 x.s) (.int .i64 x.f) (.int .i64 x.t) 31
    rw [hY] at m
    obtain ⟨m0, m1, m2, m3⟩ := m
    have CA := hide (aliveAtF B (some ⟨b, off, none⟩) n cap C x.f Y (Nat.le_trans hB BY.out.size) (H.out.below (BY.out.mono hB)) HL.out)
    obtain ⟨z, hz⟩ : ∃ z, al C x.f n = z := ⟨_, rfl⟩
    rw [hz] at CA
    have e2 := hide (show (if s < z then z else s) = mxF C n (k + 1) by
      show _ = up (mxF C n k) (al C (C k).f n)
      rw [hx, hz, ← HS.out]
      rfl)
    clear hx hz bY
    go_wp2_with fail
    refine CA.out.mono ?_
    rintro e1 Y2 ⟨rfl, b2⟩
    have BZ := hide (BY.out.trans (b2.mono BY.out.size))
    clear b2 c0 c1 c2 c3 m0 m1 m2 m3 hY CA
    go_wp2_with fail
    go_roundw
    all_goals first
      | (simp only [intOf]; omega)
      | (simp [intOf]; omega)
      | exact ⟨k + 1, _, by omega, by go_num, rfl, e2.out, BZ.out⟩
end Vo
end Go.Proofs.Ytbdcbanbnbaoiaa

/- What Pack gives, plain: no two that meet lie one over the other, and the peak is not below what is alive at one time. -/
namespace Go.Proofs.Ytbdcbanbnbaoiaa
namespace Vo
open Vl Vp
set_option linter.unusedVariables false
set_option linter.unusedSimpArgs false
theorem lap_iff (a s b t : Int) : lap a s b t ↔ lap b t a s := by unfold lap; omega
/-- with d placed: no two of them that meet lie one over the other -/
def NoLap (n : Nat) (C : Nat → MV) (d : Nat) : Prop := ∀ q r, q < r → r < d → meet (C (So.ord (keyM C) n r)) (C (So.ord (keyM C) n q)) → ¬ lap (pkO n C d (So.ord (keyM C) n r)) (C (So.ord (keyM C) n r)).s (pkO n C d (So.ord (keyM C) n q)) (C (So.ord (keyM C) n q)).s
theorem pk_all {n : Nat} {C : Nat → MV} (hL : LOk n C) : ∀ d, d ≤ n → PkI n C d ∧ NoLap n C d
  | 0, _ => ⟨PkI.zero n C, fun q r h1 h2 => by omega⟩
  | d + 1, hd => by
    obtain ⟨h, nl⟩ := pk_all hL d (by omega)
    have b := bst_rng h (by omega) hL
    refine ⟨h.next (by omega) hL b.1 b.2, fun q r h1 h2 hm hl => ?_⟩
    by_cases e : r = d
    · subst e
      rw [pk_new, pk_old (by omega) (by omega) (by omega)] at hl
      have bc := bst_char n C (pkO n C r) (So.ord (keyM C) n r) (fun k hk => (hL.2 k hk).1.1) n (Nat.le_refl _)
      have f := bc.2.1 b.1
      have oq := (So.ord_is (K := keyM C) (show q < n by omega)).1
      exact f _ oq (fun e => by have := ord_inj (show q < n by omega) (show r < n by omega) e; omega) (h.yes q (by omega)).1 ⟨hm, hl⟩
    · rw [pk_old (by omega) (by omega) e, pk_old (by omega) (by omega) (by omega)] at hl
      exact nl q r h1 (by omega) hm hl
theorem pack_pok {n : Nat} {C : Nat → MV} (hL : LOk n C) : POk n C n (pkO n C n) := by
  obtain ⟨h, nl⟩ := pk_all hL n (Nat.le_refl _)
  refine ⟨rfl, hL, fun p hp => ?_, fun i hi k hk hh => ?_⟩
  · have q := h.rng (Nat.le_refl _) hL p hp
    have r := q.2.2.2 (So.rnk_len (K := keyM C) hp)
    have t := (hL.2 p hp).1
    have := hL.1
    omega
  · have ri := So.rnk_len (K := keyM C) hi
    have rk := So.rnk_len (K := keyM C) (show k < n by omega)
    have ne : So.rnk (keyM C) n i ≠ So.rnk (keyM C) n k := fun e => by have := So.rnk_inj hi (show k < n by omega) e; omega
    rcases Nat.lt_or_ge (So.rnk (keyM C) n i) (So.rnk (keyM C) n k) with c | c
    · have := nl _ _ c rk
      rw [So.ord_rnk hi, So.ord_rnk (show k < n by omega)] at this
      exact this ((meet_iff _ _).1 hh.1) ((lap_iff _ _ _ _).1 hh.2)
    · have := nl _ _ (by omega : So.rnk (keyM C) n k < So.rnk (keyM C) n i) ri
      rw [So.ord_rnk hi, So.ord_rnk (show k < n by omega)] at this
      exact this hh.1 hh.2
theorem peak_ends {n : Nat} {C : Nat → MV} (hL : LOk n C) : ∀ p, p < n → pkO n C n p + (C p).s ≤ pkP n C n := fun p hp => by
  have := (pkP_char n C n (Nat.le_refl _)).2.1 _ (So.rnk_len (K := keyM C) hp)
  rw [So.ord_rnk hp] at this
  exact this
/-- how much of [0, x) the first m that are alive at t have -/
def cvr (C : Nat → MV) (O : Nat → Int) (t x : Int) : Nat → Int
  | 0 => 0
  | m + 1 => if alive (C m) t then cvr C O t x m + (if O m + (C m).s ≤ x then (C m).s else if O m ≤ x then x - O m else 0) else cvr C O t x m
/-- one place more is one at most -/
theorem cvr_step {n : Nat} {C : Nat → MV} {O : Nat → Int} {t x : Int} (hp : POk n C n O) : ∀ m, m ≤ n → cvr C O t (x + 1) m ≤ cvr C O t x m + 1 ∧ ((∀ k, k < m → alive (C k) t → ¬ (O k ≤ x ∧ x < O k + (C k).s)) → cvr C O t (x + 1) m ≤ cvr C O t x m)
  | 0, _ => ⟨by simp [cvr], fun _ => by simp [cvr]⟩
  | m + 1, hm => by
    obtain ⟨a1, a2⟩ := cvr_step hp (t := t) (x := x) m (by omega)
    have sm := (hp.2.1.2 m (by omega)).1
    rw [cvr, cvr]
    by_cases c : alive (C m) t
    · rw [if_pos c, if_pos c]
      by_cases d : O m ≤ x ∧ x < O m + (C m).s
      · have a3 := a2 (fun k hk hka hx => by
          refine hp.2.2.2 m (by omega) k hk ⟨?_, ?_⟩
          · unfold meet alive at *; omega
          · unfold lap; omega)
        refine ⟨?_, fun h => absurd d (h m (by omega) c)⟩
        repeat' split
        all_goals omega
      · refine ⟨?_, fun h => ?_⟩
        · repeat' split
          all_goals omega
        · have := a2 (fun k hk => h k (by omega))
          repeat' split
          all_goals omega
    · rw [if_neg c, if_neg c]
      exact ⟨a1, fun h => a2 (fun k hk => h k (by omega))⟩
theorem cvr_zero {n : Nat} {C : Nat → MV} {O : Nat → Int} {t : Int} (hp : POk n C n O) : ∀ m, m ≤ n → cvr C O t 0 m = 0
  | 0, _ => rfl
  | m + 1, hm => by
    have sm := (hp.2.1.2 m (by omega)).1
    have om := hp.2.2.1 m (by omega)
    rw [cvr, cvr_zero hp m (by omega)]
    split
    · repeat' split
      all_goals omega
    · rfl
theorem cvr_le {n : Nat} {C : Nat → MV} {O : Nat → Int} {t : Int} (hp : POk n C n O) : ∀ x : Nat, cvr C O t x n ≤ x
  | 0 => by have := cvr_zero hp (t := t) n (Nat.le_refl _); simp only [Int.natCast_zero] at *; omega
  | x + 1 => by have := cvr_le hp (t := t) x; have := (cvr_step hp (t := t) (x := (x : Int)) n (Nat.le_refl _)).1; have e : ((x + 1 : Nat) : Int) = (x : Int) + 1 := by omega
                rw [e]; omega
theorem cvr_all {C : Nat → MV} {O : Nat → Int} {t x : Int} : ∀ m, (∀ k, k < m → O k + (C k).s ≤ x) → cvr C O t x m = al C t m
  | 0, _ => rfl
  | m + 1, h => by rw [cvr, al, cvr_all m (fun k hk => h k (by omega)), if_pos (h m (by omega))]
theorem peak_floor {n : Nat} {C : Nat → MV} (hL : LOk n C) : FL n C ≤ pkP n C n := by
  have p0 := (pkP_char n C n (Nat.le_refl _)).1
  have one : ∀ t, al C t n ≤ pkP n C n := fun t => by
    have a := cvr_le (pack_pok hL) (t := t) (pkP n C n).toNat
    rw [show (((pkP n C n).toNat : Nat) : Int) = pkP n C n by omega, cvr_all n (peak_ends hL)] at a
    exact a
  unfold FL
  rw [if_pos hL]
  have : ∀ m, mxT C n m ≤ pkP n C n := fun m => by
    induction m with
    | zero => exact p0
    | succ m ih => exact up_le ih (one m)
  exact this 401
end Vo
end Go.Proofs.Ytbdcbanbnbaoiaa

/- What the laws draw: a cursor over the bytes that came in. Each draw answers within its bounds and writes into the cursor alone, which is new memory. -/
namespace Go.Proofs.Ytbdcbanbnbaoiaa
namespace Base
open Go.ChangeShapes Go.WideShapes Go.ChangeAt Go.RowKit
set_option linter.unusedVariables false

/-- bytes that came in: they lie below block B -/
def Code (B : Nat) (w : World) (a : Option Addr) (len : Nat) : Prop :=
  len ≤ 9223372036854775807 ∧ (len = 0 ∨ ∃ b off, a = some ⟨b, off, none⟩ ∧ b < B ∧ ∀ j, j < len → ∃ z : Int, w.cell? ⟨b, off + j, none⟩ = some (.int .u8 z) ∧ 0 ≤ z ∧ z ≤ 255)
theorem Code.below {B : Nat} {w w' : World} {a : Option Addr} {len : Nat} (h : Code B w a len) (hb : Below B w w') : Code B w' a len := by
  refine ⟨h.1, ?_⟩
  rcases h.2 with h0 | ⟨b, off, e, hB, hc⟩
  · exact .inl h0
  · refine .inr ⟨b, off, e, hB, fun j hj => ?_⟩
    obtain ⟨z, hz, b0, b1⟩ := hc j hj
    exact ⟨z, by rw [hb.cell (p := ⟨b, off + j, none⟩) hB]; exact hz, b0, b1⟩

theorem Code.mono {B B' : Nat} {w : World} {a : Option Addr} {len : Nat} (h : Code B w a len) (hB : B ≤ B') : Code B' w a len := by
  refine ⟨h.1, ?_⟩
  rcases h.2 with h0 | ⟨b, off, e, hb, hc⟩
  · exact .inl h0
  · exact .inr ⟨b, off, e, by omega, hc⟩
/-- a slice of bytes that came in, as the row reads it -/
theorem code_of {W : World} {x : Addr} {len cap : Nat} {zs : List Int} (hl : len ≤ cap) (hm : cap ≤ maxLen) (hz : zs.length = cap)
    (hcell : ∀ i, i < zs.length → W.cell? (x.add i) = some (.int .u8 (zs.getD i 0))) (hwz : ∀ n ∈ zs, (Lit.int .u8 n).wf = true) : Code W.heap.size W (some x) len := by
  unfold maxLen at hm
  refine ⟨by omega, ?_⟩
  by_cases h0 : len = 0
  · exact .inl h0
  · obtain ⟨b, off, rfl, hc⟩ := ints_at hcell (by omega)
    refine .inr ⟨b, off, rfl, World.block_lt_of_cell? _ _ (hc 0 (by omega)), fun j hj => ⟨zs.getD j 0, hc j (by omega), ?_⟩⟩
    have hmem : zs.getD j 0 ∈ zs := by
      rw [List.getD, List.getElem?_eq_getElem (by omega), Option.getD_some]; exact List.getElem_mem _
    exact bounds_u8 (hwz _ hmem)

/-- the cursor at block p -/
structure Cur (B : Nat) (w : World) (p : Nat) (a : Option Addr) (len cap : Nat) : Prop where
  hp : B ≤ p
  code : Code B w a len
  c0 : w.cell? ⟨p, 0, none⟩ = some (.slice a len cap)
  st : ∃ i h : Int, w.cell? ⟨p, 1, none⟩ = some (.int .i64 i) ∧ w.cell? ⟨p, 2, none⟩ = some (.int .i64 h) ∧ 0 ≤ i ∧ i ≤ len ∧ -9223372036854775808 ≤ h ∧ h ≤ 9223372036854775807
  f1 : w.frozen? ⟨p, 1, none⟩ = false
  f2 : w.frozen? ⟨p, 2, none⟩ = false

/-- a draw's end: a number from lo to hi, the cursor still one -/
def Drawn (B : Nat) (p : Nat) (a : Option Addr) (len cap : Nat) (lo hi : Int) (w : World) (e : Ending) (w' : World) : Prop :=
  ∃ x : Int, lo ≤ x ∧ x ≤ hi ∧ e = .returned (.int .i64 x) ∧ Cur B w' p a len cap ∧ w.grownBy w' (some p)

theorem mask8 (n : Int) : bits .and .i64 n 255 = n % 256 := by
  have h : (BitVec.ofInt 64 255).toNat = 2 ^ 8 - 1 := by decide
  have key : (BitVec.ofInt 64 n &&& BitVec.ofInt 64 255).toNat = (n % ((2 ^ 64 : Nat) : Int)).toNat % 2 ^ 8 := by
    rw [BitVec.toNat_and, BitVec.toNat_ofInt, h, Nat.and_two_pow_sub_one_eq_mod]
  show IntKind.i64.wrap ((BitVec.ofInt 64 n &&& BitVec.ofInt 64 255).toNat : Nat) = n % 256
  rw [key, IntKind.wrap_i64]
  omega
theorem mask30 (n : Int) : bits .and .i64 n 1073741823 = n % 1073741824 := by
  have h : (BitVec.ofInt 64 1073741823).toNat = 2 ^ 30 - 1 := by decide
  have key : (BitVec.ofInt 64 n &&& BitVec.ofInt 64 1073741823).toNat = (n % ((2 ^ 64 : Nat) : Int)).toNat % 2 ^ 30 := by
    rw [BitVec.toNat_and, BitVec.toNat_ofInt, h, Nat.and_two_pow_sub_one_eq_mod]
  show IntKind.i64.wrap ((BitVec.ofInt 64 n &&& BitVec.ofInt 64 1073741823).toNat : Nat) = n % 1073741824
  rw [key, IntKind.wrap_i64]
  omega
theorem wrap_bd (n : Int) : -9223372036854775808 ≤ wrap64 n ∧ wrap64 n ≤ 9223372036854775807 := bounds_i64 (wrap64_wf _)

theorem grown_drew (w : World) (n p : Nat) : w.grownBy (w.drewN n) (some p) := ⟨rfl, rfl, rfl, Nat.le_refl _, fun _ _ _ => rfl⟩
theorem grown_refl (w : World) (p : Nat) : w.grownBy w (some p) := ⟨rfl, rfl, rfl, Nat.le_refl _, fun _ _ _ => rfl⟩
theorem Cur.lt {B p : Nat} {a : Option Addr} {len cap : Nat} {w : World} (h : Cur B w p a len cap) : p < w.heap.size := World.block_lt_of_cell? _ _ h.c0
theorem Cur.below {B p : Nat} {a : Option Addr} {len cap : Nat} {w w' : World} (h : Cur B w p a len cap) (hg : w.grownBy w' (some p)) : Below B w w' :=
  (Below.refl B w).grown hg (by have := h.lt; have := h.hp; omega) (by rintro k ⟨⟩; exact h.hp)
/-- new memory behind leaves a cursor one -/
theorem Cur.alloc {B p : Nat} {a : Option Addr} {len cap : Nat} {w : World} (h : Cur B w p a len cap) (o : Obj) : Cur B (w.alloc o) p a len cap := by
  have hl := h.lt
  have hb : Below w.heap.size w (w.alloc o) := (Below.refl _ _).alloc (Nat.le_refl _) _
  obtain ⟨hp, hcode, c0, ⟨i, g, c1, c2, q⟩, f1, f2⟩ := h
  refine ⟨hp, hcode.below (hb.mono (by omega)), ?_, ⟨i, g, ?_, ?_, q⟩, ?_, ?_⟩
  · rw [hb.cell (p := ⟨p, 0, none⟩) hl]; exact c0
  · rw [hb.cell (p := ⟨p, 1, none⟩) hl]; exact c1
  · rw [hb.cell (p := ⟨p, 2, none⟩) hl]; exact c2
  · rw [hb.frozen (p := ⟨p, 1, none⟩) hl]; exact f1
  · rw [hb.frozen (p := ⟨p, 2, none⟩) hl]; exact f2

theorem cur_set {B p : Nat} {a : Option Addr} {len cap : Nat} {w : World} {i h : Int} (hp : B ≤ p) (hc : Code B w a len) (c0 : w.cell? ⟨p, 0, none⟩ = some (.slice a len cap))
    (c1 : w.cell? ⟨p, 1, none⟩ = some (.int .i64 i)) (c2 : w.cell? ⟨p, 2, none⟩ = some (.int .i64 h)) (f1 : w.frozen? ⟨p, 1, none⟩ = false) (f2 : w.frozen? ⟨p, 2, none⟩ = false)
    (h' : Int) (q0 : -9223372036854775808 ≤ h') (q1 : h' ≤ 9223372036854775807) (n : Nat) (i' : Int) (i0 : 0 ≤ i') (i1 : i' ≤ len) :
    Cur B (((w.setCell ⟨p, 2, none⟩ (.int .i64 h')).drewN n).setCell ⟨p, 1, none⟩ (.int .i64 i')) p a len cap ∧ w.grownBy (((w.setCell ⟨p, 2, none⟩ (.int .i64 h')).drewN n).setCell ⟨p, 1, none⟩ (.int .i64 i')) (some p) := by
  have hb : Below B w (((w.setCell ⟨p, 2, none⟩ (.int .i64 h')).drewN n).setCell ⟨p, 1, none⟩ (.int .i64 i')) := (below_drewN ((Below.refl _ _).setCell hp _) _).setCell hp _
  refine ⟨⟨hp, hc.below hb, ?_, ⟨i', h', ?_, ?_, i0, i1, q0, q1⟩, ?_, ?_⟩, ((Lib.grownBy_setCell w p 2 _).trans (grown_drew _ n p)).trans (Lib.grownBy_setCell _ p 1 _)⟩
  · simp [go_sem, c0]
  · simp [go_sem, c1]
  · simp [go_sem, c2]
  · simp [go_sem, f1]
  · simp [go_sem, f2]

theorem l1Byte (B : Nat) (p : Nat) (a : Option Addr) (len cap : Nat) (w : World) (hc : Cur B w p a len cap) :
    Calls Try.prog 43 #[.pointer (some ⟨p, 0, none⟩)] w fun e w' => Drawn B p a len cap 0 255 w e w' := by
  obtain ⟨hp, hcode, c0, ⟨i, h, c1, c2, i0, i1, h0, h1⟩, f1, f2⟩ := hc
  have hl := hcode.1
  have m8 := mask8
  by_cases hi : i < len
  · rcases hcode.2 with hz | ⟨b, off, rfl, hB, hcell⟩
    · omega
    · obtain ⟨j, rfl⟩ := Int.eq_ofNat_of_zero_le i0
      obtain ⟨z, hz, z0, z1⟩ := hcell j (by omega)
      have hne : b ≠ p := by omega
      have HC := hide hcode
      clear hcode hcell
      go_enter Try.func43, Try.ntmps43
      go_wp2_with fail
      go_quiet (fail)
      go_wp2_with fail
      go_quiet (fail)
      go_wp2_with fail
      go_quiet (fail)
      go_wp2_with fail
      go_ret
      clear m8
      obtain ⟨q0, q1⟩ := wrap_bd (wrap64 (h * 6364136223846793005) + 1442695040888963407)
      refine ⟨_, ?_, ?_, rfl, cur_set hp HC.out c0 c1 c2 f1 f2 _ q0 q1 _ _ (by omega) (by omega)⟩
      · show 0 ≤ _ % 256; omega
      · show _ % 256 ≤ 255; omega
  · have hi2 : decide (i < (len : Int)) = false := by rw [decide_eq_false_iff_not]; exact hi
    have HC := hide hcode
    clear hcode
    go_enter Try.func43, Try.ntmps43
    go_wp2_with fail
    go_quiet (fail)
    go_wp2_with fail
    go_quiet (fail)
    go_wp2_with fail
    go_ret
    clear m8
    refine ⟨_, ?_, ?_, rfl, ?_, ((Lib.grownBy_setCell w p 2 _).trans (grown_drew _ _ p)).trans (grown_drew _ _ p)⟩
    · show 0 ≤ _ % 256; omega
    · show _ % 256 ≤ 255; omega
    · obtain ⟨q0, q1⟩ := wrap_bd (wrap64 (h * 6364136223846793005) + 1442695040888963407)
      generalize wrap64 (wrap64 (h * 6364136223846793005) + 1442695040888963407) = h' at *
      refine ⟨hp, HC.out.below (below_drewN (below_drewN ((Below.refl _ _).setCell hp _) _) _), ?_, ⟨i, h', ?_, ?_, i0, i1, q0, q1⟩, ?_, ?_⟩
      · simp [go_sem, c0]
      · simp [go_sem, c1]
      · simp [go_sem, c2]
      · simp [go_sem, f1]
      · simp [go_sem, f2]

theorem l1Below (B : Nat) (p : Nat) (a : Option Addr) (len cap : Nat) (n : Int) (w : World) (hc : Cur B w p a len cap) (n0 : 1 ≤ n) (n1 : n ≤ 2147483648) :
    Calls Try.prog 26 #[.pointer (some ⟨p, 0, none⟩), .int .i64 n] w fun e w' => Drawn B p a len cap 0 (n - 1) w e w' := by
  have hc := hide hc
  by_cases h : n ≤ 256
  · go_enter Try.func26, Try.ntmps26
    go_wp2_with fail
    refine (l1Byte B p a len cap _ hc.out).mono ?_; rintro e w1 ⟨x, x0, x1, rfl, d1, g1⟩
    have r0 : 0 ≤ x % n := Int.emod_nonneg _ (by omega)
    have r1 : x % n < n := Int.emod_lt_of_pos _ (by omega)
    go_wp2_with fail
    go_ret
    exact ⟨_, r0, by omega, rfl, d1, g1⟩
  · have h2 : decide (n ≤ 256) = false := by rw [decide_eq_false_iff_not]; exact h
    clear h
    go_enter Try.func26, Try.ntmps26
    go_wp2_with fail
    refine (l1Byte B p a len cap _ hc.out).mono ?_; rintro e w1 ⟨x, x0, x1, rfl, d1, g1⟩
    go_wp2_with fail
    refine (l1Byte B p a len cap _ d1).mono ?_; rintro e w2 ⟨y, y0, y1, rfl, d2, g2⟩
    go_wp2_with fail
    refine (l1Byte B p a len cap _ d2).mono ?_; rintro e w3 ⟨z, z0, z1, rfl, d3, g3⟩
    go_wp2_with fail
    refine (l1Byte B p a len cap _ d3).mono ?_; rintro e w4 ⟨v, v0, v1, rfl, d4, g4⟩
    have r0 : 0 ≤ (x * 16777216 + y * 65536 + z * 256 + v) % n := Int.emod_nonneg _ (by omega)
    have r1 : (x * 16777216 + y * 65536 + z * 256 + v) % n < n := Int.emod_lt_of_pos _ (by omega)
    clear d1 d2 d3
    go_wp2_with fail
    go_ret
    exact ⟨_, r0, by omega, rfl, d4, ((g1.trans g2).trans g3).trans g4⟩

theorem l1PickInt (B : Nat) (p : Nat) (a : Option Addr) (len cap : Nat) (q n : Nat) (lo hi : Int) (w : World) (hc : Cur B w p a len cap) (hq : q ≠ p) (n0 : 1 ≤ n) (n1 : n ≤ 100)
    (hl : ∀ j, j < n → ∃ z : Int, w.cell? ⟨q, j, none⟩ = some (.int .i64 z) ∧ lo ≤ z ∧ z ≤ hi) :
    Calls Try.prog 28 #[.pointer (some ⟨p, 0, none⟩), .slice (some ⟨q, 0, none⟩) n n] w fun e w' => Drawn B p a len cap lo hi w e w' := by
  have hc := hide hc
  have HL := hide hl
  clear hl
  go_enter Try.func28, Try.ntmps28
  go_wp2_with fail
  refine (l1Below B p a len cap _ _ hc.out (by omega) (by omega)).mono ?_; rintro e w1 ⟨x, x0, x1, rfl, d1, g1⟩
  obtain ⟨j, rfl⟩ := Int.eq_ofNat_of_zero_le x0
  obtain ⟨z, hz, z0, z1⟩ := HL.out j (by omega)
  have hz' := g1.cell hz (by intro e; injection e with e; exact hq e)
  have hj : j < n := by omega
  clear HL hz
  go_wp2_with fail
  go_ret
  exact ⟨z, z0, z1, rfl, d1, g1⟩

/-- the cells of a list that was just laid -/
theorem laid_ints (w : World) (zs : List Int) (t : TypeId) (lo hi : Int) (h : ∀ z ∈ zs, lo ≤ z ∧ z ≤ hi) :
    ∀ j, j < zs.length → ∃ z : Int, (w.alloc (.cells (zs.map (Value.int .i64)).toArray t)).cell? ⟨w.heap.size, j, none⟩ = some (.int .i64 z) ∧ lo ≤ z ∧ z ≤ hi := by
  intro j hj
  refine ⟨zs[j], ?_, h _ (List.getElem_mem hj)⟩
  rw [World.cell?_alloc_at _ _ _ _ (by simp)]
  simp



theorem l1New (a : Option Addr) (len cap : Nat) (w : World) (hc : Code w.heap.size w a len) (hlen : len ≤ 1048576) :
    Calls Try.prog 11 #[.slice a len cap] w fun e w' => e = .returned (.pointer (some ⟨w.heap.size, 0, none⟩)) ∧ Cur w.heap.size w' w.heap.size a len cap ∧ Below w.heap.size w w' := by
  have HC := hide hc
  have m30 := mask30
  have hlI : (len : Int) ≤ 1048576 := by omega
  clear hc hlen
  go_enter Try.func11, Try.ntmps11
  go_wp2_with fail
  go_loop [3, 4] (fun h i => ∃ (g : Int) (k : Nat), k ≤ len ∧ 0 ≤ g ∧ g ≤ 1073741823 ∧ h = .int .i64 g ∧ i = .int .i64 k) (fun _ i => len - (intOf i).toNat)
  case atStart => exact ⟨_, 0, Nat.zero_le _, by omega, by omega, rfl, rfl⟩
  case round =>
    obtain ⟨g, k, hk, g0, g1, rfl, rfl⟩ := hrel
    by_cases hlt : k < len
    · by_cases h4 : (k : Int) < 4000
      · rcases HC.out.2 with hz | ⟨b, off, rfl, hB, hcell⟩
        · omega
        · obtain ⟨z, hz, z0, z1⟩ := hcell k hlt
          clear hcell
          go_wp2_with fail
          go_round
          case rel => exact ⟨_, k + 1, by omega, by omega, by omega, rfl, by go_num⟩
          case measure => simp [intOf]; omega
      · have h5 : decide ((k : Int) < 4000) = false := by rw [decide_eq_false_iff_not]; omega
        go_wp2_with fail
        go_ret
        refine ⟨rfl, ?_, (Below.refl _ _).alloc (Nat.le_refl _) _⟩
        refine ⟨Nat.le_refl _, HC.out.below ((Below.refl _ _).alloc (Nat.le_refl _) _), ?_, ⟨0, g, ?_, ?_, by omega, by omega, by omega, by omega⟩, ?_, ?_⟩
        all_goals simp [go_sem]
    · have h5 : decide ((k : Int) < (len : Int)) = false := by rw [decide_eq_false_iff_not]; omega
      go_wp2_with fail
      go_ret
      refine ⟨rfl, ?_, (Below.refl _ _).alloc (Nat.le_refl _) _⟩
      refine ⟨Nat.le_refl _, HC.out.below ((Below.refl _ _).alloc (Nat.le_refl _) _), ?_, ⟨0, g, ?_, ?_, by omega, by omega, by omega, by omega⟩, ?_, ?_⟩
      all_goals simp [go_sem]

/-- how a draw of two numbers ends -/
def DrawnTwo (w : World) (e : Ending) (w' : World) : Prop :=
  ∃ x y : Int, -9223372036854775808 ≤ x ∧ x ≤ 9223372036854775807 ∧ -9223372036854775808 ≤ y ∧ y ≤ 9223372036854775807 ∧ e = .returned (.tuple #[.int .i64 x, .int .i64 y]) ∧ Below w.heap.size w w'




theorem big (a : Option Addr) (len cap : Nat) (b : Bool) (w : World) (hl : (len : Int) ≤ 9223372036854775807) (h : decide ((1048576 : Int) < (len : Int)) = b) :
    Calls Try.prog 4 #[.slice a len cap] w fun e w' => e = .returned (.bool b) ∧ w' = w := by
  subst h
  go_enter Try.func4, Try.ntmps4
  go_wp2
  go_ret
  exact ⟨rfl, rfl⟩

end Base
end Go.Proofs.Ytbdcbanbnbaoiaa

/- Lives that are drawn: some list of them. -/
namespace Go.Proofs.Ytbdcbanbnbaoiaa
namespace Vo
open Go.ChangeShapes Go.WideShapes Go.ChangeAt Go.RowKit Go.Joins Go.Sort
open Vl Vp
set_option linter.unusedVariables false
set_option linter.unusedSimpArgs false
def mll (x : MV) : List Value := [.int .i64 x.b, .int .i64 x.s, .int .i64 x.f, .int .i64 x.t]
def msl (C : Nat → MV) : Nat → List Value | 0 => [] | n + 1 => msl C n ++ mll (C n)
theorem msl_len (C : Nat → MV) : ∀ n, (msl C n).length = n * 4
  | 0 => rfl
  | n + 1 => by unfold msl; rw [List.length_append, msl_len C n]; simp [mll]; omega
theorem msl_get (C : Nat → MV) {d : Nat} (hd : d < 4) : ∀ (n i : Nat), i < n → (msl C n)[i * 4 + d]? = (mll (C i))[d]?
  | 0, i, h => by omega
  | n + 1, i, h => by
    unfold msl
    by_cases c : i = n
    · subst c
      rw [List.getElem?_append_right (by rw [msl_len]; omega), msl_len]
      congr 1
      omega
    · rw [List.getElem?_append_left (by rw [msl_len]; omega)]
      exact msl_get C hd n i (by omega)
theorem msl_same {C D : Nat → MV} : ∀ n, (∀ i, i < n → D i = C i) → msl D n = msl C n
  | 0, _ => rfl
  | n + 1, h => by unfold msl; rw [msl_same n (fun i hi => h i (by omega)), h n (by omega)]
/-- a list of lives that may grow -/
def RowL (B : Nat) (w : World) (v : Value) (n : Nat) (C : Nat → MV) : Prop := w.ownsRow B 31 4 v n (msl C n) ∧ ∀ i, i < n → bd (C i).b ∧ bd (C i).s ∧ bd (C i).f ∧ bd (C i).t
theorem RowL.slice {B : Nat} {w : World} {v : Value} {n : Nat} {C : Nat → MV} (h : RowL B w v n C) : ∃ a c, v = .slice a n c ∧ LM w.heap.size w a n C := by
  obtain ⟨h, hb⟩ := h
  have h0 := h
  obtain ⟨_, ⟨rfl, rfl⟩ | ⟨g, cap, cur, rfl, hg, hh, rest⟩⟩ := h
  · exact ⟨none, 0, rfl, .inl rfl⟩
  · refine ⟨_, _, rfl, ?_⟩
    by_cases n0 : n = 0
    · exact .inl n0
    · have cell : ∀ i, i < n → ∀ d, d < 4 → w.cell? ⟨g, 0 + i * 4 + d, none⟩ = (mll (C i))[d]? := by
        intro i hi d hd
        have q := msl_get C hd n i hi
        have e : ∃ u, (mll (C i))[d]? = some u := ⟨_, List.getElem?_eq_getElem (by simpa [mll] using hd)⟩
        obtain ⟨u, hu⟩ := e
        rw [hu] at q ⊢
        have r := h0.cells (g := g) rfl (i * 4 + d) u q
        rw [Go.WideShapes.add_plain] at r
        rw [show 0 + i * 4 + d = 0 + (i * 4 + d) by omega]
        exact r
      refine .inr ⟨g, 0, rfl, World.block_lt_of_cell? (u := .int .i64 (C 0).b) _ ⟨g, 0 + 0 * 4 + 0, none⟩ (cell 0 (by omega) 0 (by omega)), fun i hi => ⟨⟨cell i hi 0 (by omega), cell i hi 1 (by omega), cell i hi 2 (by omega), cell i hi 3 (by omega)⟩, hb i hi⟩⟩
theorem RowL.below {B : Nat} {w w' : World} {v : Value} {n : Nat} {C : Nat → MV} (h : RowL B w v n C) (hb : Below w.heap.size w w') : RowL B w' v n C := ⟨own_below h.1 hb, h.2⟩
theorem l1OnceH (B : Nat) (p : Nat) (a : Option Addr) (len cap : Nat) (n : Int) (w : World) (hc : Base.Cur B w p a len cap) (n0 : 1 ≤ n) (n1 : n ≤ 2147483648) :
    Calls Try.prog 27 #[.pointer (some ⟨p, 0, none⟩), .int .i64 n] w fun e w' => ∃ b : Bool, e = .returned (.bool b) ∧ Base.Cur B w' p a len cap ∧ w.grownBy w' (some p) := by
  have hc := Base.hide hc
  go_enter Try.func27, Try.ntmps27
  go_wp2_with fail
  refine (Base.l1Below B p a len cap _ _ hc.out (by omega) (by omega)).mono ?_; rintro e w1 ⟨x, x0, x1, rfl, d1, g1⟩
  go_wp2_with fail
  go_ret
  exact ⟨_, rfl, d1, g1⟩
/-- a list of lives and a life in a variable, beside the cursor -/
structure Pot (base : Nat) (w : World) (v : Value) (m : Nat) (C : Nat → MV) (q : Nat) (x : MV) : Prop where
  row : RowL base w v m C
  hq : q < w.heap.size
  hb : base ≤ q
  ne : v.ownBlock ≠ some q
  c0 : w.cell? ⟨q, 0, none⟩ = some (.int .i64 x.b)
  c1 : w.cell? ⟨q, 1, none⟩ = some (.int .i64 x.s)
  c2 : w.cell? ⟨q, 2, none⟩ = some (.int .i64 x.f)
  c3 : w.cell? ⟨q, 3, none⟩ = some (.int .i64 x.t)
  fr : ∀ i, w.frozen? ⟨q, i, none⟩ = false
  bd' : bd x.b ∧ bd x.s ∧ bd x.f ∧ bd x.t
theorem row_drawn {base m p : Nat} {w w' : World} {v : Value} {C : Nat → MV} (h : RowL base w v m C) (hg : w.grownBy w' (some p)) (hp : p < base) : RowL base w' v m C :=
  ⟨h.1.kept hg (by
    rcases hv : v.ownBlock with _ | k
    · exact .inl rfl
    · right
      have := (h.1.lt k hv).1
      intro e
      injection e with e
      omega), h.2⟩
theorem grown_setL (w : World) (q j : Nat) (u : Value) : w.grownBy (w.setCell ⟨q, j, none⟩ u) (some q) := by
  have k := Kept.setCell w ⟨q, j, none⟩ u
  exact ⟨k.os, k.tape, k.output, k.size, fun b hb hn => k.block b hb (fun e => hn (by have e : b = q := e; rw [e]))⟩
theorem Pot.drawn {base m q p : Nat} {w w' : World} {v : Value} {C : Nat → MV} {x : MV} (h : Pot base w v m C q x) (hg : w.grownBy w' (some p)) (hp : p < base) : Pot base w' v m C q x := by
  have hb := h.hb
  have blk := hg.block q h.hq (by intro e; injection e with e; omega)
  have c : ∀ i, w'.cell? ⟨q, i, none⟩ = w.cell? ⟨q, i, none⟩ := fun i => World.cell?_of_block (w := w) (a := ⟨q, i, none⟩) blk
  exact ⟨row_drawn h.row hg hp, Nat.lt_of_lt_of_le h.hq hg.size, h.hb, h.ne, (c 0).trans h.c0, (c 1).trans h.c1, (c 2).trans h.c2, (c 3).trans h.c3, fun i => (World.frozen?_of_block (w := w) (a := ⟨q, i, none⟩) blk).trans (h.fr i), h.bd'⟩
theorem Pot.below {base m q : Nat} {w w' : World} {v : Value} {C : Nat → MV} {x : MV} (h : Pot base w v m C q x) (hb : Below w.heap.size w w') : Pot base w' v m C q x :=
  have c : ∀ i, w'.cell? ⟨q, i, none⟩ = w.cell? ⟨q, i, none⟩ := fun i => hb.cell (p := ⟨q, i, none⟩) h.hq
  ⟨h.row.below hb, Nat.lt_of_lt_of_le h.hq hb.size, h.hb, h.ne, (c 0).trans h.c0, (c 1).trans h.c1, (c 2).trans h.c2, (c 3).trans h.c3, fun i => (hb.frozen (p := ⟨q, i, none⟩) h.hq).trans (h.fr i), h.bd'⟩
theorem Pot.setS {base m q : Nat} {w : World} {v : Value} {C : Nat → MV} {x : MV} (h : Pot base w v m C q x) (s : Int) (hs : bd s) : Pot base (w.setCell ⟨q, 1, none⟩ (.int .i64 s)) v m C q ⟨x.b, s, x.f, x.t⟩ := by
  have o : ∀ i, i ≠ 1 → (w.setCell ⟨q, 1, none⟩ (.int .i64 s)).cell? ⟨q, i, none⟩ = w.cell? ⟨q, i, none⟩ := fun i hi => World.cell?_setCell_other _ _ _ _ (by intro e; injection e with _ e _; omega)
  exact ⟨⟨h.row.1.kept (grown_setL w q 1 _) (.inr h.ne), h.row.2⟩, by simpa [World.setCell] using h.hq, h.hb, h.ne, (o 0 (by omega)).trans h.c0, World.cell?_setCell_same _ _ _ h.c1, (o 2 (by omega)).trans h.c2, (o 3 (by omega)).trans h.c3, fun i => by rw [World.frozen?_setCell]; exact h.fr i, ⟨h.bd'.1, hs, h.bd'.2.2.1, h.bd'.2.2.2⟩⟩
theorem Pot.setT {base m q : Nat} {w : World} {v : Value} {C : Nat → MV} {x : MV} (h : Pot base w v m C q x) (s : Int) (hs : bd s) : Pot base (w.setCell ⟨q, 3, none⟩ (.int .i64 s)) v m C q ⟨x.b, x.s, x.f, s⟩ := by
  have o : ∀ i, i ≠ 3 → (w.setCell ⟨q, 3, none⟩ (.int .i64 s)).cell? ⟨q, i, none⟩ = w.cell? ⟨q, i, none⟩ := fun i hi => World.cell?_setCell_other _ _ _ _ (by intro e; injection e with _ e _; omega)
  exact ⟨⟨h.row.1.kept (grown_setL w q 3 _) (.inr h.ne), h.row.2⟩, by simpa [World.setCell] using h.hq, h.hb, h.ne, (o 0 (by omega)).trans h.c0, (o 1 (by omega)).trans h.c1, (o 2 (by omega)).trans h.c2, World.cell?_setCell_same _ _ _ h.c3, fun i => by rw [World.frozen?_setCell]; exact h.fr i, ⟨h.bd'.1, h.bd'.2.1, h.bd'.2.2.1, hs⟩⟩
theorem cur_other {B p q j len cap : Nat} {a : Option Addr} {w : World} (h : Base.Cur B w p a len cap) (hq : q ≠ p) (hB : B ≤ q) (u : Value) : Base.Cur B (w.setCell ⟨q, j, none⟩ u) p a len cap := by
  have o : ∀ i, (w.setCell ⟨q, j, none⟩ u).cell? ⟨p, i, none⟩ = w.cell? ⟨p, i, none⟩ := fun i => World.cell?_setCell_other _ _ _ _ (by intro e; injection e with e _ _; omega)
  obtain ⟨i, hh, s1, s2, s3⟩ := h.st
  exact ⟨h.hp, h.code.below ((Below.refl B w).setCell (p := ⟨q, j, none⟩) hB _), (o 0).trans h.c0, ⟨i, hh, (o 1).trans s1, (o 2).trans s2, s3⟩, by rw [World.frozen?_setCell]; exact h.f1, by rw [World.frozen?_setCell]; exact h.f2⟩
theorem cur_kept {S : Nat → Prop} {B p len cap : Nat} {a : Option Addr} {w w' : World} (h : Base.Cur B w p a len cap) (hk : Kept S w w') (hp : ¬ S p) (hb : Below B w w') : Base.Cur B w' p a len cap := by
  have lt := h.lt
  have o : ∀ i, w'.cell? ⟨p, i, none⟩ = w.cell? ⟨p, i, none⟩ := fun i => kept_cell (p := ⟨p, i, none⟩) hk lt hp
  have f : ∀ i, w'.frozen? ⟨p, i, none⟩ = w.frozen? ⟨p, i, none⟩ := fun i => World.frozen?_of_block (w := w) (a := ⟨p, i, none⟩) (hk.block p lt hp)
  obtain ⟨i, hh, s1, s2, s3⟩ := h.st
  exact ⟨h.hp, h.code.below hb, (o 0).trans h.c0, ⟨i, hh, (o 1).trans s1, (o 2).trans s2, s3⟩, (f 1).trans h.f1, (f 2).trans h.f2⟩
theorem pot_new {base m : Nat} {w : World} {v : Value} {C : Nat → MV} (x : MV) (h : RowL base w v m C) (hb : base ≤ w.heap.size) (hx : bd x.b ∧ bd x.s ∧ bd x.f ∧ bd x.t) : Pot base (w.alloc (.cells #[.int .i64 x.b, .int .i64 x.s, .int .i64 x.f, .int .i64 x.t] 31)) v m C w.heap.size x :=
  have mc := mcells w (.int .i64 x.b) (.int .i64 x.s) (.int .i64 x.f) (.int .i64 x.t) 31
  ⟨h.below ((Below.refl _ _).alloc (Nat.le_refl _) _), by simp, hb, fun e => by have := (h.1.lt _ e).2; omega, mc.1, mc.2.1, mc.2.2.1, mc.2.2.2, fun i => by simp [go_sem], hx⟩
theorem infoLifeL : (Try.prog.info? 31).map (fun i => (i.zero, i.size, i.bytes)) = some (some (.agg #[.int .i64 0, .int .i64 0, .int .i64 0, .int .i64 0]), 4, 32) := by kernel_rfl
set_option maxRecDepth 100000 in
set_option maxHeartbeats 8000000 in
theorem drawLives (B p len cap : Nat) (a : Option Addr) (w : World) (hc : Base.Cur B w p a len cap) (hB : B ≤ w.heap.size) :
    Calls Try.prog 10 #[.pointer (some ⟨p, 0, none⟩)] w fun e w' => ∃ v n C, e = .returned v ∧ n ≤ 12 ∧ RowL w.heap.size w' v n C ∧ Below B w w' := by
  obtain ⟨i0, hi0, hii⟩ := Option.map_eq_some_iff.1 infoLifeL
  simp only [Prod.mk.injEq] at hii
  obtain ⟨hz0, hz1, hz2⟩ := hii
  have pw := hc.lt
  have hBp := hc.hp
  obtain ⟨W0, hW0⟩ : ∃ W0, w.alloc (.cells #[] 31) = W0 := ⟨_, rfl⟩
  have b0 : Below w.heap.size w W0 := by rw [← hW0]; exact (Below.refl _ _).alloc (Nat.le_refl _) _
  have D0 := hide (show Base.Cur B W0 p a len cap by rw [← hW0]; exact Base.Cur.alloc hc _)
  have R0 := hide (show RowL w.heap.size W0 (.slice (some ⟨w.heap.size, 0, none⟩) 0 0) 0 (fun _ => ⟨0, 0, 0, 0⟩) from ⟨⟨rfl, .inr ⟨w.heap.size, 0, #[], rfl, Nat.le_refl _, by rw [← hW0]; exact heap_alloc_new w _, Nat.le_refl _, Nat.zero_le _, rfl, rfl⟩⟩, fun j hj => by omega⟩)
  have B0 := hide (b0.mono hB)
  have z0 := b0.size
  clear hc b0
  go_enter Try.func10, Try.ntmps10
  go_wp2_with fail
  clear hW0
  refine (Base.l1Below B p a len cap 12 _ D0.out (by omega) (by omega)).mono ?_
  rintro e W1 ⟨n0, n1, n2, rfl, d1, g1⟩
  have R1 := hide (row_drawn R0.out g1 pw)
  have D1 := hide d1
  have B1 := hide (B0.out.trans (D0.out.below g1))
  have z1 : w.heap.size ≤ W1.heap.size := by have := g1.size; omega
  obtain ⟨nn, rfl⟩ : ∃ nn : Nat, n0 = nn := ⟨n0.toNat, by omega⟩
  clear d1 g1
  go_wp2_with fail
  go_loopw [3, 4] (fun v t wx => ∃ (k m : Nat) (C : Nat → MV), k + m ≤ 11 ∧ t = .int .i64 k ∧ RowL w.heap.size wx v m C ∧ Base.Cur B wx p a len cap ∧ Below B w wx ∧ w.heap.size ≤ wx.heap.size) (fun _ t _ => (intOf t).toNat)
  case atStart => exact ⟨nn, 0, _, by omega, rfl, R1.out, D1.out, B1.out, z1⟩
  case round =>
    obtain ⟨X, rfl⟩ : ∃ X, X = wr := ⟨_, rfl⟩
    obtain ⟨k', m, C, hkm, rfl, hrl, hcu, hby, hsz⟩ := hrel
    obtain ⟨ra, rc, rfl, _⟩ := hrl.slice
    have HRL := hide hrl
    have HCU := hide hcu
    have HBY := hide hby
    clear hrl hcu hby
    by_cases k0 : k' = 0
    · subst k0
      go_wp2_with fail
      go_ret
      exact ⟨_, m, C, rfl, by omega, HRL.out, HBY.out⟩
    obtain ⟨k, rfl⟩ : ∃ k, k' = k + 1 := ⟨k' - 1, by omega⟩
    clear k0
    go_wp2_with fail
    refine (Base.l1Below B p a len cap 12 _ HCU.out (by omega) (by omega)).mono ?_
    rintro e X1 ⟨f, f0, f1, rfl, d1, g1⟩
    have R1 := hide (row_drawn HRL.out g1 pw)
    have D1 := hide d1
    have BX1 := hide (HBY.out.trans (HCU.out.below g1))
    have q1 : X.heap.size ≤ X1.heap.size := g1.size
    clear d1 g1
    go_wp2_with fail
    refine (Base.l1Below B p a len cap 9 _ D1.out (by omega) (by omega)).mono ?_
    rintro e X2 ⟨s, s0, s1, rfl, d2, g2⟩
    have R2 := hide (row_drawn R1.out g2 pw)
    have D2 := hide d2
    have BX2 := hide (BX1.out.trans (D1.out.below g2))
    have q2 : X1.heap.size ≤ X2.heap.size := g2.size
    clear d2 g2
    go_wp2_with fail
    refine (Base.l1Below B p a len cap 5 _ D2.out (by omega) (by omega)).mono ?_
    rintro e X3 ⟨t, t0, t1, rfl, d3, g3⟩
    have R3 := hide (row_drawn R2.out g3 pw)
    have BX3 := hide (BX2.out.trans (D2.out.below g3))
    have q3 : X2.heap.size ≤ X3.heap.size := g3.size
    obtain ⟨s', hs'⟩ : ∃ s', 1 + s = s' := ⟨_, rfl⟩
    obtain ⟨t', ht'⟩ : ∃ t', f + t = t' := ⟨_, rfl⟩
    obtain ⟨Y0, hY0⟩ : ∃ Y0, X3.alloc (.cells #[.int .i64 (m : Int), .int .i64 s', .int .i64 f, .int .i64 t'] 31) = Y0 := ⟨_, rfl⟩
    have P0 := hide (show Pot w.heap.size Y0 (.slice ra m rc) m C X3.heap.size ⟨(m : Int), s', f, t'⟩ by rw [← hY0]; exact pot_new ⟨(m : Int), s', f, t'⟩ R3.out (by omega) ⟨by unfold bd; dsimp only; omega, by unfold bd; dsimp only; omega, by unfold bd; dsimp only; omega, by unfold bd; dsimp only; omega⟩)
    have D4 := hide (show Base.Cur B Y0 p a len cap by rw [← hY0]; exact Base.Cur.alloc d3 _)
    have BY0 := hide (show Below B w Y0 by rw [← hY0]; exact BX3.out.alloc (by omega) _)
    have zY0 : Y0.heap.size = X3.heap.size + 1 := by rw [← hY0]; simp
    clear d3 g3
    go_wp2_with fail
    clear hY0
    refine (l1OnceH B p a len cap 40 _ D4.out (by omega) (by omega)).mono ?_
    rintro e Y1 ⟨b1, rfl, d5, g5⟩
    have P1 := hide (P0.out.drawn g5 pw)
    have D5 := hide d5
    have BY1 := hide (BY0.out.trans (D4.out.below g5))
    have zY1 : X3.heap.size + 1 ≤ Y1.heap.size := by have := g5.size; omega
    clear d5 g5
    have wf : IntKind.i64.wrap (f - 1) = f - 1 := by rw [IntKind.wrap_i64]; omega
    cases b1 with
    | false =>
      go_wp2_with fail
      refine (l1OnceH B p a len cap 60 _ D5.out (by omega) (by omega)).mono ?_
      rintro e R1 ⟨b2, rfl, d6, g6⟩
      have PR1 := hide (P1.out.drawn g6 pw)
      have DR1 := hide d6
      have BR1 := hide (BY1.out.trans (D5.out.below g6))
      have zR1 : X3.heap.size + 1 ≤ R1.heap.size := by have := g6.size; omega
      clear d6 g6
      cases b2 with
      | false =>
        obtain ⟨xx, hxx⟩ : ∃ xx : MV, xx = ⟨(m : Int), s', f, t'⟩ := ⟨_, rfl⟩
        rw [← hxx] at PR1
        clear hxx
        obtain ⟨k0, k1, k2, k3⟩ := And.intro PR1.out.c0 (And.intro PR1.out.c1 (And.intro PR1.out.c2 PR1.out.c3))
        have bdx := hide PR1.out.bd'
        have AP := hide (show msl C m ++ [.int .i64 xx.b, .int .i64 xx.s, .int .i64 xx.f, .int .i64 xx.t] = msl (fun j => if j = m then xx else C j) (m + 1) by
          show _ = msl (fun j => if j = m then xx else C j) m ++ mll (if m = m then xx else C m)
          rw [msl_same m (C := C) (D := fun j => if j = m then xx else C j) (fun i hi => if_neg (by omega)), if_pos rfl]
          rfl)
        go_wp2_with (at_builtin; refine wpList_append_own _ rfl _ _ 24 rfl w.heap.size 31 i0 (.agg #[.int .i64 0, .int .i64 0, .int .i64 0, .int .i64 0]) 4 32 Try.underlying24 hi0 hz0 hz1 hz2 rfl (by decide) _ _ _ rfl (PR1.out.row.1.alloc _) ⟨R1.heap.size, 0, none⟩ 1 1 [.int .i64 xx.b, .int .i64 xx.s, .int .i64 xx.f, .int .i64 xx.t] rfl rfl (World.news_of_block (cs := #[.int .i64 xx.b, .int .i64 xx.s, .int .i64 xx.f, .int .i64 xx.t]) (t := 31) (fr := (0, 0)) (heap_alloc_new R1 _)) (by simp [Value.oneCell']) (by unfold maxLen; omega) (by omega) (by simp; omega) ?_; intro v' V9 hown1 hgrow1 _)
        go_roundw
        case rel =>
          rw [AP.out] at hown1
          have BA := (Below.refl R1.heap.size R1).alloc (Nat.le_refl _) (.cells #[.int .i64 xx.b, .int .i64 xx.s, .int .i64 xx.f, .int .i64 xx.t] 31)
          have KA : Kept (fun q => (Value.slice ra m rc).ownBlock = some q) R1 V9 := (Kept.of_below BA).trans ⟨hgrow1.os, hgrow1.tape, hgrow1.output, hgrow1.size, fun q hq hn => hgrow1.block q hq (fun e => hn e.symm)⟩
          have KB := KA.below (B := B) (by omega) (fun q hq => by have := (PR1.out.row.1.lt q hq).1; omega)
          refine ⟨k, m + 1, _, by omega, by go_num, ⟨hown1, fun j hj => ?_⟩, cur_kept DR1.out KA (fun e => by have := (PR1.out.row.1.lt _ e).1; omega) KB, BR1.out.trans KB, by have := KA.size; omega⟩
          (try dsimp only)
          split
          · exact bdx.out
          · exact PR1.out.row.2 j (by omega)
        case measure => first | (simp [intOf]; done) | (simp [intOf]; omega)
      | true =>
        obtain ⟨Z18, hZ18⟩ : ∃ Z18, R1.alloc (.cells #[.int .i64 400, .int .i64 401, .int .i64 (f - 1)] 3) = Z18 := ⟨_, rfl⟩
        have bz18 : Below R1.heap.size R1 Z18 := by rw [← hZ18]; exact (Below.refl _ _).alloc (Nat.le_refl _) _
        have dz18 : Base.Cur B Z18 p a len cap := by rw [← hZ18]; exact Base.Cur.alloc DR1.out _
        have zz18 : Z18.heap.size = R1.heap.size + 1 := by rw [← hZ18]; simp
        have hl18 : ∀ j, j < 3 → ∃ z : Int, Z18.cell? ⟨R1.heap.size, j, none⟩ = some (.int .i64 z) ∧ (-1) ≤ z ∧ z ≤ 401 := by
          rw [← hZ18]
          exact Base.laid_ints R1 [400, 401, f - 1] 3 (-1) 401 (by intro z hz; simp at hz; omega)
        have CP18 := hide (Base.l1PickInt B p a len cap R1.heap.size 3 (-1) 401 Z18 dz18 (by omega) (by omega) (by omega) hl18)
        have PZ18 := hide (PR1.out.below bz18)
        have DZ18 := hide dz18
        have BZ18 := hide (BR1.out.trans (bz18.mono (by omega)))
        clear bz18 dz18 hl18
        go_wp2_with fail
        clear hZ18
        refine CP18.out.mono ?_
        rintro e Q18 ⟨u18, u180, u181, rfl, d18, g18⟩
        have PQ18 := hide (PZ18.out.drawn g18 pw)
        have BQ18 := hide (BZ18.out.trans (DZ18.out.below g18))
        have zq18 : R1.heap.size + 1 ≤ Q18.heap.size := by have := g18.size; omega
        obtain ⟨T1, hV⟩ : ∃ T1, Q18.setCell ⟨X3.heap.size, 3, none⟩ (.int .i64 u18) = T1 := ⟨_, rfl⟩
        have PT1 := hide (show Pot w.heap.size T1 (.slice ra m rc) m C X3.heap.size ⟨(m : Int), s', f, u18⟩ by rw [← hV]; exact PQ18.out.setT u18 (by unfold bd; omega))
        have DT1 := hide (show Base.Cur B T1 p a len cap by rw [← hV]; exact cur_other d18 (by omega) (by omega) _)
        have BT1 := hide (show Below B w T1 by rw [← hV]; exact BQ18.out.setCell (p := ⟨X3.heap.size, 3, none⟩) (by show B ≤ X3.heap.size; omega) _)
        have zv18 : Q18.heap.size ≤ T1.heap.size := by rw [← hV]; simp [World.setCell]
        have cc18 := PQ18.out.c3
        have ff18 := PQ18.out.fr 3
        clear d18 g18 CP18
        go_upto_region 11 with fail
        clear hV cc18 ff18
        obtain ⟨xx, hxx⟩ : ∃ xx : MV, xx = ⟨(m : Int), s', f, u18⟩ := ⟨_, rfl⟩
        rw [← hxx] at PT1
        clear hxx
        obtain ⟨k0, k1, k2, k3⟩ := And.intro PT1.out.c0 (And.intro PT1.out.c1 (And.intro PT1.out.c2 PT1.out.c3))
        have bdx := hide PT1.out.bd'
        have AP := hide (show msl C m ++ [.int .i64 xx.b, .int .i64 xx.s, .int .i64 xx.f, .int .i64 xx.t] = msl (fun j => if j = m then xx else C j) (m + 1) by
          show _ = msl (fun j => if j = m then xx else C j) m ++ mll (if m = m then xx else C m)
          rw [msl_same m (C := C) (D := fun j => if j = m then xx else C j) (fun i hi => if_neg (by omega)), if_pos rfl]
          rfl)
        go_wp2_with (at_builtin; refine wpList_append_own _ rfl _ _ 24 rfl w.heap.size 31 i0 (.agg #[.int .i64 0, .int .i64 0, .int .i64 0, .int .i64 0]) 4 32 Try.underlying24 hi0 hz0 hz1 hz2 rfl (by decide) _ _ _ rfl (PT1.out.row.1.alloc _) ⟨T1.heap.size, 0, none⟩ 1 1 [.int .i64 xx.b, .int .i64 xx.s, .int .i64 xx.f, .int .i64 xx.t] rfl rfl (World.news_of_block (cs := #[.int .i64 xx.b, .int .i64 xx.s, .int .i64 xx.f, .int .i64 xx.t]) (t := 31) (fr := (0, 0)) (heap_alloc_new T1 _)) (by simp [Value.oneCell']) (by unfold maxLen; omega) (by omega) (by simp; omega) ?_; intro v' V9 hown1 hgrow1 _)
        go_roundw
        case rel =>
          rw [AP.out] at hown1
          have BA := (Below.refl T1.heap.size T1).alloc (Nat.le_refl _) (.cells #[.int .i64 xx.b, .int .i64 xx.s, .int .i64 xx.f, .int .i64 xx.t] 31)
          have KA : Kept (fun q => (Value.slice ra m rc).ownBlock = some q) T1 V9 := (Kept.of_below BA).trans ⟨hgrow1.os, hgrow1.tape, hgrow1.output, hgrow1.size, fun q hq hn => hgrow1.block q hq (fun e => hn e.symm)⟩
          have KB := KA.below (B := B) (by omega) (fun q hq => by have := (PT1.out.row.1.lt q hq).1; omega)
          refine ⟨k, m + 1, _, by omega, by go_num, ⟨hown1, fun j hj => ?_⟩, cur_kept DT1.out KA (fun e => by have := (PT1.out.row.1.lt _ e).1; omega) KB, BT1.out.trans KB, by have := KA.size; omega⟩
          (try dsimp only)
          split
          · exact bdx.out
          · exact PT1.out.row.2 j (by omega)
        case measure => first | (simp [intOf]; done) | (simp [intOf]; omega)
    | true =>
      obtain ⟨Z7, hZ7⟩ : ∃ Z7, Y1.alloc (.cells #[.int .i64 0, .int .i64 4096, .int .i64 4097] 3) = Z7 := ⟨_, rfl⟩
      have bz7 : Below Y1.heap.size Y1 Z7 := by rw [← hZ7]; exact (Below.refl _ _).alloc (Nat.le_refl _) _
      have dz7 : Base.Cur B Z7 p a len cap := by rw [← hZ7]; exact Base.Cur.alloc D5.out _
      have zz7 : Z7.heap.size = Y1.heap.size + 1 := by rw [← hZ7]; simp
      have hl7 : ∀ j, j < 3 → ∃ z : Int, Z7.cell? ⟨Y1.heap.size, j, none⟩ = some (.int .i64 z) ∧ 0 ≤ z ∧ z ≤ 4097 := by
        rw [← hZ7]
        exact Base.laid_ints Y1 [0, 4096, 4097] 3 0 4097 (by intro z hz; simp at hz; omega)
      have CP7 := hide (Base.l1PickInt B p a len cap Y1.heap.size 3 0 4097 Z7 dz7 (by omega) (by omega) (by omega) hl7)
      have PZ7 := hide (P1.out.below bz7)
      have DZ7 := hide dz7
      have BZ7 := hide (BY1.out.trans (bz7.mono (by omega)))
      clear bz7 dz7 hl7
      go_wp2_with fail
      clear hZ7
      refine CP7.out.mono ?_
      rintro e Q7 ⟨u7, u70, u71, rfl, d7, g7⟩
      have PQ7 := hide (PZ7.out.drawn g7 pw)
      have BQ7 := hide (BZ7.out.trans (DZ7.out.below g7))
      have zq7 : Y1.heap.size + 1 ≤ Q7.heap.size := by have := g7.size; omega
      obtain ⟨S2, hV⟩ : ∃ S2, Q7.setCell ⟨X3.heap.size, 1, none⟩ (.int .i64 u7) = S2 := ⟨_, rfl⟩
      have PS2 := hide (show Pot w.heap.size S2 (.slice ra m rc) m C X3.heap.size ⟨(m : Int), u7, f, t'⟩ by rw [← hV]; exact PQ7.out.setS u7 (by unfold bd; omega))
      have DS2 := hide (show Base.Cur B S2 p a len cap by rw [← hV]; exact cur_other d7 (by omega) (by omega) _)
      have BS2 := hide (show Below B w S2 by rw [← hV]; exact BQ7.out.setCell (p := ⟨X3.heap.size, 1, none⟩) (by show B ≤ X3.heap.size; omega) _)
      have zv7 : Q7.heap.size ≤ S2.heap.size := by rw [← hV]; simp [World.setCell]
      have cc7 := PQ7.out.c1
      have ff7 := PQ7.out.fr 1
      clear d7 g7 CP7
      go_wp2_with fail
      clear hV cc7 ff7
      go_wp2_with fail
      refine (l1OnceH B p a len cap 60 _ DS2.out (by omega) (by omega)).mono ?_
      rintro e R2 ⟨b2, rfl, d6, g6⟩
      have PR2 := hide (PS2.out.drawn g6 pw)
      have DR2 := hide d6
      have BR2 := hide (BS2.out.trans (DS2.out.below g6))
      have zR2 : X3.heap.size + 1 ≤ R2.heap.size := by have := g6.size; omega
      clear d6 g6
      cases b2 with
      | false =>
        obtain ⟨xx, hxx⟩ : ∃ xx : MV, xx = ⟨(m : Int), u7, f, t'⟩ := ⟨_, rfl⟩
        rw [← hxx] at PR2
        clear hxx
        obtain ⟨k0, k1, k2, k3⟩ := And.intro PR2.out.c0 (And.intro PR2.out.c1 (And.intro PR2.out.c2 PR2.out.c3))
        have bdx := hide PR2.out.bd'
        have AP := hide (show msl C m ++ [.int .i64 xx.b, .int .i64 xx.s, .int .i64 xx.f, .int .i64 xx.t] = msl (fun j => if j = m then xx else C j) (m + 1) by
          show _ = msl (fun j => if j = m then xx else C j) m ++ mll (if m = m then xx else C m)
          rw [msl_same m (C := C) (D := fun j => if j = m then xx else C j) (fun i hi => if_neg (by omega)), if_pos rfl]
          rfl)
        go_wp2_with (at_builtin; refine wpList_append_own _ rfl _ _ 24 rfl w.heap.size 31 i0 (.agg #[.int .i64 0, .int .i64 0, .int .i64 0, .int .i64 0]) 4 32 Try.underlying24 hi0 hz0 hz1 hz2 rfl (by decide) _ _ _ rfl (PR2.out.row.1.alloc _) ⟨R2.heap.size, 0, none⟩ 1 1 [.int .i64 xx.b, .int .i64 xx.s, .int .i64 xx.f, .int .i64 xx.t] rfl rfl (World.news_of_block (cs := #[.int .i64 xx.b, .int .i64 xx.s, .int .i64 xx.f, .int .i64 xx.t]) (t := 31) (fr := (0, 0)) (heap_alloc_new R2 _)) (by simp [Value.oneCell']) (by unfold maxLen; omega) (by omega) (by simp; omega) ?_; intro v' V9 hown1 hgrow1 _)
        go_roundw
        case rel =>
          rw [AP.out] at hown1
          have BA := (Below.refl R2.heap.size R2).alloc (Nat.le_refl _) (.cells #[.int .i64 xx.b, .int .i64 xx.s, .int .i64 xx.f, .int .i64 xx.t] 31)
          have KA : Kept (fun q => (Value.slice ra m rc).ownBlock = some q) R2 V9 := (Kept.of_below BA).trans ⟨hgrow1.os, hgrow1.tape, hgrow1.output, hgrow1.size, fun q hq hn => hgrow1.block q hq (fun e => hn e.symm)⟩
          have KB := KA.below (B := B) (by omega) (fun q hq => by have := (PR2.out.row.1.lt q hq).1; omega)
          refine ⟨k, m + 1, _, by omega, by go_num, ⟨hown1, fun j hj => ?_⟩, cur_kept DR2.out KA (fun e => by have := (PR2.out.row.1.lt _ e).1; omega) KB, BR2.out.trans KB, by have := KA.size; omega⟩
          (try dsimp only)
          split
          · exact bdx.out
          · exact PR2.out.row.2 j (by omega)
        case measure => first | (simp [intOf]; done) | (simp [intOf]; omega)
      | true =>
        obtain ⟨Z28, hZ28⟩ : ∃ Z28, R2.alloc (.cells #[.int .i64 400, .int .i64 401, .int .i64 (f - 1)] 3) = Z28 := ⟨_, rfl⟩
        have bz28 : Below R2.heap.size R2 Z28 := by rw [← hZ28]; exact (Below.refl _ _).alloc (Nat.le_refl _) _
        have dz28 : Base.Cur B Z28 p a len cap := by rw [← hZ28]; exact Base.Cur.alloc DR2.out _
        have zz28 : Z28.heap.size = R2.heap.size + 1 := by rw [← hZ28]; simp
        have hl28 : ∀ j, j < 3 → ∃ z : Int, Z28.cell? ⟨R2.heap.size, j, none⟩ = some (.int .i64 z) ∧ (-1) ≤ z ∧ z ≤ 401 := by
          rw [← hZ28]
          exact Base.laid_ints R2 [400, 401, f - 1] 3 (-1) 401 (by intro z hz; simp at hz; omega)
        have CP28 := hide (Base.l1PickInt B p a len cap R2.heap.size 3 (-1) 401 Z28 dz28 (by omega) (by omega) (by omega) hl28)
        have PZ28 := hide (PR2.out.below bz28)
        have DZ28 := hide dz28
        have BZ28 := hide (BR2.out.trans (bz28.mono (by omega)))
        clear bz28 dz28 hl28
        go_wp2_with fail
        clear hZ28
        refine CP28.out.mono ?_
        rintro e Q28 ⟨u28, u280, u281, rfl, d28, g28⟩
        have PQ28 := hide (PZ28.out.drawn g28 pw)
        have BQ28 := hide (BZ28.out.trans (DZ28.out.below g28))
        have zq28 : R2.heap.size + 1 ≤ Q28.heap.size := by have := g28.size; omega
        obtain ⟨T2, hV⟩ : ∃ T2, Q28.setCell ⟨X3.heap.size, 3, none⟩ (.int .i64 u28) = T2 := ⟨_, rfl⟩
        have PT2 := hide (show Pot w.heap.size T2 (.slice ra m rc) m C X3.heap.size ⟨(m : Int), u7, f, u28⟩ by rw [← hV]; exact PQ28.out.setT u28 (by unfold bd; omega))
        have DT2 := hide (show Base.Cur B T2 p a len cap by rw [← hV]; exact cur_other d28 (by omega) (by omega) _)
        have BT2 := hide (show Below B w T2 by rw [← hV]; exact BQ28.out.setCell (p := ⟨X3.heap.size, 3, none⟩) (by show B ≤ X3.heap.size; omega) _)
        have zv28 : Q28.heap.size ≤ T2.heap.size := by rw [← hV]; simp [World.setCell]
        have cc28 := PQ28.out.c3
        have ff28 := PQ28.out.fr 3
        clear d28 g28 CP28
        go_upto_region 11 with fail
        clear hV cc28 ff28
        obtain ⟨xx, hxx⟩ : ∃ xx : MV, xx = ⟨(m : Int), u7, f, u28⟩ := ⟨_, rfl⟩
        rw [← hxx] at PT2
        clear hxx
        obtain ⟨k0, k1, k2, k3⟩ := And.intro PT2.out.c0 (And.intro PT2.out.c1 (And.intro PT2.out.c2 PT2.out.c3))
        have bdx := hide PT2.out.bd'
        have AP := hide (show msl C m ++ [.int .i64 xx.b, .int .i64 xx.s, .int .i64 xx.f, .int .i64 xx.t] = msl (fun j => if j = m then xx else C j) (m + 1) by
          show _ = msl (fun j => if j = m then xx else C j) m ++ mll (if m = m then xx else C m)
          rw [msl_same m (C := C) (D := fun j => if j = m then xx else C j) (fun i hi => if_neg (by omega)), if_pos rfl]
          rfl)
        go_wp2_with (at_builtin; refine wpList_append_own _ rfl _ _ 24 rfl w.heap.size 31 i0 (.agg #[.int .i64 0, .int .i64 0, .int .i64 0, .int .i64 0]) 4 32 Try.underlying24 hi0 hz0 hz1 hz2 rfl (by decide) _ _ _ rfl (PT2.out.row.1.alloc _) ⟨T2.heap.size, 0, none⟩ 1 1 [.int .i64 xx.b, .int .i64 xx.s, .int .i64 xx.f, .int .i64 xx.t] rfl rfl (World.news_of_block (cs := #[.int .i64 xx.b, .int .i64 xx.s, .int .i64 xx.f, .int .i64 xx.t]) (t := 31) (fr := (0, 0)) (heap_alloc_new T2 _)) (by simp [Value.oneCell']) (by unfold maxLen; omega) (by omega) (by simp; omega) ?_; intro v' V9 hown1 hgrow1 _)
        go_roundw
        case rel =>
          rw [AP.out] at hown1
          have BA := (Below.refl T2.heap.size T2).alloc (Nat.le_refl _) (.cells #[.int .i64 xx.b, .int .i64 xx.s, .int .i64 xx.f, .int .i64 xx.t] 31)
          have KA : Kept (fun q => (Value.slice ra m rc).ownBlock = some q) T2 V9 := (Kept.of_below BA).trans ⟨hgrow1.os, hgrow1.tape, hgrow1.output, hgrow1.size, fun q hq hn => hgrow1.block q hq (fun e => hn e.symm)⟩
          have KB := KA.below (B := B) (by omega) (fun q hq => by have := (PT2.out.row.1.lt q hq).1; omega)
          refine ⟨k, m + 1, _, by omega, by go_num, ⟨hown1, fun j hj => ?_⟩, cur_kept DT2.out KA (fun e => by have := (PT2.out.row.1.lt _ e).1; omega) KB, BT2.out.trans KB, by have := KA.size; omega⟩
          (try dsimp only)
          split
          · exact bdx.out
          · exact PT2.out.row.2 j (by omega)
        case measure => first | (simp [intOf]; done) | (simp [intOf]; omega)
theorem drawPack (a : Option Addr) (len cap : Nat) (w : World) (hc : Base.Code w.heap.size w a len) (hlen : len ≤ 1048576) :
    Calls Try.prog 5 #[.slice a len cap] w fun e w' => ∃ la lc n C, e = .returned (.slice la n lc) ∧ n ≤ 12 ∧ n ≤ lc ∧ LM w'.heap.size w' la n C ∧ Below w.heap.size w w' := by
  have CN := hide (Base.l1New a len cap w hc hlen)
  clear hc
  go_enter Try.func5, Try.ntmps5
  go_wp2_with fail
  refine CN.out.mono ?_
  rintro e w1 ⟨rfl, d1, b1⟩
  have CD := hide (drawLives w.heap.size w.heap.size len cap a w1 d1 b1.size)
  have B1 := hide b1
  clear d1 b1 CN
  go_wp2_with fail
  refine CD.out.mono ?_
  rintro e w2 ⟨v, n, C, rfl, hn, hr, b2⟩
  obtain ⟨la, lc, rfl, hl⟩ := hr.slice
  have nc : n ≤ lc := by
    obtain ⟨_, ⟨e, e2⟩ | ⟨g, cg, cur, e, _, _, q, _⟩⟩ := hr.1
    · omega
    · injection e with _ _ e3
      omega
  have R := hide (And.intro hl (B1.out.trans b2))
  clear hr b2 CD hl
  go_wp2_with fail
  go_ret
  exact ⟨la, lc, n, C, rfl, hn, nc, R.out.1, R.out.2⟩
theorem pok_one : POk 1 (fun _ => ⟨0, 2, 0, 0⟩) 1 (fun _ => 0) := by
  refine ⟨rfl, ⟨by omega, fun i hi => ⟨⟨by dsimp only; omega, by dsimp only; omega⟩, by dsimp only; omega, by dsimp only; omega, by dsimp only; omega⟩⟩, fun p hp => by dsimp only; omega, fun i hi k hk => by omega⟩
end Vo
end Go.Proofs.Ytbdcbanbnbaoiaa
