/- Lemmas for the proof of the law. -/
import Derived.Test.YtejfodkobfdelaaMgat
/- Joint on both sides: the walks. -/
namespace Go.Proofs.Ytejfodkobfdelaa
namespace Vo
open Go.ChangeShapes Go.WideShapes Go.ChangeAt Go.RowKit Go.Joins
open Vl Vp
set_option linter.unusedVariables false

/-- what Joint answers -/
def Joined (B : Nat) (r s : Nat) (D E : Nat → Int) (w : World) (e : Ending) (w' : World) : Prop :=
  ∃ a c, e = .returned (.slice a (jn r s D E) c) ∧ OwnL B w' a (jn r s D E) (jt r s D E) ∧ Below w.heap.size w w'
theorem jn_le (r s : Nat) (D E : Nat → Int) : ((jn r s D E : Nat) : Int) ≤ 6 := by
  unfold jn
  split
  · next h => have := (dok_iff.1 h.1).1; have := (dok_iff.1 h.2.1).1; omega
  · omega
theorem joined_no {B r s : Nat} {D E : Nat → Int} {w w' : World} {a : Option Addr} (h : ¬ JOk r s D E) (hb : Below w.heap.size w w') : Joined B r s D E w (.returned (.slice a 0 0)) w' :=
  ⟨a, 0, by rw [jn_no h], by rw [jn_no h]; exact .inl rfl, hb⟩
theorem joined_yes {B r s N : Nat} {D E : Nat → Int} {w w' : World} {a : Option Addr} {c : Nat} (h : JOk r s D E) (hN : N = max r s) (ho : OwnL B w' a N (jt r s D E)) (hb : Below w.heap.size w w') : Joined B r s D E w (.returned (.slice a N c)) w' := by
  subst hN
  exact ⟨a, c, by rw [jn_yes h], by rw [jn_yes h]; exact ho, hb⟩
theorem Joined.comm {B r s : Nat} {D E : Nat → Int} {w w' : World} {e : Ending} (h : Joined B s r E D w e w') : Joined B r s D E w e w' := by
  unfold Joined at *
  rw [jn_comm r s D E, jt_comm r s D E]; exact h

set_option maxHeartbeats 2000000 in
theorem specJoint (B : Nat) (a b : Option Addr) (r s cap dap : Nat) (D E : Nat → Int) (w : World) (h : Ints B w a r D) (h' : Ints B w b s E) (hB : B ≤ w.heap.size) (hr : (r : Int) ≤ 1048576) (hs : (s : Int) ≤ 1048576) :
    Calls Try.prog 32 #[.slice a r cap, .slice b s dap] w fun e w' => Joined w.heap.size r s D E w e w' := by
  have H := hide h
  have H' := hide h'
  clear h h'
  have BA := hide (show Below w.heap.size w (w.alloc (.cells #[] 3)) from (Below.refl _ _).alloc (Nat.le_refl _) _)
  by_cases d1 : dok r D = false
  · have q := hide (show ¬ JOk r s D E from fun v => by have := v.1; rw [d1] at this; exact absurd this (by decide))
    go_enter Try.func32, Try.ntmps32
    go_wp2_with fail
    refine (Vs.specDimsOk B a r cap D _ H.out hr).mono ?_; rintro e1 w1 ⟨rfl, hq⟩; have hq := hq.symm; subst hq
    rw [d1]
    clear d1
    go_wp2_with fail
    go_ret
    exact joined_no q.out BA.out
  have d1' : dok r D = true := by simpa using d1
  clear d1
  by_cases d2 : dok s E = false
  · have q := hide (show ¬ JOk r s D E from fun v => by have := v.2.1; rw [d2] at this; exact absurd this (by decide))
    go_enter Try.func32, Try.ntmps32
    go_wp2_with fail
    refine (Vs.specDimsOk B a r cap D _ H.out hr).mono ?_; rintro e1 w1 ⟨rfl, hq⟩; have hq := hq.symm; subst hq
    rw [d1']
    clear d1'
    go_wp2_with fail
    refine (Vs.specDimsOk B b s dap E _ H'.out hs).mono ?_; rintro e1 w1 ⟨rfl, hq⟩; have hq := hq.symm; subst hq
    rw [d2]
    clear d2
    go_wp2_with fail
    go_ret
    exact joined_no q.out BA.out
  have d2' : dok s E = true := by simpa using d2
  clear d2
  have r6 : (r : Int) ≤ 6 := by have := (dok_iff.1 d1').1; omega
  have s6 : (s : Int) ≤ 6 := by have := (dok_iff.1 d2').1; omega
  have HD := hide d1'
  have HE := hide d2'
  have rngD := hide (fun j (hj : j < r) => dok_len d1' hj)
  have rngE := hide (fun j (hj : j < s) => dok_len d2' hj)
  by_cases rs : (r : Int) < s
  · skip
    have HN := hide (show s = max r s by omega)
    have hmk := make_int s (by omega)
    go_enter Try.func32, Try.ntmps32
    go_wp2_with fail
    refine (Vs.specDimsOk B a r cap D _ H.out hr).mono ?_; rintro e1 w1 ⟨rfl, hq⟩; have hq := hq.symm; subst hq
    rw [d1']
    go_wp2_with fail
    refine (Vs.specDimsOk B b s dap E _ H'.out hs).mono ?_; rintro e1 w1 ⟨rfl, hq⟩; have hq := hq.symm; subst hq
    rw [d2']
    clear d1' d2'
    go_wp2_with fail
    go_loopw [7] (fun i wx => ∃ k : Nat, k ≤ s ∧ i = .int .i64 k ∧ Rw wx w.heap.size s (fun j => if s - 1 - j < k then jt r s D E j else 0) ∧ (∀ t, t < k → fits (bk r D t) (bk s E t)) ∧ w.heap.size < wx.heap.size ∧ Below w.heap.size w wx) (fun i _ => s - (intOf i).toNat)
    case atStart => exact ⟨0, Nat.zero_le _, rfl, (rw_new w s _).same (fun t ht => by simp), fun _ h => by omega, by simp, (Below.refl _ _).alloc (Nat.le_refl _) _⟩
    case round =>
      obtain ⟨k, hk, rfl, hw, hf, hz, hb⟩ := hrel
      have HW := hide hw
      have HF := hide hf
      have HB := hide hb
      clear hw hf hb
      by_cases hlt : k < s
      · have kI : (k : Int) < s := by omega
        obtain ⟨m, hm⟩ : ∃ m : Nat, (s : Int) - 1 - k = m := ⟨s - 1 - k, by omega⟩
        have mlt : m < s := by omega
        have mI : (m : Int) < s := by omega
        obtain ⟨c1, f1, _⟩ := HW.out m mlt
        have x1 := bk_rng rngD.out k
        have y1 := bk_rng rngE.out k
        have ej := hide (show jt r s D E m = max (bk r D k) (bk s E k) by
          unfold jt; rw [← HN.out, show s - 1 - m = k by omega])
        go_wp2_with fail
        refine (l3Back B a r cap k D _ (H.out.below (HB.out.mono hB)) r6 (by omega)).mono ?_; rintro e1 w1 ⟨rfl, hq⟩; have hq := hq.symm; subst hq
        go_wp2_with fail
        refine (l3Back B b s dap k E _ (H'.out.below (HB.out.mono hB)) s6 (by omega)).mono ?_; rintro e1 w1 ⟨rfl, hq⟩; have hq := hq.symm; subst hq
        by_cases ft : fits (bk r D k) (bk s E k)
        · have FT := hide ft
          have key : ∀ v : Int, v = jt r s D E m → ∃ k' : Nat, k' ≤ s ∧ Value.int .i64 ((k : Int) + 1) = .int .i64 k' ∧ Rw (wr.setCell ⟨w.heap.size, m, none⟩ (.int .i64 v)) w.heap.size s (fun j => if s - 1 - j < k' then jt r s D E j else 0) ∧ (∀ t, t < k' → fits (bk r D t) (bk s E t)) ∧ w.heap.size < (wr.setCell ⟨w.heap.size, m, none⟩ (.int .i64 v)).heap.size ∧ Below w.heap.size w (wr.setCell ⟨w.heap.size, m, none⟩ (.int .i64 v)) := by
            rintro v rfl
            refine ⟨k + 1, by omega, by go_num, (HW.out.set m _ (by have := jt_rng rngD.out rngE.out m; unfold bd; omega)).same (fun t ht => ?_), fun t ht => ?_, by simpa [World.setCell] using hz, HB.out.setCell (p := ⟨w.heap.size, m, none⟩) (Nat.le_refl _) _⟩
            · by_cases c : t = m
              · subst c; simp <;> omega
              · simp only [c, if_false]
                by_cases c2 : s - 1 - t < k
                · rw [if_pos c2, if_pos (by omega)]
                · rw [if_neg c2, if_neg (by omega)]
            · by_cases c : t = k
              · rw [c]; exact FT.out
              · exact HF.out t (by omega)
          have KEY := hide key
          clear key
          rcases Decidable.em (bk r D k = bk s E k) with q1 | q1
          · have p1 : (bk r D k != bk s E k) = false := by rw [bne_eq_false_iff_eq]; exact q1
            have p4 : decide (bk r D k < bk s E k) = false := by rw [decide_eq_false_iff_not]; omega
            have ev := hide (show bk r D k = jt r s D E m by rw [ej.out]; omega)
            clear q1 ft
            go_wp2_with fail
            go_roundw
            case rel => exact KEY.out _ ev.out
            case measure => simp [intOf]; omega
          · have p1 : (bk r D k != bk s E k) = true := by rw [bne_iff_ne]; exact q1
            rcases Decidable.em (bk r D k = 1) with q2 | q2
            · have p2 : (bk r D k != 1) = false := by rw [bne_eq_false_iff_eq]; exact q2
              have p4 : decide (bk r D k < bk s E k) = true := by rw [decide_eq_true_iff]; omega
              have ev := hide (show bk s E k = jt r s D E m by rw [ej.out]; omega)
              clear q1 q2 ft
              go_wp2_with fail
              go_roundw
              case rel => exact KEY.out _ ev.out
              case measure => simp [intOf]; omega
            · have p2 : (bk r D k != 1) = true := by rw [bne_iff_ne]; exact q2
              have q3 : bk s E k = 1 := by unfold fits at ft; omega
              have p3 : (bk s E k != 1) = false := by rw [bne_eq_false_iff_eq]; exact q3
              have p4 : decide (bk r D k < bk s E k) = false := by rw [decide_eq_false_iff_not]; omega
              have ev := hide (show bk r D k = jt r s D E m by rw [ej.out]; omega)
              clear q1 q2 q3 ft
              go_wp2_with fail
              go_roundw
              case rel => exact KEY.out _ ev.out
              case measure => simp [intOf]; omega
        · have q := hide (show ¬ JOk r s D E from fun v => ft (v.2.2.1 k (by rw [← HN.out]; exact hlt)))
          have p1 : (bk r D k != bk s E k) = true := by rw [bne_iff_ne]; intro c; exact ft (.inl c)
          have p2 : (bk r D k != 1) = true := by rw [bne_iff_ne]; intro c; exact ft (.inr (.inl c))
          have p3 : (bk s E k != 1) = true := by rw [bne_iff_ne]; intro c; exact ft (.inr (.inr c))
          clear ft
          go_wp2_with fail
          go_ret
          exact joined_no q.out (HB.out.alloc HB.out.size _)
      · obtain rfl : s = k := by omega
        have hrow := hide (HW.out.same (E := jt r s D E) (fun t ht => by rw [if_pos (by omega)]))
        have eo := hide (show dok s (jt r s D E) = dok (max r s) (jt r s D E) by rw [← HN.out])
        go_wp2_with fail
        refine (Vs.specDimsOk wr.heap.size _ s s (jt r s D E) _ (hrow.out.ints hz) (by omega)).mono ?_; rintro e1 w1 ⟨rfl, hq⟩; have hq := hq.symm; subst hq
        cases hd : dok s (jt r s D E) with
        | false =>
          have q := hide (show ¬ JOk r s D E from fun v => by have := v.2.2.2; rw [← eo.out, hd] at this; exact absurd this (by decide))
          clear hd
          go_wp2_with fail
          go_ret
          exact joined_no q.out (HB.out.alloc HB.out.size _)
        | true =>
          have q := hide (show JOk r s D E from ⟨HD.out, HE.out, fun t ht => HF.out t (by rw [HN.out]; exact ht), by rw [← eo.out]; exact hd⟩)
          clear hd
          go_wp2_with fail
          go_ret
          exact joined_yes q.out HN.out (.inr ⟨_, rfl, Nat.le_refl _, hrow.out⟩) HB.out
  · skip
    have HN := hide (show r = max r s by omega)
    have hmk := make_int r (by omega)
    have rs' : decide ((r : Int) < s) = false := by rw [decide_eq_false_iff_not]; exact rs
    have rs2 : decide (r < s) = false := by rw [decide_eq_false_iff_not]; omega
    clear rs
    go_enter Try.func32, Try.ntmps32
    go_wp2_with fail
    refine (Vs.specDimsOk B a r cap D _ H.out hr).mono ?_; rintro e1 w1 ⟨rfl, hq⟩; have hq := hq.symm; subst hq
    rw [d1']
    go_wp2_with fail
    refine (Vs.specDimsOk B b s dap E _ H'.out hs).mono ?_; rintro e1 w1 ⟨rfl, hq⟩; have hq := hq.symm; subst hq
    rw [d2']
    clear d1' d2'
    go_wp2_with fail
    go_loopw [7] (fun i wx => ∃ k : Nat, k ≤ r ∧ i = .int .i64 k ∧ Rw wx w.heap.size r (fun j => if r - 1 - j < k then jt r s D E j else 0) ∧ (∀ t, t < k → fits (bk r D t) (bk s E t)) ∧ w.heap.size < wx.heap.size ∧ Below w.heap.size w wx) (fun i _ => r - (intOf i).toNat)
    case atStart => exact ⟨0, Nat.zero_le _, rfl, (rw_new w r _).same (fun t ht => by simp), fun _ h => by omega, by simp, (Below.refl _ _).alloc (Nat.le_refl _) _⟩
    case round =>
      obtain ⟨k, hk, rfl, hw, hf, hz, hb⟩ := hrel
      have HW := hide hw
      have HF := hide hf
      have HB := hide hb
      clear hw hf hb
      by_cases hlt : k < r
      · have kI : (k : Int) < r := by omega
        obtain ⟨m, hm⟩ : ∃ m : Nat, (r : Int) - 1 - k = m := ⟨r - 1 - k, by omega⟩
        have mlt : m < r := by omega
        have mI : (m : Int) < r := by omega
        obtain ⟨c1, f1, _⟩ := HW.out m mlt
        have x1 := bk_rng rngD.out k
        have y1 := bk_rng rngE.out k
        have ej := hide (show jt r s D E m = max (bk r D k) (bk s E k) by
          unfold jt; rw [← HN.out, show r - 1 - m = k by omega])
        go_wp2_with fail
        refine (l3Back B a r cap k D _ (H.out.below (HB.out.mono hB)) r6 (by omega)).mono ?_; rintro e1 w1 ⟨rfl, hq⟩; have hq := hq.symm; subst hq
        go_wp2_with fail
        refine (l3Back B b s dap k E _ (H'.out.below (HB.out.mono hB)) s6 (by omega)).mono ?_; rintro e1 w1 ⟨rfl, hq⟩; have hq := hq.symm; subst hq
        by_cases ft : fits (bk r D k) (bk s E k)
        · have FT := hide ft
          have key : ∀ v : Int, v = jt r s D E m → ∃ k' : Nat, k' ≤ r ∧ Value.int .i64 ((k : Int) + 1) = .int .i64 k' ∧ Rw (wr.setCell ⟨w.heap.size, m, none⟩ (.int .i64 v)) w.heap.size r (fun j => if r - 1 - j < k' then jt r s D E j else 0) ∧ (∀ t, t < k' → fits (bk r D t) (bk s E t)) ∧ w.heap.size < (wr.setCell ⟨w.heap.size, m, none⟩ (.int .i64 v)).heap.size ∧ Below w.heap.size w (wr.setCell ⟨w.heap.size, m, none⟩ (.int .i64 v)) := by
            rintro v rfl
            refine ⟨k + 1, by omega, by go_num, (HW.out.set m _ (by have := jt_rng rngD.out rngE.out m; unfold bd; omega)).same (fun t ht => ?_), fun t ht => ?_, by simpa [World.setCell] using hz, HB.out.setCell (p := ⟨w.heap.size, m, none⟩) (Nat.le_refl _) _⟩
            · by_cases c : t = m
              · subst c; simp <;> omega
              · simp only [c, if_false]
                by_cases c2 : r - 1 - t < k
                · rw [if_pos c2, if_pos (by omega)]
                · rw [if_neg c2, if_neg (by omega)]
            · by_cases c : t = k
              · rw [c]; exact FT.out
              · exact HF.out t (by omega)
          have KEY := hide key
          clear key
          rcases Decidable.em (bk r D k = bk s E k) with q1 | q1
          · have p1 : (bk r D k != bk s E k) = false := by rw [bne_eq_false_iff_eq]; exact q1
            have p4 : decide (bk r D k < bk s E k) = false := by rw [decide_eq_false_iff_not]; omega
            have ev := hide (show bk r D k = jt r s D E m by rw [ej.out]; omega)
            clear q1 ft
            go_wp2_with fail
            go_roundw
            case rel => exact KEY.out _ ev.out
            case measure => simp [intOf]; omega
          · have p1 : (bk r D k != bk s E k) = true := by rw [bne_iff_ne]; exact q1
            rcases Decidable.em (bk r D k = 1) with q2 | q2
            · have p2 : (bk r D k != 1) = false := by rw [bne_eq_false_iff_eq]; exact q2
              have p4 : decide (bk r D k < bk s E k) = true := by rw [decide_eq_true_iff]; omega
              have ev := hide (show bk s E k = jt r s D E m by rw [ej.out]; omega)
              clear q1 q2 ft
              go_wp2_with fail
              go_roundw
              case rel => exact KEY.out _ ev.out
              case measure => simp [intOf]; omega
            · have p2 : (bk r D k != 1) = true := by rw [bne_iff_ne]; exact q2
              have q3 : bk s E k = 1 := by unfold fits at ft; omega
              have p3 : (bk s E k != 1) = false := by rw [bne_eq_false_iff_eq]; exact q3
              have p4 : decide (bk r D k < bk s E k) = false := by rw [decide_eq_false_iff_not]; omega
              have ev := hide (show bk r D k = jt r s D E m by rw [ej.out]; omega)
              clear q1 q2 q3 ft
              go_wp2_with fail
              go_roundw
              case rel => exact KEY.out _ ev.out
              case measure => simp [intOf]; omega
        · have q := hide (show ¬ JOk r s D E from fun v => ft (v.2.2.1 k (by rw [← HN.out]; exact hlt)))
          have p1 : (bk r D k != bk s E k) = true := by rw [bne_iff_ne]; intro c; exact ft (.inl c)
          have p2 : (bk r D k != 1) = true := by rw [bne_iff_ne]; intro c; exact ft (.inr (.inl c))
          have p3 : (bk s E k != 1) = true := by rw [bne_iff_ne]; intro c; exact ft (.inr (.inr c))
          clear ft
          go_wp2_with fail
          go_ret
          exact joined_no q.out (HB.out.alloc HB.out.size _)
      · obtain rfl : r = k := by omega
        have hrow := hide (HW.out.same (E := jt r s D E) (fun t ht => by rw [if_pos (by omega)]))
        have eo := hide (show dok r (jt r s D E) = dok (max r s) (jt r s D E) by rw [← HN.out])
        go_wp2_with fail
        refine (Vs.specDimsOk wr.heap.size _ r r (jt r s D E) _ (hrow.out.ints hz) (by omega)).mono ?_; rintro e1 w1 ⟨rfl, hq⟩; have hq := hq.symm; subst hq
        cases hd : dok r (jt r s D E) with
        | false =>
          have q := hide (show ¬ JOk r s D E from fun v => by have := v.2.2.2; rw [← eo.out, hd] at this; exact absurd this (by decide))
          clear hd
          go_wp2_with fail
          go_ret
          exact joined_no q.out (HB.out.alloc HB.out.size _)
        | true =>
          have q := hide (show JOk r s D E from ⟨HD.out, HE.out, fun t ht => HF.out t (by rw [HN.out]; exact ht), by rw [← eo.out]; exact hd⟩)
          clear hd
          go_wp2_with fail
          go_ret
          exact joined_yes q.out HN.out (.inr ⟨_, rfl, Nat.le_refl _, hrow.out⟩) HB.out
set_option maxHeartbeats 2000000 in
theorem joint (B : Nat) (a b : Option Addr) (r s cap dap : Nat) (D E : Nat → Int) (w : World) (h : Ints B w a r D) (h' : Ints B w b s E) (hB : B ≤ w.heap.size) (hr : (r : Int) ≤ 1048576) (hs : (s : Int) ≤ 1048576) (hna : a = none → r = 0 ∧ cap = 0) (hnb : b = none → s = 0 ∧ dap = 0) :
    Calls Try.prog 38 #[.slice a r cap, .slice b s dap] w fun e w' => Joined w.heap.size r s D E w e w' := by
  have H := hide h
  have H' := hide h'
  clear h h'
  have BA := hide (show Below w.heap.size w (w.alloc (.cells #[] 3)) from (Below.refl _ _).alloc (Nat.le_refl _) _)
  by_cases d1 : dok r D = false
  · have q := hide (show ¬ JOk r s D E from fun v => by have := v.1; rw [d1] at this; exact absurd this (by decide))
    go_enter Try.func38, Try.ntmps38
    go_wp2_with fail
    refine (Vs.dimsOk B a r cap D _ H.out hr).mono ?_; rintro e1 w1 ⟨rfl, hq⟩; have hq := hq.symm; subst hq
    rw [d1]
    clear d1
    go_wp2_with fail
    go_ret
    exact joined_no q.out BA.out
  have d1' : dok r D = true := by simpa using d1
  clear d1
  by_cases d2 : dok s E = false
  · have q := hide (show ¬ JOk r s D E from fun v => by have := v.2.1; rw [d2] at this; exact absurd this (by decide))
    go_enter Try.func38, Try.ntmps38
    go_wp2_with fail
    refine (Vs.dimsOk B a r cap D _ H.out hr).mono ?_; rintro e1 w1 ⟨rfl, hq⟩; have hq := hq.symm; subst hq
    rw [d1']
    clear d1'
    go_wp2_with fail
    refine (Vs.dimsOk B b s dap E _ H'.out hs).mono ?_; rintro e1 w1 ⟨rfl, hq⟩; have hq := hq.symm; subst hq
    rw [d2]
    clear d2
    go_wp2_with fail
    go_ret
    exact joined_no q.out BA.out
  have d2' : dok s E = true := by simpa using d2
  clear d2
  have r6 : (r : Int) ≤ 6 := by have := (dok_iff.1 d1').1; omega
  have s6 : (s : Int) ≤ 6 := by have := (dok_iff.1 d2').1; omega
  have HD := hide d1'
  have HE := hide d2'
  have rngD := hide (fun j (hj : j < r) => dok_len d1' hj)
  have rngE := hide (fun j (hj : j < s) => dok_len d2' hj)
  by_cases rs : (r : Int) < s
  · have srl : r ≤ s := by omega
    have HN := hide (show s = max s r by omega)
    go_enter Try.func38, Try.ntmps38
    go_wp2_with fail
    refine (Vs.dimsOk B a r cap D _ H.out hr).mono ?_; rintro e1 w1 ⟨rfl, hq⟩; have hq := hq.symm; subst hq
    rw [d1']
    go_wp2_with fail
    refine (Vs.dimsOk B b s dap E _ H'.out hs).mono ?_; rintro e1 w1 ⟨rfl, hq⟩; have hq := hq.symm; subst hq
    rw [d2']
    clear d1' d2'
    go_wp2_with fail
    refine (clone B b s dap E _ H'.out hB (by omega) hnb).mono ?_; rintro e1 w1 ⟨v, rfl, hv, b1⟩
    obtain ⟨ja, jc, rfl, hj⟩ := hv.own
    clear hv
    have HJ := hide hj
    have B1 := hide b1
    clear hj b1
    have ahI : ((s : Int) - r) = ((s - r : Nat) : Int) := by omega
    obtain ⟨p, hp⟩ : ∃ p : Nat, s - r = p := ⟨_, rfl⟩
    rw [hp] at ahI
    have AH := hide ahI
    have PH := hide hp
    have psr : p + r = s := by omega
    clear hp
    go_wp2_with fail
    clear ahI
    go_loopw [35] (fun i wx => ∃ k : Nat, k ≤ r ∧ i = .int .i64 k ∧ OwnL w.heap.size wx ja s (fun j => if j < p + k then jt s r E D j else E j) ∧ (∀ t, t < k → fits (E (p + t)) (D t)) ∧ Below w.heap.size w wx) (fun i _ => r - (intOf i).toNat)
    case atStart => exact ⟨0, Nat.zero_le _, rfl, HJ.out.same (fun t ht => by
        by_cases c : t < p + 0
        · rw [if_pos c, jt_ahead srl (by have := PH.out; omega) (rngE.out t ht).1]
        · rw [if_neg c]), fun _ h => by omega, B1.out⟩
    case round =>
      obtain ⟨k, hk, rfl, hw, hf, hb⟩ := hrel
      have HW := hide hw
      have HF := hide hf
      have HB := hide hb
      clear hf hb
      by_cases hlt : k < r
      · rcases hw with h0 | ⟨g, rfl, hgB, hw⟩
        · omega
        rcases (H'.out.below (HB.out.mono hB)) with h0 | ⟨ba, offa, rfl, hbB, hc⟩
        · omega
        rcases (H.out.below (HB.out.mono hB)) with h0 | ⟨bb, offb, rfl, hbB', hc'⟩
        · omega
        have c1 := (hc (p + k) (by omega)).1
        have c2 := (hc' k hlt).1
        obtain ⟨c3, f3, _⟩ := hw (p + k) (by omega)
        have kI : (k : Int) < r := by omega
        have pkI : (p : Int) + k < s := by omega
        obtain ⟨x1, x2⟩ := rngE.out (p + k) (by omega)
        obtain ⟨y1, y2⟩ := rngD.out k hlt
        have ej := hide (show jt s r E D (p + k) = max (E (p + k)) (D k) by rw [← PH.out]; exact jt_both srl hlt)
        clear hc hc' hw
        by_cases ft : fits (E (p + k)) (D k)
        · have FT := hide ft
          have key : ∀ v : Int, v = jt s r E D (p + k) → ∃ k' : Nat, k' ≤ r ∧ Value.int .i64 ((k : Int) + 1) = .int .i64 k' ∧ OwnL w.heap.size (wr.setCell ⟨g, p + k, none⟩ (.int .i64 v)) (some ⟨g, 0, none⟩) s (fun j => if j < p + k' then jt s r E D j else E j) ∧ (∀ t, t < k' → fits (E (p + t)) (D t)) ∧ Below w.heap.size w (wr.setCell ⟨g, p + k, none⟩ (.int .i64 v)) := by
            rintro v rfl
            rcases HW.out with h0 | ⟨g', e, _, hw⟩
            · omega
            injection e with e; injection e with e; subst e
            refine ⟨k + 1, by omega, by go_num, .inr ⟨_, rfl, hgB, (hw.set (p + k) _ (by have := jt_rng rngE.out rngD.out (p + k); unfold bd; omega)).same (fun t ht => ?_)⟩, fun t ht => ?_, HB.out.setCell (p := ⟨_, p + k, none⟩) hgB _⟩
            · by_cases c : t = p + k
              · subst c; simp <;> omega
              · simp only [c, if_false]
                by_cases c2 : t < p + k
                · rw [if_pos c2, if_pos (by omega)]
                · rw [if_neg c2, if_neg (by omega)]
            · by_cases c : t = k
              · rw [c]; exact FT.out
              · exact HF.out t (by omega)
          have KEY := hide key
          clear key
          rcases Decidable.em (D k = E (p + k)) with q1 | q1
          · have p1 : (D k != E (p + k)) = false := by rw [bne_eq_false_iff_eq]; exact q1
            have p4 : decide (D k < E (p + k)) = false := by rw [decide_eq_false_iff_not]; omega
            have ev := hide (show D k = jt s r E D (p + k) by rw [ej.out]; omega)
            clear q1 ft
            go_wp2_with fail
            go_roundw
            case rel => exact KEY.out _ (by rw [ej.out]; split <;> omega)
            case measure => simp [intOf]; omega
          · have p1 : (D k != E (p + k)) = true := by rw [bne_iff_ne]; exact q1
            rcases Decidable.em (D k = 1) with q2 | q2
            · have p2 : (D k != 1) = false := by rw [bne_eq_false_iff_eq]; exact q2
              have p4 : decide (D k < E (p + k)) = true := by rw [decide_eq_true_iff]; omega
              have ev := hide (show E (p + k) = jt s r E D (p + k) by rw [ej.out]; omega)
              clear q1 q2 ft
              go_wp2_with fail
              go_roundw
              case rel => exact KEY.out _ (by rw [ej.out]; split <;> omega)
              case measure => simp [intOf]; omega
            · have p2 : (D k != 1) = true := by rw [bne_iff_ne]; exact q2
              have q3 : E (p + k) = 1 := by unfold fits at ft; omega
              have p3 : (E (p + k) != 1) = false := by rw [bne_eq_false_iff_eq]; exact q3
              have p4 : decide (D k < E (p + k)) = false := by rw [decide_eq_false_iff_not]; omega
              have ev := hide (show D k = jt s r E D (p + k) by rw [ej.out]; omega)
              clear q1 q2 q3 ft
              go_wp2_with fail
              go_roundw
              case rel => exact KEY.out _ (by rw [ej.out]; split <;> omega)
              case measure => simp [intOf]; omega
        · have q := hide (show ¬ JOk s r E D from fun v => ft (by have := fits_of srl v.2.2.1 hlt; rwa [PH.out] at this))
          have p1 : (D k != E (p + k)) = true := by rw [bne_iff_ne]; intro c; exact ft (.inl c.symm)
          have p2 : (D k != 1) = true := by rw [bne_iff_ne]; intro c; exact ft (.inr (.inr c))
          have p3 : (E (p + k) != 1) = true := by rw [bne_iff_ne]; intro c; exact ft (.inr (.inl c))
          clear ft
          go_wp2_with fail
          go_ret
          exact Joined.comm (joined_no q.out (HB.out.alloc HB.out.size _))
      · obtain rfl : r = k := by omega
        have hrow := hide (HW.out.same (E := jt s r E D) (fun t ht => by rw [if_pos (by omega)]))
        have eo := hide (show dok s (jt s r E D) = dok (max s r) (jt s r E D) by rw [← HN.out])
        clear hw
        go_wp2_with fail
        refine (Vs.dimsOk wr.heap.size ja s jc (jt s r E D) _ hrow.out.ints (by omega)).mono ?_; rintro e1 w1 ⟨rfl, hq⟩; have hq := hq.symm; subst hq
        cases hd : dok s (jt s r E D) with
        | false =>
          have q := hide (show ¬ JOk s r E D from fun v => by have := v.2.2.2; rw [← eo.out, hd] at this; exact absurd this (by decide))
          clear hd
          go_wp2_with fail
          go_ret
          exact Joined.comm (joined_no q.out (HB.out.alloc HB.out.size _))
        | true =>
          have q := hide (show JOk s r E D from ⟨HE.out, HD.out, fits_ahead srl (fun t ht => by have := HF.out t ht; rwa [← PH.out] at this), by rw [← eo.out]; exact hd⟩)
          clear hd
          go_wp2_with fail
          go_ret
          exact Joined.comm (joined_yes q.out HN.out hrow.out HB.out)
  · have srl : s ≤ r := by omega
    have HN := hide (show r = max r s by omega)
    have rs' : decide ((r : Int) < s) = false := by rw [decide_eq_false_iff_not]; exact rs
    have rs2 : decide (r < s) = false := by rw [decide_eq_false_iff_not]; omega
    clear rs
    go_enter Try.func38, Try.ntmps38
    go_wp2_with fail
    refine (Vs.dimsOk B a r cap D _ H.out hr).mono ?_; rintro e1 w1 ⟨rfl, hq⟩; have hq := hq.symm; subst hq
    rw [d1']
    go_wp2_with fail
    refine (Vs.dimsOk B b s dap E _ H'.out hs).mono ?_; rintro e1 w1 ⟨rfl, hq⟩; have hq := hq.symm; subst hq
    rw [d2']
    clear d1' d2'
    go_wp2_with fail
    refine (clone B a r cap D _ H.out hB (by omega) hna).mono ?_; rintro e1 w1 ⟨v, rfl, hv, b1⟩
    obtain ⟨ja, jc, rfl, hj⟩ := hv.own
    clear hv
    have HJ := hide hj
    have B1 := hide b1
    clear hj b1
    have ahI : ((r : Int) - s) = ((r - s : Nat) : Int) := by omega
    obtain ⟨p, hp⟩ : ∃ p : Nat, r - s = p := ⟨_, rfl⟩
    rw [hp] at ahI
    have AH := hide ahI
    have PH := hide hp
    have psr : p + s = r := by omega
    clear hp
    go_wp2_with fail
    clear ahI
    go_loopw [35] (fun i wx => ∃ k : Nat, k ≤ s ∧ i = .int .i64 k ∧ OwnL w.heap.size wx ja r (fun j => if j < p + k then jt r s D E j else D j) ∧ (∀ t, t < k → fits (D (p + t)) (E t)) ∧ Below w.heap.size w wx) (fun i _ => s - (intOf i).toNat)
    case atStart => exact ⟨0, Nat.zero_le _, rfl, HJ.out.same (fun t ht => by
        by_cases c : t < p + 0
        · rw [if_pos c, jt_ahead srl (by have := PH.out; omega) (rngD.out t ht).1]
        · rw [if_neg c]), fun _ h => by omega, B1.out⟩
    case round =>
      obtain ⟨k, hk, rfl, hw, hf, hb⟩ := hrel
      have HW := hide hw
      have HF := hide hf
      have HB := hide hb
      clear hf hb
      by_cases hlt : k < s
      · rcases hw with h0 | ⟨g, rfl, hgB, hw⟩
        · omega
        rcases (H.out.below (HB.out.mono hB)) with h0 | ⟨ba, offa, rfl, hbB, hc⟩
        · omega
        rcases (H'.out.below (HB.out.mono hB)) with h0 | ⟨bb, offb, rfl, hbB', hc'⟩
        · omega
        have c1 := (hc (p + k) (by omega)).1
        have c2 := (hc' k hlt).1
        obtain ⟨c3, f3, _⟩ := hw (p + k) (by omega)
        have kI : (k : Int) < s := by omega
        have pkI : (p : Int) + k < r := by omega
        obtain ⟨x1, x2⟩ := rngD.out (p + k) (by omega)
        obtain ⟨y1, y2⟩ := rngE.out k hlt
        have ej := hide (show jt r s D E (p + k) = max (D (p + k)) (E k) by rw [← PH.out]; exact jt_both srl hlt)
        clear hc hc' hw
        by_cases ft : fits (D (p + k)) (E k)
        · have FT := hide ft
          have key : ∀ v : Int, v = jt r s D E (p + k) → ∃ k' : Nat, k' ≤ s ∧ Value.int .i64 ((k : Int) + 1) = .int .i64 k' ∧ OwnL w.heap.size (wr.setCell ⟨g, p + k, none⟩ (.int .i64 v)) (some ⟨g, 0, none⟩) r (fun j => if j < p + k' then jt r s D E j else D j) ∧ (∀ t, t < k' → fits (D (p + t)) (E t)) ∧ Below w.heap.size w (wr.setCell ⟨g, p + k, none⟩ (.int .i64 v)) := by
            rintro v rfl
            rcases HW.out with h0 | ⟨g', e, _, hw⟩
            · omega
            injection e with e; injection e with e; subst e
            refine ⟨k + 1, by omega, by go_num, .inr ⟨_, rfl, hgB, (hw.set (p + k) _ (by have := jt_rng rngD.out rngE.out (p + k); unfold bd; omega)).same (fun t ht => ?_)⟩, fun t ht => ?_, HB.out.setCell (p := ⟨_, p + k, none⟩) hgB _⟩
            · by_cases c : t = p + k
              · subst c; simp <;> omega
              · simp only [c, if_false]
                by_cases c2 : t < p + k
                · rw [if_pos c2, if_pos (by omega)]
                · rw [if_neg c2, if_neg (by omega)]
            · by_cases c : t = k
              · rw [c]; exact FT.out
              · exact HF.out t (by omega)
          have KEY := hide key
          clear key
          rcases Decidable.em (E k = D (p + k)) with q1 | q1
          · have p1 : (E k != D (p + k)) = false := by rw [bne_eq_false_iff_eq]; exact q1
            have p4 : decide (E k < D (p + k)) = false := by rw [decide_eq_false_iff_not]; omega
            have ev := hide (show E k = jt r s D E (p + k) by rw [ej.out]; omega)
            clear q1 ft
            go_wp2_with fail
            go_roundw
            case rel => exact KEY.out _ (by rw [ej.out]; split <;> omega)
            case measure => simp [intOf]; omega
          · have p1 : (E k != D (p + k)) = true := by rw [bne_iff_ne]; exact q1
            rcases Decidable.em (E k = 1) with q2 | q2
            · have p2 : (E k != 1) = false := by rw [bne_eq_false_iff_eq]; exact q2
              have p4 : decide (E k < D (p + k)) = true := by rw [decide_eq_true_iff]; omega
              have ev := hide (show D (p + k) = jt r s D E (p + k) by rw [ej.out]; omega)
              clear q1 q2 ft
              go_wp2_with fail
              go_roundw
              case rel => exact KEY.out _ (by rw [ej.out]; split <;> omega)
              case measure => simp [intOf]; omega
            · have p2 : (E k != 1) = true := by rw [bne_iff_ne]; exact q2
              have q3 : D (p + k) = 1 := by unfold fits at ft; omega
              have p3 : (D (p + k) != 1) = false := by rw [bne_eq_false_iff_eq]; exact q3
              have p4 : decide (E k < D (p + k)) = false := by rw [decide_eq_false_iff_not]; omega
              have ev := hide (show E k = jt r s D E (p + k) by rw [ej.out]; omega)
              clear q1 q2 q3 ft
              go_wp2_with fail
              go_roundw
              case rel => exact KEY.out _ (by rw [ej.out]; split <;> omega)
              case measure => simp [intOf]; omega
        · have q := hide (show ¬ JOk r s D E from fun v => ft (by have := fits_of srl v.2.2.1 hlt; rwa [PH.out] at this))
          have p1 : (E k != D (p + k)) = true := by rw [bne_iff_ne]; intro c; exact ft (.inl c.symm)
          have p2 : (E k != 1) = true := by rw [bne_iff_ne]; intro c; exact ft (.inr (.inr c))
          have p3 : (D (p + k) != 1) = true := by rw [bne_iff_ne]; intro c; exact ft (.inr (.inl c))
          clear ft
          go_wp2_with fail
          go_ret
          exact (joined_no q.out (HB.out.alloc HB.out.size _))
      · obtain rfl : s = k := by omega
        have hrow := hide (HW.out.same (E := jt r s D E) (fun t ht => by rw [if_pos (by omega)]))
        have eo := hide (show dok r (jt r s D E) = dok (max r s) (jt r s D E) by rw [← HN.out])
        clear hw
        go_wp2_with fail
        refine (Vs.dimsOk wr.heap.size ja r jc (jt r s D E) _ hrow.out.ints (by omega)).mono ?_; rintro e1 w1 ⟨rfl, hq⟩; have hq := hq.symm; subst hq
        cases hd : dok r (jt r s D E) with
        | false =>
          have q := hide (show ¬ JOk r s D E from fun v => by have := v.2.2.2; rw [← eo.out, hd] at this; exact absurd this (by decide))
          clear hd
          go_wp2_with fail
          go_ret
          exact (joined_no q.out (HB.out.alloc HB.out.size _))
        | true =>
          have q := hide (show JOk r s D E from ⟨HD.out, HE.out, fits_ahead srl (fun t ht => by have := HF.out t ht; rwa [← PH.out] at this), by rw [← eo.out]; exact hd⟩)
          clear hd
          go_wp2_with fail
          go_ret
          exact (joined_yes q.out HN.out hrow.out HB.out)
end Vo
end Go.Proofs.Ytejfodkobfdelaa

/- Joint of the model: its answer is a list that is there. -/
namespace Go.Proofs.Ytejfodkobfdelaa
namespace Vo
open Go.ChangeShapes Go.WideShapes Go.ChangeAt Go.RowKit Go.Joins
open Vl Vp
set_option linter.unusedVariables false

def JoinedS (B : Nat) (r s : Nat) (D E : Nat → Int) (w : World) (e : Ending) (w' : World) : Prop :=
  ∃ (a : Addr) (c : Nat), e = .returned (.slice (some a) (jn r s D E) c) ∧ OwnL B w' (some a) (jn r s D E) (jt r s D E) ∧ Below w.heap.size w w'
theorem joinedS_no {B r s : Nat} {D E : Nat → Int} {w w' : World} {a : Addr} (h : ¬ JOk r s D E) (hb : Below w.heap.size w w') : JoinedS B r s D E w (.returned (.slice (some a) 0 0)) w' :=
  ⟨a, 0, by rw [jn_no h], by rw [jn_no h]; exact .inl rfl, hb⟩
theorem joinedS_yes {B r s N : Nat} {D E : Nat → Int} {w w' : World} {a : Addr} {c : Nat} (h : JOk r s D E) (hN : N = max r s) (ho : OwnL B w' (some a) N (jt r s D E)) (hb : Below w.heap.size w w') : JoinedS B r s D E w (.returned (.slice (some a) N c)) w' := by
  subst hN
  exact ⟨a, c, by rw [jn_yes h], by rw [jn_yes h]; exact ho, hb⟩
theorem JoinedS.comm {B r s : Nat} {D E : Nat → Int} {w w' : World} {e : Ending} (h : JoinedS B s r E D w e w') : JoinedS B r s D E w e w' := by
  unfold JoinedS at *
  rw [jn_comm r s D E, jt_comm r s D E]; exact h
set_option maxHeartbeats 2000000 in
theorem specJointS (B : Nat) (a b : Option Addr) (r s cap dap : Nat) (D E : Nat → Int) (w : World) (h : Ints B w a r D) (h' : Ints B w b s E) (hB : B ≤ w.heap.size) (hr : (r : Int) ≤ 1048576) (hs : (s : Int) ≤ 1048576) :
    Calls Try.prog 32 #[.slice a r cap, .slice b s dap] w fun e w' => JoinedS w.heap.size r s D E w e w' := by
  have H := hide h
  have H' := hide h'
  clear h h'
  have BA := hide (show Below w.heap.size w (w.alloc (.cells #[] 3)) from (Below.refl _ _).alloc (Nat.le_refl _) _)
  by_cases d1 : dok r D = false
  · have q := hide (show ¬ JOk r s D E from fun v => by have := v.1; rw [d1] at this; exact absurd this (by decide))
    go_enter Try.func32, Try.ntmps32
    go_wp2_with fail
    refine (Vs.specDimsOk B a r cap D _ H.out hr).mono ?_; rintro e1 w1 ⟨rfl, hq⟩; have hq := hq.symm; subst hq
    rw [d1]
    clear d1
    go_wp2_with fail
    go_ret
    exact joinedS_no q.out BA.out
  have d1' : dok r D = true := by simpa using d1
  clear d1
  by_cases d2 : dok s E = false
  · have q := hide (show ¬ JOk r s D E from fun v => by have := v.2.1; rw [d2] at this; exact absurd this (by decide))
    go_enter Try.func32, Try.ntmps32
    go_wp2_with fail
    refine (Vs.specDimsOk B a r cap D _ H.out hr).mono ?_; rintro e1 w1 ⟨rfl, hq⟩; have hq := hq.symm; subst hq
    rw [d1']
    clear d1'
    go_wp2_with fail
    refine (Vs.specDimsOk B b s dap E _ H'.out hs).mono ?_; rintro e1 w1 ⟨rfl, hq⟩; have hq := hq.symm; subst hq
    rw [d2]
    clear d2
    go_wp2_with fail
    go_ret
    exact joinedS_no q.out BA.out
  have d2' : dok s E = true := by simpa using d2
  clear d2
  have r6 : (r : Int) ≤ 6 := by have := (dok_iff.1 d1').1; omega
  have s6 : (s : Int) ≤ 6 := by have := (dok_iff.1 d2').1; omega
  have HD := hide d1'
  have HE := hide d2'
  have rngD := hide (fun j (hj : j < r) => dok_len d1' hj)
  have rngE := hide (fun j (hj : j < s) => dok_len d2' hj)
  by_cases rs : (r : Int) < s
  · skip
    have HN := hide (show s = max r s by omega)
    have hmk := make_int s (by omega)
    go_enter Try.func32, Try.ntmps32
    go_wp2_with fail
    refine (Vs.specDimsOk B a r cap D _ H.out hr).mono ?_; rintro e1 w1 ⟨rfl, hq⟩; have hq := hq.symm; subst hq
    rw [d1']
    go_wp2_with fail
    refine (Vs.specDimsOk B b s dap E _ H'.out hs).mono ?_; rintro e1 w1 ⟨rfl, hq⟩; have hq := hq.symm; subst hq
    rw [d2']
    clear d1' d2'
    go_wp2_with fail
    go_loopw [7] (fun i wx => ∃ k : Nat, k ≤ s ∧ i = .int .i64 k ∧ Rw wx w.heap.size s (fun j => if s - 1 - j < k then jt r s D E j else 0) ∧ (∀ t, t < k → fits (bk r D t) (bk s E t)) ∧ w.heap.size < wx.heap.size ∧ Below w.heap.size w wx) (fun i _ => s - (intOf i).toNat)
    case atStart => exact ⟨0, Nat.zero_le _, rfl, (rw_new w s _).same (fun t ht => by simp), fun _ h => by omega, by simp, (Below.refl _ _).alloc (Nat.le_refl _) _⟩
    case round =>
      obtain ⟨k, hk, rfl, hw, hf, hz, hb⟩ := hrel
      have HW := hide hw
      have HF := hide hf
      have HB := hide hb
      clear hw hf hb
      by_cases hlt : k < s
      · have kI : (k : Int) < s := by omega
        obtain ⟨m, hm⟩ : ∃ m : Nat, (s : Int) - 1 - k = m := ⟨s - 1 - k, by omega⟩
        have mlt : m < s := by omega
        have mI : (m : Int) < s := by omega
        obtain ⟨c1, f1, _⟩ := HW.out m mlt
        have x1 := bk_rng rngD.out k
        have y1 := bk_rng rngE.out k
        have ej := hide (show jt r s D E m = max (bk r D k) (bk s E k) by
          unfold jt; rw [← HN.out, show s - 1 - m = k by omega])
        go_wp2_with fail
        refine (l3Back B a r cap k D _ (H.out.below (HB.out.mono hB)) r6 (by omega)).mono ?_; rintro e1 w1 ⟨rfl, hq⟩; have hq := hq.symm; subst hq
        go_wp2_with fail
        refine (l3Back B b s dap k E _ (H'.out.below (HB.out.mono hB)) s6 (by omega)).mono ?_; rintro e1 w1 ⟨rfl, hq⟩; have hq := hq.symm; subst hq
        by_cases ft : fits (bk r D k) (bk s E k)
        · have FT := hide ft
          have key : ∀ v : Int, v = jt r s D E m → ∃ k' : Nat, k' ≤ s ∧ Value.int .i64 ((k : Int) + 1) = .int .i64 k' ∧ Rw (wr.setCell ⟨w.heap.size, m, none⟩ (.int .i64 v)) w.heap.size s (fun j => if s - 1 - j < k' then jt r s D E j else 0) ∧ (∀ t, t < k' → fits (bk r D t) (bk s E t)) ∧ w.heap.size < (wr.setCell ⟨w.heap.size, m, none⟩ (.int .i64 v)).heap.size ∧ Below w.heap.size w (wr.setCell ⟨w.heap.size, m, none⟩ (.int .i64 v)) := by
            rintro v rfl
            refine ⟨k + 1, by omega, by go_num, (HW.out.set m _ (by have := jt_rng rngD.out rngE.out m; unfold bd; omega)).same (fun t ht => ?_), fun t ht => ?_, by simpa [World.setCell] using hz, HB.out.setCell (p := ⟨w.heap.size, m, none⟩) (Nat.le_refl _) _⟩
            · by_cases c : t = m
              · subst c; simp <;> omega
              · simp only [c, if_false]
                by_cases c2 : s - 1 - t < k
                · rw [if_pos c2, if_pos (by omega)]
                · rw [if_neg c2, if_neg (by omega)]
            · by_cases c : t = k
              · rw [c]; exact FT.out
              · exact HF.out t (by omega)
          have KEY := hide key
          clear key
          rcases Decidable.em (bk r D k = bk s E k) with q1 | q1
          · have p1 : (bk r D k != bk s E k) = false := by rw [bne_eq_false_iff_eq]; exact q1
            have p4 : decide (bk r D k < bk s E k) = false := by rw [decide_eq_false_iff_not]; omega
            have ev := hide (show bk r D k = jt r s D E m by rw [ej.out]; omega)
            clear q1 ft
            go_wp2_with fail
            go_roundw
            case rel => exact KEY.out _ ev.out
            case measure => simp [intOf]; omega
          · have p1 : (bk r D k != bk s E k) = true := by rw [bne_iff_ne]; exact q1
            rcases Decidable.em (bk r D k = 1) with q2 | q2
            · have p2 : (bk r D k != 1) = false := by rw [bne_eq_false_iff_eq]; exact q2
              have p4 : decide (bk r D k < bk s E k) = true := by rw [decide_eq_true_iff]; omega
              have ev := hide (show bk s E k = jt r s D E m by rw [ej.out]; omega)
              clear q1 q2 ft
              go_wp2_with fail
              go_roundw
              case rel => exact KEY.out _ ev.out
              case measure => simp [intOf]; omega
            · have p2 : (bk r D k != 1) = true := by rw [bne_iff_ne]; exact q2
              have q3 : bk s E k = 1 := by unfold fits at ft; omega
              have p3 : (bk s E k != 1) = false := by rw [bne_eq_false_iff_eq]; exact q3
              have p4 : decide (bk r D k < bk s E k) = false := by rw [decide_eq_false_iff_not]; omega
              have ev := hide (show bk r D k = jt r s D E m by rw [ej.out]; omega)
              clear q1 q2 q3 ft
              go_wp2_with fail
              go_roundw
              case rel => exact KEY.out _ ev.out
              case measure => simp [intOf]; omega
        · have q := hide (show ¬ JOk r s D E from fun v => ft (v.2.2.1 k (by rw [← HN.out]; exact hlt)))
          have p1 : (bk r D k != bk s E k) = true := by rw [bne_iff_ne]; intro c; exact ft (.inl c)
          have p2 : (bk r D k != 1) = true := by rw [bne_iff_ne]; intro c; exact ft (.inr (.inl c))
          have p3 : (bk s E k != 1) = true := by rw [bne_iff_ne]; intro c; exact ft (.inr (.inr c))
          clear ft
          go_wp2_with fail
          go_ret
          exact joinedS_no q.out (HB.out.alloc HB.out.size _)
      · obtain rfl : s = k := by omega
        have hrow := hide (HW.out.same (E := jt r s D E) (fun t ht => by rw [if_pos (by omega)]))
        have eo := hide (show dok s (jt r s D E) = dok (max r s) (jt r s D E) by rw [← HN.out])
        go_wp2_with fail
        refine (Vs.specDimsOk wr.heap.size _ s s (jt r s D E) _ (hrow.out.ints hz) (by omega)).mono ?_; rintro e1 w1 ⟨rfl, hq⟩; have hq := hq.symm; subst hq
        cases hd : dok s (jt r s D E) with
        | false =>
          have q := hide (show ¬ JOk r s D E from fun v => by have := v.2.2.2; rw [← eo.out, hd] at this; exact absurd this (by decide))
          clear hd
          go_wp2_with fail
          go_ret
          exact joinedS_no q.out (HB.out.alloc HB.out.size _)
        | true =>
          have q := hide (show JOk r s D E from ⟨HD.out, HE.out, fun t ht => HF.out t (by rw [HN.out]; exact ht), by rw [← eo.out]; exact hd⟩)
          clear hd
          go_wp2_with fail
          go_ret
          exact joinedS_yes q.out HN.out (.inr ⟨_, rfl, Nat.le_refl _, hrow.out⟩) HB.out
  · skip
    have HN := hide (show r = max r s by omega)
    have hmk := make_int r (by omega)
    have rs' : decide ((r : Int) < s) = false := by rw [decide_eq_false_iff_not]; exact rs
    have rs2 : decide (r < s) = false := by rw [decide_eq_false_iff_not]; omega
    clear rs
    go_enter Try.func32, Try.ntmps32
    go_wp2_with fail
    refine (Vs.specDimsOk B a r cap D _ H.out hr).mono ?_; rintro e1 w1 ⟨rfl, hq⟩; have hq := hq.symm; subst hq
    rw [d1']
    go_wp2_with fail
    refine (Vs.specDimsOk B b s dap E _ H'.out hs).mono ?_; rintro e1 w1 ⟨rfl, hq⟩; have hq := hq.symm; subst hq
    rw [d2']
    clear d1' d2'
    go_wp2_with fail
    go_loopw [7] (fun i wx => ∃ k : Nat, k ≤ r ∧ i = .int .i64 k ∧ Rw wx w.heap.size r (fun j => if r - 1 - j < k then jt r s D E j else 0) ∧ (∀ t, t < k → fits (bk r D t) (bk s E t)) ∧ w.heap.size < wx.heap.size ∧ Below w.heap.size w wx) (fun i _ => r - (intOf i).toNat)
    case atStart => exact ⟨0, Nat.zero_le _, rfl, (rw_new w r _).same (fun t ht => by simp), fun _ h => by omega, by simp, (Below.refl _ _).alloc (Nat.le_refl _) _⟩
    case round =>
      obtain ⟨k, hk, rfl, hw, hf, hz, hb⟩ := hrel
      have HW := hide hw
      have HF := hide hf
      have HB := hide hb
      clear hw hf hb
      by_cases hlt : k < r
      · have kI : (k : Int) < r := by omega
        obtain ⟨m, hm⟩ : ∃ m : Nat, (r : Int) - 1 - k = m := ⟨r - 1 - k, by omega⟩
        have mlt : m < r := by omega
        have mI : (m : Int) < r := by omega
        obtain ⟨c1, f1, _⟩ := HW.out m mlt
        have x1 := bk_rng rngD.out k
        have y1 := bk_rng rngE.out k
        have ej := hide (show jt r s D E m = max (bk r D k) (bk s E k) by
          unfold jt; rw [← HN.out, show r - 1 - m = k by omega])
        go_wp2_with fail
        refine (l3Back B a r cap k D _ (H.out.below (HB.out.mono hB)) r6 (by omega)).mono ?_; rintro e1 w1 ⟨rfl, hq⟩; have hq := hq.symm; subst hq
        go_wp2_with fail
        refine (l3Back B b s dap k E _ (H'.out.below (HB.out.mono hB)) s6 (by omega)).mono ?_; rintro e1 w1 ⟨rfl, hq⟩; have hq := hq.symm; subst hq
        by_cases ft : fits (bk r D k) (bk s E k)
        · have FT := hide ft
          have key : ∀ v : Int, v = jt r s D E m → ∃ k' : Nat, k' ≤ r ∧ Value.int .i64 ((k : Int) + 1) = .int .i64 k' ∧ Rw (wr.setCell ⟨w.heap.size, m, none⟩ (.int .i64 v)) w.heap.size r (fun j => if r - 1 - j < k' then jt r s D E j else 0) ∧ (∀ t, t < k' → fits (bk r D t) (bk s E t)) ∧ w.heap.size < (wr.setCell ⟨w.heap.size, m, none⟩ (.int .i64 v)).heap.size ∧ Below w.heap.size w (wr.setCell ⟨w.heap.size, m, none⟩ (.int .i64 v)) := by
            rintro v rfl
            refine ⟨k + 1, by omega, by go_num, (HW.out.set m _ (by have := jt_rng rngD.out rngE.out m; unfold bd; omega)).same (fun t ht => ?_), fun t ht => ?_, by simpa [World.setCell] using hz, HB.out.setCell (p := ⟨w.heap.size, m, none⟩) (Nat.le_refl _) _⟩
            · by_cases c : t = m
              · subst c; simp <;> omega
              · simp only [c, if_false]
                by_cases c2 : r - 1 - t < k
                · rw [if_pos c2, if_pos (by omega)]
                · rw [if_neg c2, if_neg (by omega)]
            · by_cases c : t = k
              · rw [c]; exact FT.out
              · exact HF.out t (by omega)
          have KEY := hide key
          clear key
          rcases Decidable.em (bk r D k = bk s E k) with q1 | q1
          · have p1 : (bk r D k != bk s E k) = false := by rw [bne_eq_false_iff_eq]; exact q1
            have p4 : decide (bk r D k < bk s E k) = false := by rw [decide_eq_false_iff_not]; omega
            have ev := hide (show bk r D k = jt r s D E m by rw [ej.out]; omega)
            clear q1 ft
            go_wp2_with fail
            go_roundw
            case rel => exact KEY.out _ ev.out
            case measure => simp [intOf]; omega
          · have p1 : (bk r D k != bk s E k) = true := by rw [bne_iff_ne]; exact q1
            rcases Decidable.em (bk r D k = 1) with q2 | q2
            · have p2 : (bk r D k != 1) = false := by rw [bne_eq_false_iff_eq]; exact q2
              have p4 : decide (bk r D k < bk s E k) = true := by rw [decide_eq_true_iff]; omega
              have ev := hide (show bk s E k = jt r s D E m by rw [ej.out]; omega)
              clear q1 q2 ft
              go_wp2_with fail
              go_roundw
              case rel => exact KEY.out _ ev.out
              case measure => simp [intOf]; omega
            · have p2 : (bk r D k != 1) = true := by rw [bne_iff_ne]; exact q2
              have q3 : bk s E k = 1 := by unfold fits at ft; omega
              have p3 : (bk s E k != 1) = false := by rw [bne_eq_false_iff_eq]; exact q3
              have p4 : decide (bk r D k < bk s E k) = false := by rw [decide_eq_false_iff_not]; omega
              have ev := hide (show bk r D k = jt r s D E m by rw [ej.out]; omega)
              clear q1 q2 q3 ft
              go_wp2_with fail
              go_roundw
              case rel => exact KEY.out _ ev.out
              case measure => simp [intOf]; omega
        · have q := hide (show ¬ JOk r s D E from fun v => ft (v.2.2.1 k (by rw [← HN.out]; exact hlt)))
          have p1 : (bk r D k != bk s E k) = true := by rw [bne_iff_ne]; intro c; exact ft (.inl c)
          have p2 : (bk r D k != 1) = true := by rw [bne_iff_ne]; intro c; exact ft (.inr (.inl c))
          have p3 : (bk s E k != 1) = true := by rw [bne_iff_ne]; intro c; exact ft (.inr (.inr c))
          clear ft
          go_wp2_with fail
          go_ret
          exact joinedS_no q.out (HB.out.alloc HB.out.size _)
      · obtain rfl : r = k := by omega
        have hrow := hide (HW.out.same (E := jt r s D E) (fun t ht => by rw [if_pos (by omega)]))
        have eo := hide (show dok r (jt r s D E) = dok (max r s) (jt r s D E) by rw [← HN.out])
        go_wp2_with fail
        refine (Vs.specDimsOk wr.heap.size _ r r (jt r s D E) _ (hrow.out.ints hz) (by omega)).mono ?_; rintro e1 w1 ⟨rfl, hq⟩; have hq := hq.symm; subst hq
        cases hd : dok r (jt r s D E) with
        | false =>
          have q := hide (show ¬ JOk r s D E from fun v => by have := v.2.2.2; rw [← eo.out, hd] at this; exact absurd this (by decide))
          clear hd
          go_wp2_with fail
          go_ret
          exact joinedS_no q.out (HB.out.alloc HB.out.size _)
        | true =>
          have q := hide (show JOk r s D E from ⟨HD.out, HE.out, fun t ht => HF.out t (by rw [HN.out]; exact ht), by rw [← eo.out]; exact hd⟩)
          clear hd
          go_wp2_with fail
          go_ret
          exact joinedS_yes q.out HN.out (.inr ⟨_, rfl, Nat.le_refl _, hrow.out⟩) HB.out
end Vo
end Go.Proofs.Ytejfodkobfdelaa
