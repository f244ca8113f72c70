/- What a plan is asked for: lists by buffers, the peak. -/
import Derived.Test.YtgmjijjckedmcaaMn
import Derived.Test.YtgmjijjckedmcaaMm
import Derived.Test.YtgmjijjckedmcaaMb
import Derived.Test.YtgmjijjckedmcaaMd
namespace Go.Proofs.Ytgmjijjckedmcaa
namespace Vo
open Go.ChangeShapes Go.WideShapes Go.ChangeAt Go.RowKit Go.Joins Go.Sort
open Vl Vp
set_option linter.unusedVariables false
set_option linter.unusedSimpArgs false
set_option maxHeartbeats 2000000 in
theorem elemI2 (N : Nat) (F : Nat) (c c' : Value) (G : Nat → Int) (w : World) (hN : (N : Int) ≤ 4194304) (hG : ∀ k, k < N → bd (G k)) (eF : ∀ args w, (callFunc F args).run Try.prog w = .ok (.enter F args) w)
    (hf : ∀ (k : Nat) (W : World), k < N → Below w.heap.size w W → Calls Try.prog F #[.int .i64 k, c, c'] W fun e W' => e = .returned (.int .i64 (G k)) ∧ Below W.heap.size W W') :
    Calls Try.prog 37 #[.int .i64 N, .func (.func F) #[] #[c, c']] w fun e w' => e = .returned (.slice (some ⟨w.heap.size, 0, none⟩) N N) ∧ Rw w' w.heap.size N G ∧ w.heap.size < w'.heap.size ∧ Below w.heap.size w w' := by
  have hmk := make_int N (by omega)
  have HF := hide hf
  have HG := hide hG
  clear hf hG
  go_enter Try.func37, Try.ntmps37
  go_wp2_with fail
  go_loopw [11] (fun i wx => ∃ k : Nat, k ≤ N ∧ i = .int .i64 k ∧ Rw wx w.heap.size N (fun t => if t < k then G t else 0) ∧ w.heap.size < wx.heap.size ∧ Below w.heap.size w wx) (fun i _ => N - (intOf i).toNat)
  case atStart => exact ⟨0, Nat.zero_le _, rfl, (rw_new w N _).same (fun t ht => by simp), by simp, (Below.refl _ _).alloc (Nat.le_refl _) _⟩
  case round =>
    obtain ⟨k, hk, rfl, hw, hs, hb⟩ := hrel
    have HW := hide hw
    have HB := hide hb
    clear hw hb
    by_cases hlt : k < N
    · have hkI : (k : Int) < N := by omega
      go_wp2_with fail
      refine (HF.out k _ hlt HB.out).mono ?_
      rintro e w1 ⟨rfl, b1⟩
      have HW1 := hide (HW.out.below b1 hs)
      have HB1 := hide (HB.out.trans (b1.mono HB.out.size))
      have hs1 : w.heap.size < w1.heap.size := Nat.lt_of_lt_of_le hs b1.size
      obtain ⟨c2, f2, _⟩ := HW1.out k hlt
      clear b1
      go_wp2_with fail
      go_roundw
      case rel => exact ⟨k + 1, by omega, by go_num, (HW1.out.set k (G k) (HG.out k hlt)).same (fun t ht => by by_cases c : t = k <;> by_cases c2 : t < k <;> simp [c, c2] <;> omega), by simpa [World.setCell] using hs1, HB1.out.setCell (p := ⟨w.heap.size, k, none⟩) (Nat.le_refl _) _⟩
      case measure => simp [intOf]; omega
    · have e : k = N := by omega
      go_wp2_with fail
      go_ret
      exact ⟨rfl, HW.out.same (fun t ht => by simp; intro; omega), hs, HB.out⟩
def EqB' (r s : Nat) (D S : Nat → Int) (e : Ending) : Prop := ∃ z : Bool, e = .returned (.bool z) ∧ (z = true ↔ r = s ∧ ∀ k, k < r → D k = S k)
set_option maxHeartbeats 1000000 in
theorem equalP (B : Nat) (a b : Option Addr) (r s cap dap : Nat) (D S : Nat → Int) (w : World) (hB : B ≤ w.heap.size) (h : Ints B w a r D) (h' : Ints B w b s S) (hr : (r : Int) ≤ 1048576) (hs : (s : Int) ≤ 1048576) :
    Calls Try.prog 39 #[.slice a r cap, .slice b s dap] w fun e w' => EqB' r s D S e ∧ Below w.heap.size w w' := by
  have H := hide h
  have H' := hide h'
  clear h h'
  go_enter Try.func39, Try.ntmps39
  by_cases c : r = s
  rotate_left
  · have c' : ((r : Int) != (s : Int)) = true := by rw [bne_iff_ne]; omega
    have C := hide c
    clear c
    go_wp2_with fail
    go_ret
    exact ⟨⟨false, rfl, ⟨fun e => (by cases e), fun e => absurd e.1 C.out⟩⟩, Below.refl _ _⟩
  subst c
  have c' : ((r : Int) != (r : Int)) = false := by simp
  go_wp2_with fail
  clear c'
  go_loopw [13] (fun i wx => ∃ t : Nat, t ≤ r ∧ i = .int .i64 t ∧ (∀ j, j < t → D j = S j) ∧ Below w.heap.size w wx) (fun i _ => r - (intOf i).toNat)
  case atStart => exact ⟨0, Nat.zero_le _, rfl, fun j hj => by omega, Below.refl _ _⟩
  case round =>
    obtain ⟨X, rfl⟩ : ∃ X, X = wr := ⟨_, rfl⟩
    obtain ⟨t, ht, rfl, hall, hby⟩ := hrel
    have HALL := hide hall
    have HBY := hide hby
    clear hall hby
    by_cases hlt : t < r
    · have tI : (t : Int) < r := by omega
      rcases H.out.below (HBY.out.mono hB) with h0 | ⟨ba, oa, rfl, hba, hca⟩
      · omega
      rcases H'.out.below (HBY.out.mono hB) with h0 | ⟨bb, ob, rfl, hbb, hcb⟩
      · omega
      have ca := (hca t hlt).1
      have cb := (hcb t hlt).1
      clear hca hcb
      by_cases d : D t = S t
      · have d' : (D t != S t) = false := by rw [bne_eq_false_iff_eq]; exact d
        have DD := hide d
        clear d
        go_wp2_with fail
        go_region_held3 (fun w' => w'.cell? ⟨ba, oa + t, none⟩ = some (.int .i64 (D t)) ∧ w'.cell? ⟨bb, ob + t, none⟩ = some (.int .i64 (S t)))
          ((try dsimp only) <;> (repeat' apply And.intro) <;> (first | with_reducible assumption | assumption)) (fail)
        all_goals (go_wp2_with fail)
        all_goals go_roundw
        all_goals first
          | (simp only [intOf]; omega)
          | (simp [intOf]; omega)
          | exact ⟨t + 1, by omega, by go_num, fun j hj => by
              by_cases c : j = t
              · subst c; exact DD.out
              · exact HALL.out j (by omega), HBY.out.drew⟩
      · have d' : (D t != S t) = true := by rw [bne_iff_ne]; exact d
        have DD := hide d
        clear d
        go_wp2_with fail
        go_region_held3 (fun w' => w'.cell? ⟨ba, oa + t, none⟩ = some (.int .i64 (D t)) ∧ w'.cell? ⟨bb, ob + t, none⟩ = some (.int .i64 (S t)))
          ((try dsimp only) <;> (repeat' apply And.intro) <;> (first | with_reducible assumption | assumption)) (fail)
        go_wp2_with fail
        go_ret
        exact ⟨⟨false, rfl, ⟨fun e => (by cases e), fun e => absurd (e.2 t hlt) DD.out⟩⟩, HBY.out.drew⟩
    · obtain rfl : t = r := by omega
      go_wp2_with fail
      go_ret
      exact ⟨⟨true, rfl, ⟨fun _ => ⟨rfl, HALL.out⟩, fun _ => rfl⟩⟩, HBY.out⟩
/-- offsets by buffers: those of the first m lives -/
def bbf (C : Nat → MV) (O : Nat → Int) : Nat → (Nat → Int) | 0 => fun _ => -1 | m + 1 => fun q => if q = (C m).b.toNat then O m else bbf C O m q
/-- the peak of the first m -/
def pkf (C : Nat → MV) (O : Nat → Int) : Nat → Int | 0 => 0 | m + 1 => if pkf C O m < O m + (C m).s then O m + (C m).s else pkf C O m
theorem pkf_le {C : Nat → MV} {O : Nat → Int} {A : Int} : ∀ m, (pkf C O m ≤ A ↔ 0 ≤ A ∧ ∀ i, i < m → O i + (C i).s ≤ A)
  | 0 => ⟨fun h => ⟨h, fun i hi => by omega⟩, fun h => h.1⟩
  | m + 1 => by
    have ih := pkf_le (C := C) (O := O) (A := A) m
    unfold pkf
    constructor
    · intro h
      have h1 : pkf C O m ≤ A ∧ O m + (C m).s ≤ A := by split at h <;> omega
      obtain ⟨a, b⟩ := ih.1 h1.1
      exact ⟨a, fun i hi => by
        by_cases c : i = m
        · rw [c]; exact h1.2
        · exact b i (by omega)⟩
    · intro h
      have a := ih.2 ⟨h.1, fun i hi => h.2 i (by omega)⟩
      have b := h.2 m (by omega)
      split <;> omega
set_option maxRecDepth 100000 in
set_option maxHeartbeats 4000000 in
theorem byBufferF (B : Nat) (a : Option Addr) (m cap : Nat) (C : Nat → MV) (oa : Option Addr) (r ocap n : Nat) (O : Nat → Int) (w : World) (hB : B ≤ w.heap.size) (h : LM B w a m C) (h' : Ints B w oa r O) (hm : m ≤ r) (hr : (r : Int) ≤ 1048576) (hn : (n : Int) ≤ 1048576) (hb : ∀ i, i < m → 0 ≤ (C i).b ∧ (C i).b < n) :
    Calls Try.prog 40 #[.slice a m cap, .slice oa r ocap, .int .i64 n] w fun e w' => ∃ g, e = .returned (.slice (some ⟨g, 0, none⟩) n n) ∧ Rw w' g n (bbf C O m) ∧ g < w'.heap.size ∧ Below w.heap.size w w' := by
  have H := hide h
  have H' := hide h'
  have HB := hide hb
  obtain ⟨W1, hW1⟩ : ∃ W1, w.alloc (.cells #[.int .i64 (-1)] 3) = W1 := ⟨_, rfl⟩
  have B1 := hide (show Below w.heap.size w W1 by rw [← hW1]; exact (Below.refl _ _).alloc (Nat.le_refl _) _)
  have CR := hide (repeatF w.heap.size n (-1) W1 (by rw [← hW1]; simp [go_sem]) (by unfold bd; omega) hn)
  clear h h' hb
  go_enter Try.func40, Try.ntmps40
  go_wp2_with fail
  refine CR.out.mono ?_
  rintro e1 W2 ⟨rfl, r2, z2, b2⟩
  have R2 := hide r2
  have B2 := hide (B1.out.trans (b2.mono B1.out.size))
  obtain ⟨g, hg⟩ : ∃ g, W1.heap.size = g := ⟨_, rfl⟩
  have z1 : w.heap.size ≤ W1.heap.size := B1.out.size
  rw [hg] at R2 z2 z1 ⊢
  clear CR b2 r2 hg hW1
  go_wp2_with fail
  go_loopw [15] (fun i wx => ∃ k : Nat, k ≤ m ∧ i = .int .i64 k ∧ Rw wx g n (bbf C O k) ∧ g < wx.heap.size ∧ Below w.heap.size w wx) (fun i _ => m - (intOf i).toNat)
  case atStart => exact ⟨0, Nat.zero_le _, rfl, R2.out, z2, B2.out⟩
  case round =>
    obtain ⟨X, rfl⟩ : ∃ X, X = wr := ⟨_, rfl⟩
    obtain ⟨k, hk, rfl, hrw, hz, hby⟩ := hrel
    have HR := hide hrw
    have HBY := hide hby
    clear hrw hby
    by_cases hlt : k < m
    case neg =>
      obtain rfl : k = m := by omega
      go_wp2_with fail
      go_ret
      exact ⟨g, rfl, HR.out, hz, HBY.out⟩
    have kI : (k : Int) < m := by omega
    have kR : (k : Int) < r := by omega
    rcases H.out.below (HBY.out.mono hB) with h0 | ⟨b, off, rfl, hbB, hc⟩
    · omega
    obtain ⟨⟨c0, c1, c2, c3⟩, _⟩ := hc k hlt
    rcases H'.out.below (HBY.out.mono hB) with h0 | ⟨ob, oo, rfl, hob, hoc⟩
    · omega
    obtain ⟨x, hx⟩ : ∃ x, C k = x := ⟨_, rfl⟩
    rw [hx] at c0 c1 c2 c3
    have hb := HB.out k hlt
    rw [hx] at hb
    obtain ⟨q, hq⟩ : ∃ q : Nat, x.b = q := ⟨x.b.toNat, by omega⟩
    rw [hq] at c0
    have qn : q < n := by omega
    have qI : (q : Int) < n := by omega
    have po := (hoc k (by omega)).1
    have pb := hide (hoc k (by omega)).2
    have ES := hide (show ∀ t, t < n → bbf C O (k + 1) t = if t = q then O k else bbf C O k t from fun t _ => by
      show (if t = (C k).b.toNat then O k else bbf C O k t) = _
      rw [hx, hq]
      rfl)
    obtain ⟨Y, hY⟩ : ∃ Y, X.alloc (.cells #[.int .i64 (q : Int), .int .i64 x.s, .int .i64 x.f, .int .i64 x.t] 54) = Y := ⟨_, rfl⟩
    have bY : Below X.heap.size X Y := by rw [← hY]; exact (Below.refl _ _).alloc (Nat.le_refl _) _
    have m0 : Y.cell? ⟨X.heap.size, 0, none⟩ = some (.int .i64 (q : Int)) := by rw [← hY]; simp [go_sem]
    have po2 := (bY.cell (p := ⟨ob, oo + k, none⟩) (Nat.lt_of_lt_of_le hob (Nat.le_trans hB HBY.out.size))).trans po
    have RY := hide (HR.out.below bY hz)
    have BY := hide (HBY.out.trans (bY.mono HBY.out.size))
    have zY : g < Y.heap.size := Nat.lt_of_lt_of_le hz bY.size
    have cg := (RY.out q qn).1
    have fg := (RY.out q qn).2.1
    clear hc hoc hx hq hb bY
    go_wp2_with fail
    clear hY c0 c1 c2 c3 po
    refine Qt.region_tail_lit 8 (by kernel_rfl) (by kernel_rfl) ?_
    simp only [List.take_succ_cons, List.take_zero, List.drop_succ_cons, List.drop_zero]
    repeat (go_big_quiet_step (fail))
    refine wpQuiet_nil ?_
    intro _ hw'
    obtain ⟨nq, hw''⟩ := hw'
    subst hw''
    have bz := below_drewN (Below.refl Y.heap.size Y) nq
    have RZ := hide (show Rw (Y.drewN nq) g n (bbf C O k) from RY.out.below bz zY)
    have BZ := hide (show Below w.heap.size w (Y.drewN nq) from BY.out.trans (bz.mono BY.out.size))
    have zZ : g < (Y.drewN nq).heap.size := Nat.lt_of_lt_of_le zY bz.size
    have cz := (RZ.out q qn).1
    have fz := (RZ.out q qn).2.1
    obtain ⟨V, hV⟩ : ∃ V, Y.drewN nq = V := ⟨_, rfl⟩
    rw [hV] at RZ BZ zZ cz fz ⊢
    clear hV bz
    go_wp2_with fail
    go_roundw
    all_goals first
      | (simp only [intOf]; omega)
      | (simp [intOf]; omega)
      | exact ⟨k + 1, by omega, by go_num, (RZ.out.set q (O k) pb.out).same (fun t ht => ES.out t ht), by simpa [World.setCell] using zZ, BZ.out.setCell (p := ⟨g, q, none⟩) z1 _⟩
section
variable {P : Program} {ops : Array Oper} {C : World → Prop} {a : Act} {o : Oper}
theorem quiet_val {K : Act → Prop} (v : Value) (hr : ∀ w, (execOp a.eval o).run P w = .ok (.value v) w) (hk : K (a.put o.dst v)) : o.quiet P a C K :=
  ⟨v, fun w _ => by unfold Oper.quietAt; rw [hr]; exact ⟨rfl, rfl⟩, hk⟩
end
theorem runFieldR {o : Oper} {A : Act} {w : World} {x : Operand} {u y : Int} (ho : o.op = .field 113 x 1) (hx : A.eval x = .agg #[.int .i64 u, .int .i64 y]) : (execOp A.eval o).run Try.prog w = .ok (.value (.int .i64 y)) w := by
  have hfd : ∀ w : World, (Instr.field 113 (.agg #[.int .i64 u, .int .i64 y]) 1).run Try.prog w = .ok (.int .i64 y) w := fun _ => by kernel_rfl
  unfold execOp
  rw [ho]
  simp only [hx]
  go_simp
set_option maxRecDepth 100000 in
set_option maxHeartbeats 4000000 in
theorem peakOfF (B : Nat) (a : Option Addr) (m cap : Nat) (C : Nat → MV) (oa : Option Addr) (ocap : Nat) (O : Nat → Int) (w : World) (hB : B ≤ w.heap.size) (h : LM B w a m C) (h' : Ints B w oa m O) (hL : LOk m C) (hO : WI m O 1000001) :
    Calls Try.prog 42 #[.slice a m cap, .slice oa m ocap] w fun e w' => e = .returned (.int .i64 (pkf C O m)) ∧ Below w.heap.size w w' := by
  have H := hide h
  have H' := hide h'
  have HL := hide hL
  have HO := hide hO
  have m200 : (m : Int) ≤ 200 := by have := hL.1; omega
  clear h h' hL hO
  go_enter Try.func42, Try.ntmps42
  go_wp2_with fail
  go_loopw [5, 10] (fun v i wx => ∃ (k : Nat) (s : Int), k ≤ m ∧ i = .int .i64 k ∧ v = .int .i64 s ∧ s = pkf C O k ∧ Below w.heap.size w wx) (fun _ i _ => m - (intOf i).toNat)
  case atStart => exact ⟨0, 0, Nat.zero_le _, rfl, rfl, rfl, Below.refl _ _⟩
  case round =>
    obtain ⟨X, rfl⟩ : ∃ X, X = wr := ⟨_, rfl⟩
    obtain ⟨k, s, hk, rfl, rfl, hs, hby⟩ := hrel
    have HS := hide hs
    have HBY := hide hby
    clear hs hby
    by_cases hlt : k < m
    case neg =>
      obtain rfl : k = m := by omega
      go_wp2_with fail
      go_ret
      exact ⟨by rw [← HS.out]; rfl, HBY.out⟩
    have kI : (k : Int) < m := by omega
    rcases H.out.below (HBY.out.mono hB) with h0 | ⟨b, off, rfl, hbB, hc⟩
    · omega
    obtain ⟨⟨c0, c1, c2, c3⟩, _⟩ := hc k hlt
    rcases H'.out.below (HBY.out.mono hB) with h0 | ⟨ob, oo, rfl, hob, hoc⟩
    · omega
    obtain ⟨x, hx⟩ : ∃ x, C k = x := ⟨_, rfl⟩
    rw [hx] at c0 c1 c2 c3
    have mx := HL.out.2 k hlt
    rw [hx] at mx
    have po := (hoc k hlt).1
    have ho := HO.out k hlt
    obtain ⟨ok, hok⟩ : ∃ z, O k = z := ⟨_, rfl⟩
    rw [hok] at po ho
    have e2 := hide (show (if s < ok + x.s then ok + x.s else s) = pkf C O (k + 1) by
      show _ = if pkf C O k < O k + (C k).s then O k + (C k).s else pkf C O k
      rw [hx, hok, ← HS.out])
    obtain ⟨Y, hY⟩ : ∃ Y, X.alloc (.cells #[.int .i64 x.b, .int .i64 x.s, .int .i64 x.f, .int .i64 x.t] 54) = Y := ⟨_, rfl⟩
    have bY : Below X.heap.size X Y := by rw [← hY]; exact (Below.refl _ _).alloc (Nat.le_refl _) _
    have mc := mcells X (.int .i64 x.b) (.int .i64 x.s) (.int .i64 x.f) (.int .i64 x.t) 54
    rw [hY] at mc
    obtain ⟨m0, m1, m2, m3⟩ := mc
    have po2 := (bY.cell (p := ⟨ob, oo + k, none⟩) (Nat.lt_of_lt_of_le hob (Nat.le_trans hB HBY.out.size))).trans po
    have BY := hide (HBY.out.trans (bY.mono HBY.out.size))
    have km0 := cell_regrown m0
    have km1 := cell_regrown m1
    have km2 := cell_regrown m2
    have km3 := cell_regrown m3
    have kp := cell_regrown po2
    have c1x := hide (fun (q1 : Nat) (os : Array Obj) => show Calls Try.prog 73 #[.agg #[.int .i64 x.b, .int .i64 x.s, .int .i64 x.f, .int .i64 x.t], .int .i64 ok] (Sort.grow (redrawn Y q1) os) (fun e w'' => e = .returned (.agg #[.int .i64 ok, .int .i64 (ok + x.s)]) ∧ ∃ p : Regrown, w'' = Sort.grow (redrawn Y p.d) p.os) from Calls.regrown_of (roomAtF x ok _ ho mx))
    obtain ⟨ed, hed⟩ : ∃ z, ok + x.s = z := ⟨_, rfl⟩
    rw [hed] at e2 c1x
    clear hc hoc hx hok hed bY mx ho
    go_wp2_with fail
    clear hY c0 c1 c2 c3 po
    refine wp_region_quiet_below (by kernel_rfl) (by kernel_rfl) ?_
    repeat (go_big_quiet_step (first | (go_at_call 73; exact c1x.out _ _)))
    refine BigFrame.wpQuiet_want (by rfl) (fun K hK => quiet_val (.int .i64 ed) (fun W => runFieldR rfl rfl) (hK _ ?_))
    simp only [Act.put, List.setIfInBounds_toArray, List.set_cons_succ, List.set_cons_zero]
    repeat (go_big_quiet_step (fail))
    refine wpQuiet_nil ?_
    intro _ hw'
    obtain ⟨⟨dq, osq⟩, hw''⟩ := hw'
    subst hw''
    go_wp2_with fail
    go_roundw
    all_goals first
      | (simp only [intOf]; omega)
      | (simp [intOf]; omega)
      | exact ⟨k + 1, _, by omega, by go_num, rfl, e2.out, BY.out.trans ((below_regrown Y dq osq).mono BY.out.size)⟩
end Vo
end Go.Proofs.Ytgmjijjckedmcaa
