/- A buffer's life in the model. -/
import Derived.Test.YtgmjijjckedmcaaMj
namespace Go.Proofs.Ytgmjijjckedmcaa
namespace Vo
open Go.ChangeShapes Go.WideShapes Go.ChangeAt Go.RowKit Go.Joins Go.Sort
open Vl Vp
set_option linter.unusedVariables false
set_option linter.unusedSimpArgs false
/-- a life in a variable -/
def MX (w : World) (p : Nat) (x : MV) : Prop := (w.cell? ⟨p, 0, none⟩ = some (.int .i64 x.b) ∧ w.cell? ⟨p, 1, none⟩ = some (.int .i64 x.s) ∧ w.cell? ⟨p, 2, none⟩ = some (.int .i64 x.f) ∧ w.cell? ⟨p, 3, none⟩ = some (.int .i64 x.t)) ∧ ∀ i, w.frozen? ⟨p, i, none⟩ = false
theorem MX.lt {w : World} {p : Nat} {x : MV} (h : MX w p x) : p < w.heap.size := World.block_lt_of_cell? _ _ h.1.1
theorem MX.below {w w' : World} {p : Nat} {x : MV} (h : MX w p x) (hb : Below w.heap.size w w') : MX w' p x := by
  have c : ∀ i, w'.cell? ⟨p, i, none⟩ = w.cell? ⟨p, i, none⟩ := fun i => hb.cell (p := ⟨p, i, none⟩) h.lt
  exact ⟨by rw [c, c, c, c]; exact h.1, fun i => (hb.frozen (p := ⟨p, i, none⟩) h.lt).trans (h.2 i)⟩
theorem MX.new (w : World) (x : MV) (t : TypeId) : MX (w.alloc (.cells #[.int .i64 x.b, .int .i64 x.s, .int .i64 x.f, .int .i64 x.t] t)) w.heap.size x := ⟨by simp [go_sem], fun i => by simp [go_sem]⟩
theorem MX.setT {w : World} {p : Nat} {x : MV} (h : MX w p x) (z : Int) : MX (w.setCell ⟨p, 3, none⟩ (.int .i64 z)) p ⟨x.b, x.s, x.f, z⟩ := by
  have far : ∀ q, q ≠ 3 → (w.setCell ⟨p, 3, none⟩ (.int .i64 z)).cell? ⟨p, q, none⟩ = w.cell? ⟨p, q, none⟩ := fun q hq => World.cell?_setCell_other _ _ _ _ (by intro e; injection e with _ e _; omega)
  exact ⟨⟨(far 0 (by omega)).trans h.1.1, (far 1 (by omega)).trans h.1.2.1, (far 2 (by omega)).trans h.1.2.2.1, World.cell?_setCell_same _ _ _ h.1.2.2.2⟩, fun i => by rw [World.frozen?_setCell]; exact h.2 i⟩
theorem MX.setF {w : World} {p : Nat} {x : MV} (h : MX w p x) (z : Int) : MX (w.setCell ⟨p, 2, none⟩ (.int .i64 z)) p ⟨x.b, x.s, z, x.t⟩ := by
  have far : ∀ q, q ≠ 2 → (w.setCell ⟨p, 2, none⟩ (.int .i64 z)).cell? ⟨p, q, none⟩ = w.cell? ⟨p, q, none⟩ := fun q hq => World.cell?_setCell_other _ _ _ _ (by intro e; injection e with _ e _; omega)
  exact ⟨⟨(far 0 (by omega)).trans h.1.1, (far 1 (by omega)).trans h.1.2.1, World.cell?_setCell_same _ _ _ h.1.2.2.1, (far 3 (by omega)).trans h.1.2.2.2⟩, fun i => by rw [World.frozen?_setCell]; exact h.2 i⟩
theorem hasB_next (m : Nat) (G : Nat → Int) (x : Int) : hasB (m + 1) G x = (hasB m G x || decide (G m = x)) := by
  unfold hasB
  by_cases c : G m = x
  · rw [decide_eq_true c, Bool.or_true]
    exact decide_eq_true ⟨m, by omega, c⟩
  · rw [decide_eq_false c, Bool.or_false]
    refine decide_eq_decide.2 ⟨?_, fun ⟨t, ht, e⟩ => ⟨t, by omega, e⟩⟩
    rintro ⟨t, ht, e⟩
    by_cases ct : t = m
    · rw [ct] at e; exact absurd e c
    · exact ⟨t, by omega, e⟩
theorem gv_or (v : NV) (b : Int) : gvB v b = (hasB v.fn (fun j => (v.FF j).u) b || hasB v.i v.ID b) := by
  unfold gvB hasB
  rw [← Bool.decide_or]
  refine decide_eq_decide.2 ⟨?_, ?_⟩
  · rintro ⟨t, ht, e⟩
    unfold gvn at e
    by_cases c : t < v.i
    · rw [if_pos c] at e; exact .inr ⟨t, c, e⟩
    · rw [if_neg c] at e; exact .inl ⟨t - v.i, by omega, e⟩
  · rintro (⟨t, ht, e⟩ | ⟨t, ht, e⟩)
    · exact ⟨v.i + t, by omega, by unfold gvn; rw [if_neg (by omega), show v.i + t - v.i = t by omega]; exact e⟩
    · exact ⟨t, by omega, by unfold gvn; rw [if_pos ht]; exact e⟩
set_option maxRecDepth 100000 in
set_option maxHeartbeats 4000000 in
theorem usesF (B : Nat) (K : KV) (b : Int) (w : World) (hB : B ≤ w.heap.size) (h : K.read B w) (ha : (K.an : Int) ≤ 1048576) :
    Calls Try.prog 80 #[K.val, .int .i64 b] w fun e w' => ∃ a n c, e = .returned (.slice a n c) ∧ decide (0 < n) = loadsB K b ∧ Below w.heap.size w w' := by
  obtain ⟨i0, hi0, hz0, hz1, hz2⟩ := info_parts infoInt
  obtain ⟨la, lr, lcap, LD, aa, an, acap, AA, ⟨su, so, sta, str, stcap, stD⟩, sm, ca, cn, ccap, CC⟩ := K
  obtain ⟨_, h2, _, _⟩ := h
  unfold KV.val loadsB
  dsimp only at *
  obtain ⟨Z, hZ⟩ : ∃ Z, w.alloc (.cells #[.slice la lr lcap, .slice aa an acap, .int .i64 su, .int .i64 so, .slice sta str stcap, .bool sm, .slice ca cn ccap] 90) = Z := ⟨_, rfl⟩
  have BL := hide (show Below w.heap.size w Z by rw [← hZ]; exact (Below.refl _ _).alloc (Nat.le_refl _) _)
  have p := Cells7.new w (.slice la lr lcap) (.slice aa an acap) (.int .i64 su) (.int .i64 so) (.slice sta str stcap) (.bool sm) (.slice ca cn ccap) 90
  rw [hZ] at p
  have C1 := hide p
  have z1 : w.heap.size < Z.heap.size := World.block_lt_of_cell? _ _ p.1
  have H2 := hide (h2.below (BL.out.mono hB))
  have hB1 : B ≤ Z.heap.size := by omega
  obtain ⟨p0, p1, p2, p3, p4, p5, p6⟩ := p
  have W0 := hide (show Below Z.heap.size Z (Z.alloc (.cells #[] 3)) from (Below.refl _ _).alloc (Nat.le_refl _) _)
  have R0 := hide (show RowV Z.heap.size (Z.alloc (.cells #[] 3)) (.slice (some ⟨Z.heap.size, 0, none⟩) 0 0) 0 (fun _ => 0) from ⟨⟨rfl, .inr ⟨Z.heap.size, 0, #[], rfl, Nat.le_refl _, heap_alloc_new Z _, Nat.le_refl _, by simp [maxLen], rfl, rfl⟩⟩, fun m hm => by omega⟩)
  clear h2
  go_enter Try.func80, Try.ntmps80
  go_wp2_with fail
  clear p0 p1 p2 p3 p4 p5 p6 hZ
  go_loopw [5, 6] (fun g t wx => ∃ (m n : Nat) (a : Option Addr) (c : Nat) (G : Nat → Int), m ≤ an ∧ n ≤ m ∧ t = .int .i64 m ∧ g = .slice a n c ∧ RowV Z.heap.size wx (.slice a n c) n G ∧ decide (0 < n) = hasB m (fun i => (AA i).u) b ∧ Below Z.heap.size Z wx) (fun _ t _ => an - (intOf t).toNat)
  case atStart => exact ⟨0, 0, _, _, _, Nat.zero_le _, Nat.zero_le _, rfl, rfl, R0.out, (decide_eq_false (by omega)).trans (decide_eq_false (by rintro ⟨q, hq, _⟩; omega)).symm, W0.out⟩
  case round =>
    obtain ⟨X, rfl⟩ : ∃ X, X = wr := ⟨_, rfl⟩
    obtain ⟨m, n, a, c, G, hm, hnm, rfl, rfl, hrv, hd, hby⟩ := hrel
    have RV := hide hrv
    have HD := hide hd
    have HBY := hide hby
    have BX := hide (BL.out.trans (hby.mono BL.out.size))
    have zX := hby.size
    obtain ⟨p0, p1, p2, p3, p4, p5, p6⟩ := C1.out.below hby z1
    clear hrv hd hby
    by_cases hlt : m < an
    case neg =>
      obtain rfl : m = an := by omega
      go_wp2_with fail
      go_ret
      exact ⟨a, n, c, rfl, HD.out, BX.out⟩
    have mI : (m : Int) < an := by omega
    rcases H2.out.below (HBY.out.mono hB1) with q0 | ⟨ab, ao, rfl, hab, hac⟩
    · omega
    obtain ⟨c0, c1, c2, _⟩ := hac m hlt
    have NX := hide (hasB_next m (fun i => (AA i).u) b)
    by_cases hu : (AA m).u = b
    case neg =>
      have hu' : ((AA m).u == b) = false := by simp [hu]
      have e := hide (show decide (0 < n) = hasB (m + 1) (fun i => (AA i).u) b by rw [NX.out, ← HD.out, decide_eq_false hu, Bool.or_false])
      clear hu hac
      go_wp2_with fail
      go_roundw
      all_goals first
        | (simp only [intOf]; omega)
        | (simp [intOf]; omega)
        | exact ⟨m + 1, n, a, c, G, by omega, by omega, by go_num, rfl, RV.out, e.out, HBY.out⟩
    have hu' : ((AA m).u == b) = true := by simp [hu]
    have e := hide (show decide (0 < n + 1) = hasB (m + 1) (fun i => (AA i).u) b by rw [NX.out, decide_eq_true hu, Bool.or_true]; exact decide_eq_true (by omega))
    have GX := hide (show ints n G ++ [.int .i64 (m : Int)] = ints (n + 1) (fun q => if q = n then (m : Int) else G q) by
      rw [← ints_succ]
      congr 1
      · unfold ints
        refine List.map_congr_left (fun q hq => ?_)
        have := List.mem_range.1 hq
        dsimp only
        rw [if_neg (show ¬ q = n by omega)]
      · simp)
    clear hu hac
    go_wp2_with (at_builtin; refine wpList_append_own _ rfl _ _ 22 rfl Z.heap.size 3 i0 (.int .i64 0) 1 8 Try.underlying22 hi0 hz0 hz1 hz2 rfl (by decide) _ _ _ rfl (RV.out.1.alloc _) ⟨X.heap.size, 0, none⟩ 1 1 [.int .i64 (m : Int)] rfl rfl (World.news_of_block (cs := #[.int .i64 (m : Int)]) (t := 3) (fr := (0, 0)) (heap_alloc_new X _)) (by simp [Value.oneCell']) (by unfold maxLen; omega) (by omega) (by simp; omega) ?_; intro v' X3 hown1 hgrow1 _)
    go_roundw
    case rel =>
      rw [GX.out] at hown1
      have rv : RowV Z.heap.size X3 v' (n + 1) (fun q => if q = n then (m : Int) else G q) := ⟨hown1, fun q hq => by
        dsimp only
        split
        · unfold bd; omega
        · exact RV.out.2 q (by omega)⟩
      obtain ⟨a', c', rfl, _⟩ := RowV.own rv
      exact ⟨m + 1, n + 1, a', c', _, by omega, by omega, by go_num, rfl, rv, e.out, grow_kept RV.out _ hgrow1.os hgrow1.tape hgrow1.output hgrow1.size (fun b hb hn => hgrow1.block b hb (fun q => hn q.symm)) HBY.out zX⟩
    case measure => simp [intOf]; omega
set_option maxHeartbeats 2000000 in
theorem touchesF (B : Nat) (K : KV) (b : Int) (w : World) (hB : B ≤ w.heap.size) (h : K.read B w) (ha : (K.an : Int) ≤ 1048576) :
    Calls Try.prog 50 #[K.val, .int .i64 b] w fun e w' => e = .returned (.bool (touchB K b)) ∧ Below w.heap.size w w' := by
  obtain ⟨Z, hZ⟩ : ∃ Z, w.alloc (.cells #[.slice K.la K.lr K.lcap, .slice K.aa K.an K.acap, .int .i64 K.st.u, .int .i64 K.st.o, .slice K.st.a K.st.r K.st.cap, .bool K.sm, .slice K.ca K.cn K.ccap] 90) = Z := ⟨_, rfl⟩
  have BL := hide (show Below w.heap.size w Z by rw [← hZ]; exact (Below.refl _ _).alloc (Nat.le_refl _) _)
  have p := Cells7.new w (.slice K.la K.lr K.lcap) (.slice K.aa K.an K.acap) (.int .i64 K.st.u) (.int .i64 K.st.o) (.slice K.st.a K.st.r K.st.cap) (.bool K.sm) (.slice K.ca K.cn K.ccap) 90
  rw [hZ] at p
  obtain ⟨p0, p1, p2, p3, p4, p5, p6⟩ := p
  have CU := hide (usesF B K b Z (Nat.le_trans hB BL.out.size) (h.below (BL.out.mono hB)) ha)
  unfold KV.val at CU ⊢
  clear h
  go_enter Try.func50, Try.ntmps50
  by_cases c : K.st.u = b
  · have c' : (K.st.u == b) = true := by simp [c]
    have e := hide (show touchB K b = true by unfold touchB; rw [decide_eq_true c, Bool.true_or])
    clear c
    go_wp2_with fail
    go_ret
    exact ⟨by rw [e.out]; rfl, BL.out⟩
  have c' : (K.st.u == b) = false := by simp [c]
  have e := hide (show loadsB K b = touchB K b by unfold touchB; rw [decide_eq_false c, Bool.false_or])
  clear c
  go_wp2_with fail
  refine CU.out.mono ?_
  rintro e1 w1 ⟨a, n, cp, rfl, hd, b1⟩
  have B1 := hide (BL.out.trans (b1.mono BL.out.size))
  have HD := hide (show decide ((0 : Int) < (n : Int)) = touchB K b by rw [← e.out, ← hd]; exact decide_eq_decide.2 ⟨fun q => by omega, fun q => by omega⟩)
  have HD2 := hide (show decide (0 < n) = touchB K b by rw [← e.out, ← hd])
  clear hd b1
  go_wp2_with fail
  go_ret
  exact ⟨by first | (rw [HD2.out]; rfl) | (rw [HD.out]; rfl) | (rw [← HD2.out]; rfl) | (rw [← HD.out]; rfl), B1.out⟩
set_option maxRecDepth 100000 in
set_option maxHeartbeats 2000000 in
theorem specGiven (B : Nat) (v : NV) (b : Int) (w : World) (hB : B ≤ w.heap.size) (h : v.read B w) (hl : v.len 1048576) :
    Calls Try.prog 51 #[v.val, .int .i64 b] w fun e w' => e = .returned (.bool (gvB v b)) ∧ Below w.heap.size w w' := by
  rw [gv_or]
  obtain ⟨sa, sn, scap, SD, ia, i, icap, ID, fa, fn, fcap, FF, ka, kn, kcap, KK, oa, on, ocap, OD⟩ := v
  obtain ⟨_, h2, h3, _, _⟩ := h
  obtain ⟨_, l2, ⟨l3, _⟩, _, _⟩ := hl
  unfold NV.val
  dsimp only at *
  obtain ⟨Z, hZ⟩ : ∃ Z, w.alloc (.cells #[.slice sa sn scap, .slice ia i icap, .slice fa fn fcap, .slice ka kn kcap, .slice oa on ocap] 33) = Z := ⟨_, rfl⟩
  have BL := hide (show Below w.heap.size w Z by rw [← hZ]; exact (Below.refl _ _).alloc (Nat.le_refl _) _)
  have p := Cells5.new w (.slice sa sn scap) (.slice ia i icap) (.slice fa fn fcap) (.slice ka kn kcap) (.slice oa on ocap) 33
  rw [hZ] at p
  obtain ⟨p0, p1, p2, p3, p4⟩ := p
  have H3 := hide (h3.below (BL.out.mono hB))
  have CI := hide (l7HasN B ia i icap ID b Z (h2.below (BL.out.mono hB)) (by omega))
  clear h2 h3
  go_enter Try.func51, Try.ntmps51
  go_wp2_with fail
  go_loopw [5] (fun t wx => ∃ m : Nat, m ≤ fn ∧ t = .int .i64 m ∧ hasB m (fun j => (FF j).u) b = false ∧ wx = Z) (fun t _ => fn - (intOf t).toNat)
  case atStart => exact ⟨0, Nat.zero_le _, rfl, decide_eq_false (by rintro ⟨q, hq, _⟩; omega), rfl⟩
  case round =>
    obtain ⟨m, hm, rfl, hd, rfl⟩ := hrel
    have HD := hide hd
    clear hd
    by_cases hlt : m < fn
    case neg =>
      obtain rfl : m = fn := by omega
      go_wp2_with fail
      refine CI.out.mono ?_
      rintro e1 w1 ⟨rfl, rfl⟩
      go_wp2_with fail
      go_ret
      exact ⟨by rw [HD.out, Bool.false_or]; rfl, BL.out⟩
    have mI : (m : Int) < fn := by omega
    rcases H3.out with q0 | ⟨fb, fo, rfl, hfb, hfc⟩
    · omega
    obtain ⟨c0, c1, _, _⟩ := hfc m hlt
    have NX := hide (hasB_next m (fun j => (FF j).u) b)
    clear hfc
    by_cases hu : (FF m).u = b
    · have hu' : ((FF m).u == b) = true := by simp [hu]
      have e := hide (show hasB fn (fun j => (FF j).u) b = true from decide_eq_true ⟨m, hlt, hu⟩)
      clear hu
      go_wp2_with fail
      go_ret
      exact ⟨by rw [e.out, Bool.true_or]; rfl, BL.out⟩
    · have hu' : ((FF m).u == b) = false := by simp [hu]
      have e := hide (show hasB (m + 1) (fun j => (FF j).u) b = false by rw [NX.out, HD.out, decide_eq_false hu]; rfl)
      clear hu
      go_wp2_with fail
      go_roundw
      all_goals first
        | (simp only [intOf]; omega)
        | (simp [intOf]; omega)
        | exact ⟨m + 1, by omega, by go_num, e.out, trivial⟩
end Vo
end Go.Proofs.Ytgmjijjckedmcaa
