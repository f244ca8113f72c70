/- Lemmas for the proof of the law. -/
import Derived.Test.YtjlmbeachanlfaaMgan
import Derived.Test.YtjlmbeachanlfaaMgap
import Derived.Test.YtjlmbeachanlfaaMgbi
import Derived.Test.YtjlmbeachanlfaaMgaq
/- Caches of one's own: marked, held. -/
namespace Go.Proofs.Ytjlmbeachanlfaa
namespace Vo
open Go.ChangeShapes Go.WideShapes Go.ChangeAt Go.RowKit Go.Joins Go.Sort
open Vl Vp
set_option linter.unusedVariables false
set_option linter.unusedSimpArgs false
theorem OLL.keptS {S : Nat → Prop} {w w' : World} {g n k : Nat} {M : Nat → LV} (h : OLL w g n k M) (hk : Kept S w w') (hg : ¬ S g) (hr : ∀ i, i < k → ∀ b, Blk (M i).a (M i).r b → ¬ S b) : OLL w' g n k M :=
  have eb := hk.block g h.lt hg
  ⟨Nat.lt_of_lt_of_le h.lt hk.size, fun i hi => (World.cell?_of_block (w := w) (a := ⟨g, i, none⟩) eb).trans (h.laid i hi), fun i h1 h2 => (World.cell?_of_block (w := w) (a := ⟨g, i, none⟩) eb).trans (h.rest i h1 h2), fun i => (World.frozen?_of_block (w := w) (a := ⟨g, i, none⟩) eb).trans (h.free i), fun i hi => (h.own i hi).kept hk (hr i hi), h.ord⟩
/-- rows of one's own that lie from E up to below F -/
def RowsO (E F : Nat) (w : World) (a : Option Addr) (n : Nat) (M : Nat → LV) : Prop :=
  n = 0 ∨ ∃ g, a = some ⟨g, 0, none⟩ ∧ E ≤ g ∧ g < F ∧ OLL w g n n M ∧ ∀ i, i < n → ∀ b, Blk (M i).a (M i).r b → b < F
theorem RowsO.below {E F : Nat} {w w' : World} {a : Option Addr} {n : Nat} {M : Nat → LV} (h : RowsO E F w a n M) (hb : Below w.heap.size w w') : RowsO E F w' a n M := by
  rcases h with h | ⟨g, e, h1, h2, o, r⟩
  · exact .inl h
  · exact .inr ⟨g, e, h1, h2, o.below hb, r⟩
theorem RowsO.kept {S : Nat → Prop} {E F : Nat} {w w' : World} {a : Option Addr} {n : Nat} {M : Nat → LV} (h : RowsO E F w a n M) (hk : Kept S w w') (hs : ∀ b, E ≤ b → b < F → ¬ S b) : RowsO E F w' a n M := by
  rcases h with h | ⟨g, e, h1, h2, o, r⟩
  · exact .inl h
  · exact .inr ⟨g, e, h1, h2, o.keptS hk (hs g h1 h2) (fun i hi b hb => hs b (by have := ((o.own i hi).blk hb).1; omega) (r i hi b hb)), r⟩
theorem RowsO.read {E F : Nat} {w : World} {a : Option Addr} {n : Nat} {M : Nat → LV} (h : RowsO E F w a n M) : LL w.heap.size w a n M := by
  rcases h with h | ⟨g, rfl, h1, h2, o, r⟩
  · exact .inl h
  · exact o.read
def setD (M : Nat → LV) (i : Nat) (D : Nat → Int) : Nat → LV := fun t => if t = i then ⟨(M t).a, (M t).r, (M t).cap, D⟩ else M t
theorem setD_a (M : Nat → LV) (i : Nat) (D : Nat → Int) (t : Nat) : (setD M i D t).a = (M t).a ∧ (setD M i D t).r = (M t).r ∧ (setD M i D t).cap = (M t).cap := by
  unfold setD
  split <;> exact ⟨rfl, rfl, rfl⟩
theorem OLL.mark {w w' : World} {g n i : Nat} {M : Nat → LV} {D : Nat → Int} (h : OLL w g n n M) (hi : i < n) (ho : OwnL (g + 1) w' (M i).a (M i).r D) (hk : Kept (Blk (M i).a (M i).r) w w') : OLL w' g n n (setD M i D) := by
  have ng : ¬ Blk (M i).a (M i).r g := fun q => by have := ((h.own i hi).blk q).1; omega
  have eb := hk.block g h.lt ng
  refine ⟨Nat.lt_of_lt_of_le h.lt hk.size, fun t ht => ?_, fun t h1 h2 => by omega, fun t => (World.frozen?_of_block (w := w) (a := ⟨g, t, none⟩) eb).trans (h.free t), fun t ht => ?_, fun t u htu hu b b' h2 h3 => ?_⟩
  · obtain ⟨e1, e2, e3⟩ := setD_a M i D t
    rw [e1, e2, e3]
    exact (World.cell?_of_block (w := w) (a := ⟨g, t, none⟩) eb).trans (h.laid t ht)
  · by_cases c : t = i
    · subst c
      unfold setD
      simp only [if_true]
      exact ho
    · unfold setD
      simp only [c, if_false]
      refine (h.own t ht).kept hk (fun b q q' => ?_)
      rcases Nat.lt_or_ge t i with z | z
      · have := h.ord t i z hi b b q q'; omega
      · have := h.ord i t (by omega) ht b b q' q; omega
  · rw [(setD_a M i D t).1, (setD_a M i D t).2.1] at h2
    rw [(setD_a M i D u).1, (setD_a M i D u).2.1] at h3
    exact h.ord t u htu hu b b' h2 h3
/-- rows that are marked, up to the j-th -/
def mkd (M : Nat → LV) (k : Int) (j : Nat) : Nat → LV := fun t => if t < j then ⟨(M t).a, (M t).r, (M t).cap, fun x => k + lsum M t + x⟩ else M t
theorem mkd_zero (M : Nat → LV) (k : Int) : mkd M k 0 = M := by
  funext t
  unfold mkd
  rw [if_neg (by omega)]
theorem mkd_at (M : Nat → LV) (k : Int) (j : Nat) : mkd M k j j = M j := by
  unfold mkd
  rw [if_neg (by omega)]
theorem mkd_in (M : Nat → LV) (k : Int) {j t : Nat} (h : t < j) : mkd M k j t = ⟨(M t).a, (M t).r, (M t).cap, fun x => k + lsum M t + x⟩ := by
  unfold mkd
  rw [if_pos h]
theorem mkd_a (M : Nat → LV) (k : Int) (j t : Nat) : (mkd M k j t).a = (M t).a ∧ (mkd M k j t).r = (M t).r := by
  unfold mkd
  split <;> exact ⟨rfl, rfl⟩
theorem mkd_succ (M : Nat → LV) (k : Int) (j : Nat) : setD (mkd M k j) j (fun x => k + lsum M j + x) = mkd M k (j + 1) := by
  funext t
  unfold setD
  by_cases c : t = j
  · subst c
    rw [if_pos rfl, mkd_at, mkd_in M k (Nat.lt_succ_self t)]
  · rw [if_neg c]
    unfold mkd
    by_cases d : t < j
    · rw [if_pos d, if_pos (by omega)]
    · rw [if_neg d, if_neg (by omega)]
theorem lsum_succ (L : Nat → LV) (n : Nat) : ((lsum L (n + 1) : Nat) : Int) = (lsum L n : Int) + ((L n).r : Int) := by
  show ((lsum L n + (L n).r : Nat) : Int) = _
  omega
theorem RowsO.mark {E F : Nat} {w w' : World} {a : Option Addr} {n j : Nat} {M : Nat → LV} {k : Int} (h : RowsO E F w a n (mkd M k j)) (hj : j < n) {g : Nat} (hg : a = some ⟨g, 0, none⟩) (ho : OwnL (g + 1) w' (M j).a (M j).r (fun x => k + lsum M j + x)) (hk : Kept (Blk (M j).a (M j).r) w w') : RowsO E F w' a n (mkd M k (j + 1)) := by
  rcases h with h | ⟨g', e, h1, h2, o, r⟩
  · omega
  · rw [hg] at e
    cases e
    refine .inr ⟨g, hg, h1, h2, ?_, fun i hi b hb => ?_⟩
    · rw [← mkd_succ]
      exact o.mark hj (by rw [mkd_at]; exact ho) (by rw [mkd_at]; exact hk)
    · refine r i hi b ?_
      rw [(mkd_a _ _ _ _).1, (mkd_a _ _ _ _).2] at hb ⊢
      exact hb
set_option maxHeartbeats 1000000 in
theorem markIntSS (E F : Nat) (a : Option Addr) (n cap : Nat) (M : Nat → LV) (k : Int) (w : World) (h : RowsO E F w a n M) (hl : LLen n M 1048576) (hs : (lsum M n : Int) ≤ 33554432) (hn : (n : Int) ≤ 1048576) (k0 : 0 ≤ k) (k1 : k ≤ 33554432) :
    Calls Try.prog 32 #[.slice a n cap, .int .i64 k] w fun e w' => e = .returned (.int .i64 (k + lsum M n)) ∧ RowsO E F w' a n (mkd M k n) ∧ Kept (fun b => E ≤ b ∧ b < F) w w' := by
  have H := hide h
  have HL := hide hl
  have HS := hide hs
  clear h hl hs
  go_enter Try.func32, Try.ntmps32
  go_wp2_with fail
  go_loopw [1, 5] (fun c i wx => ∃ j : Nat, j ≤ n ∧ c = .int .i64 (k + lsum M j) ∧ i = .int .i64 j ∧ RowsO E F wx a n (mkd M k j) ∧ Kept (fun b => E ≤ b ∧ b < F) w wx) (fun _ i _ => n - (intOf i).toNat)
  case atStart => exact ⟨0, Nat.zero_le _, by show _ = Value.int IntKind.i64 (k + ((0 : Nat) : Int)); go_num, rfl, by rw [mkd_zero]; exact H.out, Kept.refl _ _⟩
  case round =>
    obtain ⟨X, rfl⟩ : ∃ X, X = wr := ⟨_, rfl⟩
    obtain ⟨j, hj, rfl, rfl, hw, hk⟩ := hrel
    have HW := hide hw
    have HK := hide hk
    clear hw hk
    by_cases hlt : j < n
    · have kI : (j : Int) < n := by omega
      obtain ⟨g, hg, o, rr⟩ : ∃ g, a = some ⟨g, 0, none⟩ ∧ OLL X g n n (mkd M k j) ∧ (E ≤ g ∧ ∀ b, Blk (M j).a (M j).r b → b < F) := by
        rcases HW.out with h0 | ⟨g, e, h1, h2, o, r⟩
        · omega
        · exact ⟨g, e, o, h1, fun b hb => r j hlt b (by rw [mkd_at]; exact hb)⟩
      have c0 := o.laid j hlt
      have ow := hide (o.own j hlt)
      rw [mkd_at] at c0 ow
      have RR := hide rr
      have HG := hide hg
      obtain ⟨S, hS⟩ : ∃ S : Int, S = lsum M j := ⟨_, rfl⟩
      have s0 : 0 ≤ S := by omega
      have s1 : S ≤ 33554432 := by have := lsum_mono (L := M) hj; have := HS.out; omega
      have CT := hide (markIntS (g + 1) (M j).a (M j).r (M j).cap (M j).D (k + S) X ow.out (HL.out j hlt) (by omega) (by omega))
      have ES := hide hS
      rw [← hS]
      clear o rr hS
      subst hg
      go_wp2_with fail
      refine CT.out.mono ?_
      rintro e X1 ⟨rfl, ho, hk⟩
      have HO := hide ho
      have HX := hide hk
      clear ho hk CT
      have lr := HL.out j hlt
      go_wp2_with fail
      go_roundw
      all_goals first
        | (simp only [intOf]; omega)
        | (simp [intOf]; omega)
        | exact ⟨j + 1, by omega, by rw [lsum_succ, ← ES.out]; go_num, by go_num, HW.out.mark hlt rfl (by rw [← ES.out]; exact HO.out) HX.out, HK.out.trans (HX.out.mono (fun b _ q => ⟨by have := (ow.out.blk q).1; have := RR.out.1; omega, RR.out.2 b q⟩))⟩
    · obtain rfl : j = n := by omega
      go_wp2_with fail
      go_ret
      exact ⟨rfl, HW.out, HK.out⟩
theorem heldIntB (B : Nat) (a : Option Addr) (r cap : Nat) (k : Int) (w : World) (h : Ints B w a r (fun j => k + j)) (hr : (r : Int) ≤ 1048576) (k0 : 0 ≤ k) (k1 : k ≤ 134217728) :
    Calls Try.prog 14 #[.slice a r cap, .int .i64 k] w fun e w' => e = .returned (.int .i64 (k + r)) ∧ w' = w := by
  have H := hide h
  clear h
  go_enter Try.func14, Try.ntmps14
  go_wp2_with fail
  go_loop [1, 5] (fun c i => ∃ j : Nat, j ≤ r ∧ c = .int .i64 (k + j) ∧ i = .int .i64 j) (fun _ i => r - (intOf i).toNat)
  case atStart => exact ⟨0, Nat.zero_le _, by go_num, rfl⟩
  case round =>
    obtain ⟨j, hj, rfl, rfl⟩ := hrel
    by_cases hlt : j < r
    · rcases H.out with h0 | ⟨b, off, rfl, hbB, hc⟩
      · omega
      have c1 := (hc j hlt).1
      clear hc
      go_wp2_with fail
      go_round
      case rel => exact ⟨j + 1, by omega, by go_num, by go_num⟩
      case measure => simp [intOf]; omega
    · have e : j = r := by omega
      subst e
      go_wp2_with fail
      go_ret
      exact ⟨rfl, rfl⟩
set_option maxHeartbeats 1000000 in
theorem heldIntSS (B : Nat) (a : Option Addr) (n cap : Nat) (M : Nat → LV) (k : Int) (w : World) (h : LL B w a n (mkd M k n)) (hl : LLen n M 1048576) (hs : (lsum M n : Int) ≤ 33554432) (hn : (n : Int) ≤ 1048576) (k0 : 0 ≤ k) (k1 : k ≤ 67108864) :
    Calls Try.prog 33 #[.slice a n cap, .int .i64 k] w fun e w' => e = .returned (.int .i64 (k + lsum M n)) ∧ w' = w := by
  have H := hide h
  have HL := hide hl
  have HS := hide hs
  clear h hl hs
  go_enter Try.func33, Try.ntmps33
  go_wp2_with fail
  go_loopw [1, 5] (fun c i wx => ∃ j : Nat, j ≤ n ∧ c = .int .i64 (k + lsum M j) ∧ i = .int .i64 j ∧ wx = w) (fun _ i _ => n - (intOf i).toNat)
  case atStart => exact ⟨0, Nat.zero_le _, by show _ = Value.int IntKind.i64 (k + ((0 : Nat) : Int)); go_num, rfl, rfl⟩
  case round =>
    obtain ⟨j, hj, rfl, rfl, rfl⟩ := hrel
    by_cases hlt : j < n
    · have kI : (j : Int) < n := by omega
      rcases H.out with h0 | ⟨blk, off, rfl, hbB, hc⟩
      · omega
      obtain ⟨c0, i0⟩ := hc j hlt
      rw [mkd_in M k hlt] at c0 i0
      obtain ⟨S, hS⟩ : ∃ S : Int, S = lsum M j := ⟨_, rfl⟩
      have s0 : 0 ≤ S := by omega
      have s1 : S ≤ 33554432 := by have := lsum_mono (L := M) hj; have := HS.out; omega
      have lr := HL.out j hlt
      have hd : decide (k + S + ((M j).r : Int) < 0) = false := by rw [decide_eq_false_iff_not]; omega
      have CT := hide (heldIntB B (M j).a (M j).r (M j).cap (k + S) wr (by rw [hS]; exact i0) lr (by omega) (by omega))
      have ES := hide hS
      rw [← hS]
      clear hc i0 hS
      go_wp2_with fail
      refine CT.out.mono ?_
      rintro e X1 ⟨rfl, rfl⟩
      clear CT
      go_wp2_with fail
      go_roundw
      all_goals first
        | (simp only [intOf]; omega)
        | (simp [intOf]; omega)
        | exact ⟨j + 1, by omega, by rw [lsum_succ, ← ES.out]; go_num, by go_num, trivial⟩
    · obtain rfl : j = n := by omega
      go_wp2_with fail
      go_ret
      exact ⟨rfl, rfl⟩
set_option maxHeartbeats 1000000 in
theorem markCache (E F G : Nat) (a b : Option Addr) (n m cap dap : Nat) (M N : Nat → LV) (k : Int) (w : World) (h : RowsO E F w a n M) (h' : RowsO F G w b m N) (hE : E ≤ F) (hF : F ≤ G) (hG : G ≤ w.heap.size) (hl : LLen n M 1048576) (hl' : LLen m N 1048576) (hs : (lsum M n : Int) ≤ 16781312) (hs' : (lsum N m : Int) ≤ 16781312) (hn : (n : Int) ≤ 1048576) (hm : (m : Int) ≤ 1048576) (k0 : 0 ≤ k) (k1 : k ≤ 1048576) :
    Calls Try.prog 11 #[.agg #[.slice a n cap, .slice b m dap], .int .i64 k] w fun e w' => e = .returned (.int .i64 (k + lsum M n + lsum N m)) ∧ RowsO E F w' a n (mkd M k n) ∧ RowsO F G w' b m (mkd N (k + lsum M n) m) ∧ Kept (fun b => E ≤ b ∧ b < G) w w' := by
  have B0 := hide (show Below w.heap.size w (w.alloc (.cells #[.slice a n cap, .slice b m dap] 27)) from (Below.refl _ _).alloc (Nat.le_refl _) _)
  have H := hide (h.below B0.out)
  have H' := hide (h'.below B0.out)
  have HL := hide hl
  have HL' := hide hl'
  clear h h' hl hl'
  obtain ⟨s, es⟩ : ∃ s : Int, s = lsum M n := ⟨_, rfl⟩
  obtain ⟨t, et⟩ : ∃ t : Int, t = lsum N m := ⟨_, rfl⟩
  have C1 := hide (fun W (q : RowsO E F W a n M) => markIntSS E F a n cap M k W q HL.out (by omega) hn k0 (by omega))
  have C2 := hide (fun W (q : RowsO F G W b m N) => markIntSS F G b m dap N (k + s) W q HL'.out (by omega) hm (by omega) (by omega))
  have S0 : 0 ≤ s := by omega
  have T0 : 0 ≤ t := by omega
  have S1 : s ≤ 16781312 := by omega
  have T1 : t ≤ 16781312 := by omega
  rw [← es] at C1 ⊢
  rw [← et] at C2 ⊢
  clear hs hs' es et
  go_enter Try.func11, Try.ntmps11
  go_wp2_with fail
  refine (C1.out _ H.out).mono ?_
  rintro e w1 ⟨rfl, q1, t1⟩
  have c10 : ∀ i, w1.cell? ⟨w.heap.size, i, none⟩ = (w.alloc (.cells #[.slice a n cap, .slice b m dap] 27)).cell? ⟨w.heap.size, i, none⟩ := fun i =>
    World.cell?_of_block (w := w.alloc _) (a := ⟨w.heap.size, i, none⟩) (t1.block w.heap.size (by simp) (fun q => by have := q.2; omega))
  have Z1 := hide t1
  have Q1 := hide q1
  have Q2 := hide (H'.out.kept t1 (fun b q1 q2 q => by have := q.2; omega))
  clear t1 q1
  go_wp2_with fail
  refine (C2.out _ Q2.out).mono ?_
  rintro e w2 ⟨rfl, q2, t2⟩
  have Z2 := hide t2
  have Q3 := hide q2
  have Q4 := hide (Q1.out.kept t2 (fun b q1 q2 q => by have := q.1; omega))
  clear t2 q2
  go_wp2_with fail
  go_ret
  exact ⟨rfl, Q4.out, Q3.out, ((Kept.of_below B0.out).trans (Z1.out.mono (fun k _ q => ⟨q.1, by have := q.2; omega⟩))).trans (Z2.out.mono (fun k _ q => ⟨by have := q.1; omega, q.2⟩))⟩
set_option maxHeartbeats 1000000 in
theorem heldCache (B : Nat) (a b : Option Addr) (n m cap dap : Nat) (M N : Nat → LV) (k : Int) (w : World) (hB : B ≤ w.heap.size) (h : LL B w a n (mkd M k n)) (h' : LL B w b m (mkd N (k + lsum M n) m)) (hl : LLen n M 1048576) (hl' : LLen m N 1048576) (hs : (lsum M n : Int) ≤ 16781312) (hs' : (lsum N m : Int) ≤ 16781312) (hn : (n : Int) ≤ 1048576) (hm : (m : Int) ≤ 1048576) (k0 : 0 ≤ k) (k1 : k ≤ 1048576) :
    Calls Try.prog 13 #[.agg #[.slice a n cap, .slice b m dap], .int .i64 k] w fun e w' => e = .returned (.int .i64 (k + lsum M n + lsum N m)) ∧ Below w.heap.size w w' := by
  have B0 := hide (show Below w.heap.size w (w.alloc (.cells #[.slice a n cap, .slice b m dap] 27)) from (Below.refl _ _).alloc (Nat.le_refl _) _)
  have C1 := hide (heldIntSS B a n cap M k _ (h.below (B0.out.mono hB)) hl (by omega) hn k0 (by omega))
  have C2 := hide (heldIntSS B b m dap N (k + lsum M n) _ (h'.below (B0.out.mono hB)) hl' (by omega) hm (by omega) (by omega))
  clear h h' hl hl'
  obtain ⟨s, es⟩ : ∃ s : Int, s = lsum M n := ⟨_, rfl⟩
  obtain ⟨t, et⟩ : ∃ t : Int, t = lsum N m := ⟨_, rfl⟩
  have S0 : 0 ≤ s := by omega
  have T0 : 0 ≤ t := by omega
  have S1 : s ≤ 16781312 := by omega
  have T1 : t ≤ 16781312 := by omega
  rw [← es] at C1 C2
  rw [← et] at C2
  rw [← es, ← et]
  clear hs hs' es et
  have p1 : decide (k + s < 0) = false := by rw [decide_eq_false_iff_not]; omega
  have p2 : decide (k + s + t < 0) = false := by rw [decide_eq_false_iff_not]; omega
  go_enter Try.func13, Try.ntmps13
  go_wp2_with fail
  refine C1.out.mono ?_
  rintro e w1 ⟨rfl, rfl⟩
  go_wp2_with fail
  refine C2.out.mono ?_
  rintro e w1 ⟨rfl, rfl⟩
  go_wp2_with fail
  go_ret
  exact ⟨rfl, B0.out⟩
end Vo
end Go.Proofs.Ytjlmbeachanlfaa

/- AttendNext: what both sides answer, said of the arguments as they came. -/
namespace Go.Proofs.Ytjlmbeachanlfaa
namespace Vo
open Go.ChangeShapes Go.WideShapes Go.ChangeAt Go.RowKit Go.Joins Go.Sort
open Vl Vp Vr
set_option linter.unusedVariables false
set_option linter.unusedSimpArgs false
/-- rows that say the same everywhere -/
def LAll (L L' : Nat → LV) : Prop := ∀ i, (L' i).r = (L i).r ∧ (L' i).D = (L i).D
def VS (q q' : LV) : Prop := q'.r = q.r ∧ q'.D = q.D
theorem LAll.same {L L' : Nat → LV} (h : LAll L L') (n : Nat) : LSame n L L' := fun i _ => h i
theorem LAll.app {L L' : Nat → LV} {k k' : LV} (h : LAll L L') (hk : VS k k') (n : Nat) : LAll (appR L n k) (appR L' n k') := by
  intro i
  unfold appR
  split
  · exact hk
  · exact h i
theorem LAll.last {L L' : Nat → LV} (h : LAll L L') (st : Nat) : LAll (lastR L st) (lastR L' st) := fun i => h (st + i)
theorem rowsS_all {L L' : Nat → LV} (h : LAll L L') (r : Nat) : rowsS r L' = rowsS r L := by
  funext j
  unfold rowsS
  rw [(h _).2]
theorem rowsT_all {L L' : Nat → LV} (h : LAll L L') (n r : Nat) : rowsT n r L' = rowsT n r L := by
  unfold rowsT
  rw [rowsS_all h]
theorem qT_all {q q' : LV} (h : VS q q') : qT q' = qT q := by
  unfold qT
  rw [h.1, h.2]
theorem nxP_all {L L' M M' : Nat → LV} {q q' k k' v v' : LV} (n m : Nat) (win : Int) (hL : LAll L L') (hM : LAll M M') (hq : VS q q') (hk : VS k k') (hv : VS v v') : nxP n m L' M' q' k' v' win = nxP n m L M q k v win := by
  unfold nxP
  rw [qT_all hq, hk.1, hv.1, rowsT_all ((hL.app hk n).last _), rowsT_all ((hM.app hv m).last _)]
theorem nxOk_all {L L' M M' : Nat → LV} {q q' k k' v v' : LV} (n m : Nat) (win : Int) (hL : LAll L L') (hM : LAll M M') (hq : VS q q') (hk : VS k k') (hv : VS v v') : NxOk n m L' M' q' k' v' win ↔ NxOk n m L M q k v win := by
  unfold NxOk NxA
  rw [nxP_all n m win hL hM hq hk hv, cacheB_same (hL.same n) (hM.same m), decide_eq_decide.1 (rowsA_same ((hL.app hk n).same (n + 1))), decide_eq_decide.1 (rowsA_same ((hM.app hv m).same (m + 1)))]
/-- rows of n others, behind them those that were -/
def nrm (n : Nat) (L L' : Nat → LV) : Nat → LV := fun i => if i < n then L' i else L i
theorem nrm_in {n i : Nat} {L L' : Nat → LV} (h : i < n) : nrm n L L' i = L' i := if_pos h
theorem nrm_all {n : Nat} {L L' : Nat → LV} (h : LSame n L L') : LAll L (nrm n L L') := by
  intro i
  unfold nrm
  split
  · rename_i c
    exact h i c
  · exact ⟨rfl, rfl⟩
theorem OLL.nrm {w : World} {g n : Nat} {L L' : Nat → LV} (h : OLL w g n n L') : OLL w g n n (nrm n L L') :=
  ⟨h.lt, fun i hi => by rw [nrm_in hi]; exact h.laid i hi, fun i a b => by omega, h.free, fun i hi => by rw [nrm_in hi]; exact h.own i hi, fun i j hij hj b b' => by rw [nrm_in (show i < n by omega), nrm_in hj]; exact h.ord i j hij hj b b'⟩
/-- a cache of one's own, from E up to below G -/
def CO (E G : Nat) (w : World) (a b : Option Addr) (n m : Nat) (M N : Nat → LV) : Prop := G ≤ w.heap.size ∧ ∃ F, E ≤ F ∧ F ≤ G ∧ RowsO E F w a n M ∧ RowsO F G w b m N
def CBlk (E G : Nat) : Nat → Prop := fun k => E ≤ k ∧ k < G
theorem CO.below {E G : Nat} {w w' : World} {a b : Option Addr} {n m : Nat} {M N : Nat → LV} (h : CO E G w a b n m M N) (hb : Below w.heap.size w w') : CO E G w' a b n m M N := by
  obtain ⟨h1, F, h2, h3, h4, h5⟩ := h
  exact ⟨Nat.le_trans h1 hb.size, F, h2, h3, h4.below hb, h5.below hb⟩
theorem CO.kept {S : Nat → Prop} {E G : Nat} {w w' : World} {a b : Option Addr} {n m : Nat} {M N : Nat → LV} (h : CO E G w a b n m M N) (hk : Kept S w w') (hs : ∀ k, CBlk E G k → ¬ S k) : CO E G w' a b n m M N := by
  obtain ⟨h1, F, h2, h3, h4, h5⟩ := h
  exact ⟨Nat.le_trans h1 hk.size, F, h2, h3, h4.kept hk (fun b q q' => hs b ⟨q, by omega⟩), h5.kept hk (fun b q q' => hs b ⟨by omega, q'⟩)⟩
theorem CO.blk {E G : Nat} {w : World} {a b : Option Addr} {n m : Nat} {M N : Nat → LV} (h : CO E G w a b n m M N) {k : Nat} (q : CBlk E G k) : E ≤ k ∧ k < G ∧ k < w.heap.size := by
  have := h.1
  exact ⟨q.1, q.2, by have := q.2; omega⟩
theorem CO.read {E G : Nat} {w : World} {a b : Option Addr} {n m : Nat} {M N : Nat → LV} (h : CO E G w a b n m M N) : LL w.heap.size w a n M ∧ LL w.heap.size w b m N := by
  obtain ⟨h1, F, h2, h3, h4, h5⟩ := h
  exact ⟨h4.read, h5.read⟩
/-- what is read alone, below B -/
def SO (B : Nat) (w : World) (a b d : Option Addr) (n m s : Nat) (M N : Nat → LV) (S : Nat → Int) : Prop := B ≤ w.heap.size ∧ LL B w a n M ∧ LL B w b m N ∧ Ints B w d s S
def SBlk (B : Nat) : Nat → Prop := fun k => k < B
theorem LL.keptS {T : Nat → Prop} {B : Nat} {w w' : World} {a : Option Addr} {n : Nat} {L : Nat → LV} (h : LL B w a n L) (hk : Kept T w w') (hB : B ≤ w.heap.size) (hs : ∀ k, k < B → ¬ T k) : LL B w' a n L := by
  rcases h with h | ⟨blk, off, rfl, hb, hc⟩
  · exact .inl h
  · exact .inr ⟨blk, off, rfl, hb, fun i hi => ⟨(World.cell?_of_block (w := w) (a := ⟨blk, off + i, none⟩) (hk.block blk (by omega) (hs blk hb))).trans (hc i hi).1, (hc i hi).2.kept hB hk hs⟩⟩
theorem SO.below {B : Nat} {w w' : World} {a b d : Option Addr} {n m s : Nat} {M N : Nat → LV} {S : Nat → Int} (h : SO B w a b d n m s M N S) (hb : Below w.heap.size w w') : SO B w' a b d n m s M N S :=
  ⟨Nat.le_trans h.1 hb.size, h.2.1.below (hb.mono h.1), h.2.2.1.below (hb.mono h.1), h.2.2.2.below (hb.mono h.1)⟩
theorem SO.kept {T : Nat → Prop} {B : Nat} {w w' : World} {a b d : Option Addr} {n m s : Nat} {M N : Nat → LV} {S : Nat → Int} (h : SO B w a b d n m s M N S) (hk : Kept T w w') (hs : ∀ k, SBlk B k → ¬ T k) : SO B w' a b d n m s M N S :=
  ⟨Nat.le_trans h.1 hk.size, h.2.1.keptS hk h.1 hs, h.2.2.1.keptS hk h.1 hs, h.2.2.2.kept h.1 hk hs⟩
theorem SO.blk {B : Nat} {w : World} {a b d : Option Addr} {n m s : Nat} {M N : Nat → LV} {S : Nat → Int} (h : SO B w a b d n m s M N S) {k : Nat} (q : SBlk B k) : k < B := q
/-- what is answered, plain -/
structure PA where
  n : Nat
  m : Nat
  s : Nat
  K1 : Nat → LV
  K2 : Nat → LV
  S : Nat → Int
  t : Bool
def PA.zero : PA := ⟨0, 0, 0, fun _ => ⟨none, 0, 0, fun _ => 0⟩, fun _ => ⟨none, 0, 0, fun _ => 0⟩, fun _ => 0, false⟩
def PA.yes (n m : Nat) (L M : Nat → LV) (q k v : LV) (win : Int) : PA := ⟨nk n win, nk m win, (nxP n m L M q k v win).s, lastR (appR L n k) (stN (n + 1) win), lastR (appR M m v) (stN (m + 1) win), (nxP n m L M q k v win).S, true⟩
def AI (P : PA) (w : World) (e : Ending) (w' : World) : Prop :=
  ∃ a b c1 c2 da dc M1 M2 E, e = .returned (.tuple #[.agg #[.slice a P.n c1, .slice b P.m c2], .slice da P.s dc, .bool P.t]) ∧ w.heap.size ≤ E ∧ CO E w'.heap.size w' a b P.n P.m M1 M2 ∧ OwnL w.heap.size w' da P.s P.S ∧ (∀ x, Blk da P.s x → x < E) ∧ LSame P.n P.K1 M1 ∧ LSame P.m P.K2 M2 ∧ Below w.heap.size w w'
def AS (P : PA) (w : World) (e : Ending) (w' : World) : Prop :=
  ∃ a b c1 c2 da dc M1 M2, e = .returned (.tuple #[.agg #[.slice a P.n c1, .slice b P.m c2], .slice da P.s dc, .bool P.t]) ∧ SO w'.heap.size w' a b da P.n P.m P.s M1 M2 P.S ∧ LSame P.n P.K1 M1 ∧ LSame P.m P.K2 M2 ∧ Below w.heap.size w w'
def PA.small (P : PA) : Prop := P.n ≤ 4097 ∧ P.m ≤ 4097 ∧ (∀ i, i < P.n → (P.K1 i).r ≤ 4096) ∧ (∀ i, i < P.m → (P.K2 i).r ≤ 4096) ∧ P.s ≤ 4096
theorem rowB_le {r : Nat} {D : Nat → Int} (h : rowB r D = true) : r ≤ 4096 := by
  unfold rowB at h
  simp only [Bool.and_eq_true, decide_eq_true_eq] at h
  exact h.1.2
theorem yes_small {n m : Nat} {L M : Nat → LV} {q k v : LV} {win : Int} (h : NxOk n m L M q k v win) : (PA.yes n m L M q k v win).small := by
  obtain ⟨⟨hc, hw, h1, h2⟩, _⟩ := h
  unfold cacheB at hc
  simp only [Bool.and_eq_true, decide_eq_true_eq] at hc
  obtain ⟨⟨⟨e, l⟩, _⟩, _⟩ := hc
  refine ⟨?_, ?_, fun i hi => ?_, fun i hi => ?_, ?_⟩
  · show nk n win ≤ 4097
    unfold nk; omega
  · show nk m win ≤ 4097
    unfold nk; omega
  · have hi : i < nk n win := hi
    unfold nk at hi
    exact rowB_le (h1 (stN (n + 1) win + i) (by omega)).2
  · have hi : i < nk m win := hi
    unfold nk at hi
    exact rowB_le (h2 (stN (m + 1) win + i) (by omega)).2
  · show (nxP n m L M q k v win).s ≤ 4096
    have := (attP_le (pt (qT q)) (pt (rowsT (nk n win) k.r (lastR (appR L n k) (stN (n + 1) win)))) (pt (rowsT (nk m win) v.r (lastR (appR M m v) (stN (m + 1) win)))) 0).2
    unfold nxP
    omega
theorem LSame.all {n : Nat} {K K' M : Nat → LV} (h : LSame n K' M) (ha : LAll K K') : LSame n K M := fun i hi => ⟨(h i hi).1.trans (ha i).1, (h i hi).2.trans (ha i).2⟩
theorem rowsO_of {E F g n : Nat} {w : World} {M : Nat → LV} (h : OLL w g n n M) (h1 : E ≤ g) (h2 : g < F) (hr : ∀ i, i < n → ∀ b, Blk (M i).a (M i).r b → b < F) : RowsO E F w (some ⟨g, 0, none⟩) n M := .inr ⟨g, rfl, h1, h2, h, hr⟩
theorem co_of {E g1 g2 n m : Nat} {w : World} {M N : Nat → LV} (h1 : E ≤ g1) (h2 : g1 < g2) (o1 : OLL w g1 n n M) (o2 : OLL w g2 m m N) (hr : ∀ i, i < n → ∀ b, Blk (M i).a (M i).r b → b < g2) : CO E w.heap.size w (some ⟨g1, 0, none⟩) (some ⟨g2, 0, none⟩) n m M N :=
  ⟨Nat.le_refl _, g2, by omega, Nat.le_of_lt o2.lt, rowsO_of o1 h1 h2 hr, rowsO_of o2 (Nat.le_refl _) o2.lt (fun i hi b hb => ((o2.own i hi).blk hb).2)⟩
theorem co_none (E : Nat) {w : World} (a b : Option Addr) (hE : E ≤ w.heap.size) (M N : Nat → LV) : CO E w.heap.size w a b 0 0 M N := ⟨Nat.le_refl _, E, Nat.le_refl _, hE, .inl rfl, .inl rfl⟩
theorem ai_of {n m : Nat} {L L' M M' : Nat → LV} {q q' k k' v v' : LV} {win : Int} (hL : LAll L L') (hM : LAll M M') (hq : VS q q') (hk : VS k k') (hv : VS v v') (P : PA) (hy : NxOk n m L M q k v win → P = PA.yes n m L M q k v win) (hn : ¬ NxOk n m L M q k v win → P = PA.zero) {w w' : World} {e : Ending} (h : NxR n m L' M' q' k' v' win w e w') : AI P w e w' := by
  have ok := nxOk_all n m win hL hM hq hk hv
  have pe := nxP_all n m win hL hM hq hk hv
  rcases h with ⟨ho, g1, g2, M1, M2, da, dc, E, rfl, hE, hc, s1, s2, hd, hb, bb⟩ | ⟨ho, p, rfl, bb⟩
  · rw [hy (ok.1 ho)]
    rw [pe] at hd hb
    refine ⟨_, _, _, _, da, dc, M1, M2, E, by rw [pe]; rfl, hE, co_of hc.1 hc.2.1 hc.2.2.1 hc.2.2.2.1 hc.2.2.2.2, hd, hb, s1.all ((hL.app hk n).last _), s2.all ((hM.app hv m).last _), bb⟩
  · rw [hn (fun c => ho (ok.2 c))]
    exact ⟨_, _, _, _, _, _, fun _ => ⟨none, 0, 0, fun _ => 0⟩, fun _ => ⟨none, 0, 0, fun _ => 0⟩, w.heap.size, rfl, Nat.le_refl _, co_none _ _ _ bb.size _ _, .inl rfl, fun x hx => absurd rfl hx.1, fun i hi => by exact absurd hi (Nat.not_lt_zero i), fun i hi => by exact absurd hi (Nat.not_lt_zero i), bb⟩
theorem as_of {n m : Nat} {L L' M M' : Nat → LV} {q q' k k' v v' : LV} {win : Int} (hL : LAll L L') (hM : LAll M M') (hq : VS q q') (hk : VS k k') (hv : VS v v') (P : PA) (hy : NxOk n m L M q k v win → P = PA.yes n m L M q k v win) (hn : ¬ NxOk n m L M q k v win → P = PA.zero) {w w' : World} {e : Ending} (h : SxR n m L' M' q' k' v' win w e w') : AS P w e w' := by
  have ok := nxOk_all n m win hL hM hq hk hv
  have pe := nxP_all n m win hL hM hq hk hv
  rcases h with ⟨ho, a1, c1, a2, c2, M1, M2, da, dc, rfl, l1, l2, s1, s2, hd, bb⟩ | ⟨ho, p, rfl, bb⟩
  · have ho' := sx_nx ho
    rw [hy (ok.1 ho')]
    obtain ⟨es, eS⟩ := nx_sx n m L' M' q' k' v' ho'.1.2.1
    rw [es] at hd
    have hd := hd.same (fun j hj => (eS j hj).symm)
    rw [pe] at hd
    refine ⟨_, _, _, _, da, dc, M1, M2, by rw [es, pe]; rfl, ⟨Nat.le_refl _, l1, l2, hd⟩, s1.all ((hL.app hk n).last _), s2.all ((hM.app hv m).last _), bb⟩
  · rw [hn (fun c => ho (nx_sx_ok (ok.2 c)))]
    exact ⟨_, _, _, _, _, _, fun _ => ⟨none, 0, 0, fun _ => 0⟩, fun _ => ⟨none, 0, 0, fun _ => 0⟩, rfl, ⟨Nat.le_refl _, .inl rfl, .inl rfl, .inl rfl⟩, fun i hi => by exact absurd hi (Nat.not_lt_zero i), fun i hi => by exact absurd hi (Nat.not_lt_zero i), bb⟩
set_option maxHeartbeats 1000000 in
theorem toCacheN (B : Nat) (a b : Option Addr) (n m cap dap : Nat) (L M : Nat → LV) (w : World) (hB : B ≤ w.heap.size) (h : LL B w a n L) (h' : LL B w b m M) (hn : (n : Int) ≤ 1048576) (hm : (m : Int) ≤ 1048576) (hl : LLen n L 1048576) (hl' : LLen m M 1048576) :
    Calls Try.prog 6 #[.agg #[.slice a n cap, .slice b m dap]] w fun e w' => ∃ (g1 g2 : Nat) (L' M' : Nat → LV), e = .returned (.agg #[.slice (some ⟨g1, 0, none⟩) n n, .slice (some ⟨g2, 0, none⟩) m m]) ∧ LAll L L' ∧ LAll M M' ∧ CO w.heap.size w'.heap.size w' (some ⟨g1, 0, none⟩) (some ⟨g2, 0, none⟩) n m L' M' ∧ Below w.heap.size w w' := by
  refine (toCacheO B a b n m cap dap L M w hB h h' hn hm hl hl').mono ?_
  rintro e w' ⟨g1, g2, L', M', rfl, h1, h2, o1, o2, hr, s1, s2, bb⟩
  exact ⟨g1, g2, nrm n L L', nrm m M M', rfl, nrm_all s1, nrm_all s2, co_of h1 h2 o1.nrm o2.nrm (fun i hi b => by rw [nrm_in hi]; exact hr i hi b), bb⟩
theorem LLen.all {n : Nat} {L L' : Nat → LV} {z : Int} (h : LLen n L z) (ha : LAll L L') : LLen n L' z := fun i hi => by rw [(ha i).1]; exact h i hi
theorem lsum_all {L L' : Nat → LV} (h : LAll L L') (n : Nat) : lsum L' n = lsum L n := by
  induction n with
  | zero => rfl
  | succ n ih => show lsum L' n + (L' n).r = lsum L n + (L n).r; rw [ih, (h n).1]
theorem lsum_same {L L' : Nat → LV} {n : Nat} (h : LSame n L L') : lsum L' n = lsum L n := by
  induction n with
  | zero => rfl
  | succ n ih => show lsum L' n + (L' n).r = lsum L n + (L n).r; rw [ih (fun i hi => h i (by omega)), (h n (by omega)).1]
theorem lsum_small {L : Nat → LV} {n : Nat} (h : ∀ i, i < n → (L i).r ≤ 4096) : lsum L n ≤ n * 4096 := by
  induction n with
  | zero => exact Nat.zero_le _
  | succ n ih =>
    have h1 := ih (fun i hi => h i (by omega))
    have h2 := h n (by omega)
    show lsum L n + (L n).r ≤ _
    omega
/-- what both sides answer at these arguments, whatever copies they get -/
theorem nextBoth (n m r1 r2 r3 : Nat) (L M : Nat → LV) (D1 D2 D3 : Nat → Int) (win : Int) (hn : (n : Int) ≤ 1048576) (hm : (m : Int) ≤ 1048576) (hl : LLen n L 1048576) (hl' : LLen m M 1048576) (l1 : (r1 : Int) ≤ 1048576) (l2 : (r2 : Int) ≤ 1048576) (l3 : (r3 : Int) ≤ 1048576) (hw : bd win) :
    ∃ P : PA, P.small ∧
      (∀ (w : World) (E G g1 g2 x1 x2 x3 E1 E2 E3 : Nat) (L' M' : Nat → LV), LAll L L' → LAll M M' → CO E G w (some ⟨g1, 0, none⟩) (some ⟨g2, 0, none⟩) n m L' M' → OwnL E1 w (some ⟨x1, 0, none⟩) r1 D1 → OwnL E2 w (some ⟨x2, 0, none⟩) r2 D2 → OwnL E3 w (some ⟨x3, 0, none⟩) r3 D3 →
        Calls Try.prog 8 #[.agg #[.slice (some ⟨g1, 0, none⟩) n n, .slice (some ⟨g2, 0, none⟩) m m], .slice (some ⟨x1, 0, none⟩) r1 r1, .slice (some ⟨x2, 0, none⟩) r2 r2, .slice (some ⟨x3, 0, none⟩) r3 r3, .int .i64 win] w (AI P w)) ∧
      (∀ (w : World) (E G g1 g2 x1 x2 x3 E1 E2 E3 : Nat) (L' M' : Nat → LV), LAll L L' → LAll M M' → CO E G w (some ⟨g1, 0, none⟩) (some ⟨g2, 0, none⟩) n m L' M' → OwnL E1 w (some ⟨x1, 0, none⟩) r1 D1 → OwnL E2 w (some ⟨x2, 0, none⟩) r2 D2 → OwnL E3 w (some ⟨x3, 0, none⟩) r3 D3 →
        Calls Try.prog 5 #[.agg #[.slice (some ⟨g1, 0, none⟩) n n, .slice (some ⟨g2, 0, none⟩) m m], .slice (some ⟨x1, 0, none⟩) r1 r1, .slice (some ⟨x2, 0, none⟩) r2 r2, .slice (some ⟨x3, 0, none⟩) r3 r3, .int .i64 win] w (AS P w)) := by
  have key : ∃ P : PA, P.small ∧ (NxOk n m L M ⟨none, r1, r1, D1⟩ ⟨none, r2, r2, D2⟩ ⟨none, r3, r3, D3⟩ win → P = PA.yes n m L M ⟨none, r1, r1, D1⟩ ⟨none, r2, r2, D2⟩ ⟨none, r3, r3, D3⟩ win) ∧ (¬ NxOk n m L M ⟨none, r1, r1, D1⟩ ⟨none, r2, r2, D2⟩ ⟨none, r3, r3, D3⟩ win → P = PA.zero) := by
    by_cases c : NxOk n m L M ⟨none, r1, r1, D1⟩ ⟨none, r2, r2, D2⟩ ⟨none, r3, r3, D3⟩ win
    · exact ⟨_, yes_small c, fun _ => rfl, fun d => absurd c d⟩
    · exact ⟨PA.zero, ⟨by decide, by decide, fun i hi => absurd hi (Nat.not_lt_zero i), fun i hi => absurd hi (Nat.not_lt_zero i), by decide⟩, fun d => absurd d c, fun _ => rfl⟩
  obtain ⟨P, hs, hy, hno⟩ := key
  refine ⟨P, hs, ?_, ?_⟩
  · intro w E G g1 g2 x1 x2 x3 E1 E2 E3 L' M' hL hM hc h1 h2 h3
    refine (nextF w.heap.size ⟨g1, 0, none⟩ ⟨g2, 0, none⟩ n m n m L' M' ⟨some ⟨x1, 0, none⟩, r1, r1, D1⟩ ⟨some ⟨x2, 0, none⟩, r2, r2, D2⟩ ⟨some ⟨x3, 0, none⟩, r3, r3, D3⟩ win w (Nat.le_refl _) hc.read.1 hc.read.2 h1.ints h2.ints h3.ints hn hm (hl.all hL) (hl'.all hM) l1 l2 l3 hw).mono ?_
    intro e w' h
    refine ai_of hL hM ?_ ?_ ?_ P hy hno h <;> exact ⟨rfl, rfl⟩
  · intro w E G g1 g2 x1 x2 x3 E1 E2 E3 L' M' hL hM hc h1 h2 h3
    refine (specNext w.heap.size ⟨g1, 0, none⟩ ⟨g2, 0, none⟩ n m n m L' M' ⟨some ⟨x1, 0, none⟩, r1, r1, D1⟩ ⟨some ⟨x2, 0, none⟩, r2, r2, D2⟩ ⟨some ⟨x3, 0, none⟩, r3, r3, D3⟩ win w (Nat.le_refl _) hc.read.1 hc.read.2 h1.ints h2.ints h3.ints hn hm (hl.all hL) (hl'.all hM) l1 l2 l3 (Nat.le_refl _) hw).mono ?_
    intro e w' h
    refine as_of hL hM ?_ ?_ ?_ P hy hno h <;> exact ⟨rfl, rfl⟩
theorem markCO {E G : Nat} {w : World} {a b : Option Addr} {n m : Nat} {M N : Nat → LV} (h : CO E G w a b n m M N) (cap dap : Nat) (k z : Int) (hz : z = k + lsum M n + lsum N m) (hl : LLen n M 1048576) (hl' : LLen m N 1048576) (hs : (lsum M n : Int) ≤ 16781312) (hs' : (lsum N m : Int) ≤ 16781312) (hn : (n : Int) ≤ 1048576) (hm : (m : Int) ≤ 1048576) (k0 : 0 ≤ k) (k1 : k ≤ 1048576) :
    Calls Try.prog 11 #[.agg #[.slice a n cap, .slice b m dap], .int .i64 k] w fun e w' => e = .returned (.int .i64 z) ∧ CO E G w' a b n m (mkd M k n) (mkd N (k + lsum M n) m) ∧ Kept (CBlk E G) w w' := by
  obtain ⟨h1, F, h2, h3, h4, h5⟩ := h
  refine (markCache E F G a b n m cap dap M N k w h4 h5 h2 h3 h1 hl hl' hs hs' hn hm k0 k1).mono ?_
  rintro e w' ⟨rfl, q1, q2, q3⟩
  exact ⟨by rw [hz], ⟨Nat.le_trans h1 q3.size, F, h2, h3, q1, q2⟩, q3⟩
theorem heldCO {E G : Nat} {w : World} {a b : Option Addr} {n m : Nat} {M N : Nat → LV} {k : Int} (h : CO E G w a b n m (mkd M k n) (mkd N (k + lsum M n) m)) (cap dap : Nat) (z : Int) (hz : z = k + lsum M n + lsum N m) (hl : LLen n M 1048576) (hl' : LLen m N 1048576) (hs : (lsum M n : Int) ≤ 16781312) (hs' : (lsum N m : Int) ≤ 16781312) (hn : (n : Int) ≤ 1048576) (hm : (m : Int) ≤ 1048576) (k0 : 0 ≤ k) (k1 : k ≤ 1048576) :
    Calls Try.prog 13 #[.agg #[.slice a n cap, .slice b m dap], .int .i64 k] w fun e w' => e = .returned (.int .i64 z) ∧ Below w.heap.size w w' := by
  refine (heldCache w.heap.size a b n m cap dap M N k w (Nat.le_refl _) h.read.1 h.read.2 hl hl' hs hs' hn hm k0 k1).mono ?_
  rintro e w' ⟨rfl, q⟩
  exact ⟨by rw [hz], q⟩
theorem PA.small.one {P : PA} (h : P.small) {M1 : Nat → LV} (s1 : LSame P.n P.K1 M1) : LLen P.n M1 1048576 ∧ (lsum M1 P.n : Int) ≤ 16781312 := by
  have hr : ∀ i, i < P.n → (M1 i).r ≤ 4096 := fun i hi => by rw [(s1 i hi).1]; exact h.2.2.1 i hi
  refine ⟨fun i hi => by have := hr i hi; omega, ?_⟩
  have h1 := lsum_small hr
  have h2 := h.1
  have : P.n * 4096 ≤ 4097 * 4096 := Nat.mul_le_mul_right _ h2
  omega
theorem PA.small.two {P : PA} (h : P.small) {M1 : Nat → LV} (s1 : LSame P.m P.K2 M1) : LLen P.m M1 1048576 ∧ (lsum M1 P.m : Int) ≤ 16781312 := by
  have hr : ∀ i, i < P.m → (M1 i).r ≤ 4096 := fun i hi => by rw [(s1 i hi).1]; exact h.2.2.2.1 i hi
  refine ⟨fun i hi => by have := hr i hi; omega, ?_⟩
  have h1 := lsum_small hr
  have h2 := h.2.1
  have : P.m * 4096 ≤ 4097 * 4096 := Nat.mul_le_mul_right _ h2
  omega
end Vo
end Go.Proofs.Ytjlmbeachanlfaa
