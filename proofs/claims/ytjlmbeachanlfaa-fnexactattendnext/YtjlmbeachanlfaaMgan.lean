/- Lemmas for the proof of the law. -/
import Derived.Test.YtjlmbeachanlfaaMgaf
import Derived.Test.YtjlmbeachanlfaaMgam
/- Rows of a cache: the last ones, as a tensor. -/
namespace Go.Proofs.Ytjlmbeachanlfaa
namespace Vo
open Go.ChangeShapes Go.WideShapes Go.ChangeAt Go.RowKit Go.Joins Go.Sort
open Vl Vp
set_option linter.unusedVariables false
set_option linter.unusedSimpArgs false
/-- where the last rows begin -/
def stN (n : Nat) (win : Int) : Nat := if win = 0 then 0 else n - win.toNat
theorem LL.from {B : Nat} {w : World} {blk off n : Nat} {L : Nat → LV} (h : LL B w (some ⟨blk, off, none⟩) n L) (st : Nat) (hs : st < n) : LL B w (some ⟨blk, off + st, none⟩) (n - st) (fun i => L (st + i)) := by
  rcases h with h | ⟨b, o, e, hb, hc⟩
  · omega
  · cases e
    exact .inr ⟨blk, off + st, rfl, hb, fun i hi => by have := hc (st + i) (by omega); rwa [show off + st + i = off + (st + i) by omega]⟩
set_option maxRecDepth 100000 in
theorem lastRowsF (g off n c : Nat) (win : Int) (w : World) (hn : 1 ≤ n) (hc : n ≤ c) (ln : (c : Int) ≤ 9223372036854775807) (h0 : 0 ≤ win) (h1 : win ≤ 4096) :
    Calls Try.prog 26 #[.slice (some ⟨g, off, none⟩) n c, .int .i64 win] w fun e w' => e = .returned (.slice (some ⟨g, off + stN n win, none⟩) (n - stN n win) (c - stN n win)) ∧ w' = w := by
  by_cases hz : win = 0
  · have z0 : (win == 0) = true := beq_iff_eq.2 hz
    have E := hide (show stN n win = 0 by unfold stN; rw [if_pos hz])
    clear hz
    go_enter Try.func26, Try.ntmps26
    go_wp2_with fail
    go_ret
    exact ⟨by rw [E.out]; rfl, rfl⟩
  · have z0 : (win == 0) = false := beq_eq_false_iff_ne.2 hz
    obtain ⟨k, rfl⟩ := Int.eq_ofNat_of_zero_le h0
    have E := hide (show stN n (k : Int) = n - k by unfold stN; rw [if_neg hz, Int.toNat_natCast])
    by_cases hk : k ≤ n
    · have m1 : decide ((n : Int) - (k : Int) < 0) = false := decide_eq_false (by omega)
      have m2 : (0 : Int) ≤ (n : Int) - (k : Int) := by omega
      have m3 : (n : Int) - (k : Int) ≤ (n : Int) := by omega
      go_enter Try.func26, Try.ntmps26
      go_wp2_with fail
      go_ret
      exact ⟨by rw [E.out]; rfl, rfl⟩
    · have m1 : (n : Int) - (k : Int) < 0 := by omega
      have e0 : n - k = 0 := by omega
      rw [e0] at E
      clear e0
      go_enter Try.func26, Try.ntmps26
      go_wp2_with fail
      go_ret
      exact ⟨by rw [E.out]; rfl, rfl⟩
def two (a b : Nat) : Nat → Int := fun j => if j = 0 then (a : Int) else (b : Int)
/-- rows as a tensor -/
def rowsS (r : Nat) (L : Nat → LV) : Nat → Int := fun j => (L (j / r)).D (j % r)
def rowsT (n r : Nat) (L : Nat → LV) : PT := if dok 2 (two n r) = true then ⟨2, n * r, two n r, rowsS r L⟩ else PT.zero
theorem ints_join {a b : Nat} {F G H : Nat → Int} (h1 : ∀ j, j < a → H j = F j) (h2 : ∀ j, j < b → H (a + j) = G j) : ints a F ++ ints b G = ints (a + b) H := by
  unfold ints
  rw [List.range_add, List.map_append]
  congr 1
  · apply List.map_congr_left
    intro j hj
    rw [h1 j (List.mem_range.1 hj)]
  · rw [List.map_map]
    apply List.map_congr_left
    intro j hj
    show _ = Value.int .i64 (H (a + j))
    rw [h2 j (List.mem_range.1 hj)]
theorem cats_rows {r : Nat} {L : Nat → LV} (hr : 1 ≤ r) : ∀ n, (∀ i, i < n → (L i).r = r) → cats L n = ints (n * r) (rowsS r L) ∧ lsum L n = n * r := by
  intro n
  induction n with
  | zero => intro _; exact ⟨by simp [cats, ints], by simp [lsum]⟩
  | succ n ih =>
    intro h
    obtain ⟨i1, i2⟩ := ih (fun i hi => h i (by omega))
    have e : (L n).r = r := h n (by omega)
    refine ⟨?_, by show lsum L n + (L n).r = _; rw [i2, e, Nat.succ_mul]⟩
    show cats L n ++ ints (L n).r (L n).D = _
    rw [i1, e, Nat.succ_mul]
    refine ints_join (fun j _ => rfl) (fun j hj => ?_)
    unfold rowsS
    have d1 : (n * r + j) / r = n := by rw [Nat.add_comm, Nat.add_mul_div_right _ _ (by omega), Nat.div_eq_of_lt hj]; omega
    have d2 : (n * r + j) % r = j := by rw [Nat.add_comm, Nat.add_mul_mod_self_right, Nat.mod_eq_of_lt hj]
    rw [d1, d2]
theorem own_room {w : World} {B n : Nat} {t : TypeId} {v : Value} {xs : List Value} (h : w.ownsRow B t 1 v n xs) : ∃ a c, v = .slice a n c ∧ n ≤ c := by
  obtain ⟨_, ⟨rfl, rfl⟩ | ⟨g, cap, cur, rfl, _, _, q, _⟩⟩ := h
  · exact ⟨none, 0, rfl, Nat.le_refl _⟩
  · exact ⟨_, _, rfl, q⟩
/-- a tensor that is answered, with room -/
def TensD (B : Nat) (v : PT) (w : World) (e : Ending) (w' : World) : Prop :=
  ∃ a b c d, e = .returned (.agg #[.slice a v.r c, .slice b v.s d]) ∧ VOwn B w' a b v.r v.s v.D v.S ∧ v.r ≤ c ∧ v.s ≤ d ∧ Below w.heap.size w w'
set_option maxRecDepth 100000 in
set_option maxHeartbeats 1000000 in
theorem tensorOfRowsF (B : Nat) (ad : Addr) (n c r : Nat) (L : Nat → LV) (w : World) (hB : B ≤ w.heap.size) (h : LL B w (some ad) n L) (hn : 1 ≤ n) (ln : (n : Int) ≤ 1048576) (hr2 : (r : Int) ≤ 1048576) (hr : ∀ i, i < n → (L i).r = r) :
    Calls Try.prog 28 #[.slice (some ad) n c] w fun e w' => TensD w.heap.size (rowsT n r L) w e w' := by
  obtain ⟨W0, hW0⟩ : ∃ W0, (w.alloc (.cells #[.slice none 0 0, .slice none 0 0] 43)).alloc (.cells #[.int .i64 (n : Int), .int .i64 (r : Int)] 3) = W0 := ⟨_, rfl⟩
  have bl : Below w.heap.size w W0 := by rw [← hW0]; exact ((Below.refl _ _).alloc (Nat.le_refl _) _).alloc (by simp) _
  have z0 : w.heap.size + 2 ≤ W0.heap.size := by rw [← hW0]; simp
  have M0 := hide (show Bx W0 w.heap.size (.slice none 0 0) (.slice none 0 0) by rw [← hW0]; exact (bx_new w _ _ _).below ((Below.refl _ _).alloc (Nat.le_refl _) _) (by simp))
  have G0 := hide (show Free W0 w.heap.size by rw [← hW0]; intro i; simp [go_sem])
  have R0 := hide (show Rw W0 (w.heap.size + 1) 2 (two n r) by
    rw [← hW0]
    intro t ht
    refine ⟨?_, by simp [go_sem], ?_⟩
    · match t, ht with
      | 0, _ => simp [go_sem, two]
      | 1, _ => simp [go_sem, two]
    · unfold two bd; split <;> omega)
  have H1 := hide (h.below (bl.mono hB))
  have B0 := hide bl
  have H0 := hide hW0
  rcases h with q | ⟨blk, off, e, hb, hc⟩
  · omega
  cases e
  have c1 := (hc 0 (by omega)).1
  rw [hr 0 (by omega)] at c1
  have c1' : (w.alloc (.cells #[.slice none 0 0, .slice none 0 0] 43)).cell? ⟨blk, off, none⟩ = some (.slice (L 0).a r (L 0).cap) := (((Below.refl w.heap.size w).alloc (Nat.le_refl _) _).cell (p := ⟨blk, off, none⟩) (by show blk < w.heap.size; omega)).trans (by simpa using c1)
  have HR := hide hr
  have nI : (0 : Int) < (n : Int) := by omega
  have CD := hide (Vs.dimsOk W0.heap.size (some ⟨w.heap.size + 1, 0, none⟩) 2 2 (two n r) W0 (R0.out.ints (by omega)) (by omega))
  clear hW0 bl hc c1 hr
  generalize (L 0).a = la at c1'
  generalize (L 0).cap = lc at c1'
  go_enter Try.func28, Try.ntmps28
  go_wp2_with fail
  rw [H0.out]
  refine CD.out.mono ?_; rintro e w1 ⟨rfl, rfl⟩
  clear CD c1' H0
  obtain ⟨y0, y1⟩ := M0.out
  have gg := G0.out
  unfold Free at gg
  cases hd : dok 2 (two n r) with
  | false =>
    have EZ := hide (show rowsT n r L = PT.zero by unfold rowsT; rw [if_neg (by rw [hd]; decide)])
    clear hd
    go_wp2_with fail
    refine bodyPost_ret (v := .agg #[.slice none 0 0, .slice none 0 0]) (by simp [results, Try.results28, go_sem, y0, y1]) rfl ?_
    rw [EZ.out]
    exact ⟨none, none, 0, 0, rfl, ⟨.inl rfl, .inl rfl, fun k h => absurd rfl h.1⟩, Nat.le_refl _, Nat.le_refl _, (B0.out.setCell (p := ⟨w.heap.size, 0, none⟩) (Nat.le_refl _) _).setCell (p := ⟨w.heap.size, 1, none⟩) (Nat.le_refl _) _⟩
  | true =>
    have EZ := hide (show rowsT n r L = ⟨2, n * r, two n r, rowsS r L⟩ by unfold rowsT; rw [if_pos hd])
    have HP := hide (show (n * r : Nat) ≤ 4096 by
      have q := (dok_iff.1 hd).2
      rcases szR_cases (two n r) 2 with u | ⟨_, u2, _, u4⟩
      · omega
      · have : pr (two n r) 2 = (n : Int) * (r : Int) := by simp [pr, two]
        rw [this] at u2
        have : ((n * r : Nat) : Int) = (n : Int) * (r : Int) := by simp
        omega)
    have hr1 : 1 ≤ r := by
      have q := (dok_iff.1 hd).2
      rcases szR_cases (two n r) 2 with u | ⟨_, u2, _, u4⟩
      · omega
      · have e2 : pr (two n r) 2 = (n : Int) * (r : Int) := by simp [pr, two]
        rw [e2] at u2
        by_cases h0 : r = 0
        · subst h0; simp at u2; omega
        · omega
    obtain ⟨CE, LE⟩ := cats_rows (L := L) hr1 n HR.out
    have CEh := hide CE
    have LEh := hide LE
    have CC := hide (concatI B (some ⟨blk, off, none⟩) n c L w1 (by omega) H1.out ln (fun i hi => by rw [HR.out i hi]; exact hr1) (by rw [LE]; have := HP.out; omega))
    rw [CE, LE] at CC
    clear hd CE LE
    go_wp2_with fail
    refine CC.out.mono ?_; rintro e w2 ⟨v, rfl, o2, b2⟩
    have z2 := b2.size
    have RV := hide (show RowV w1.heap.size w2 v (n * r) (rowsS r L) from ⟨o2, fun j hj => by
      have q1 : j / r < n := Nat.div_lt_of_lt_mul (by rw [Nat.mul_comm]; exact hj)
      have q2 : j % r < r := Nat.mod_lt _ (by omega)
      rcases H1.out with q | ⟨_, _, _, _, hc⟩
      · omega
      · have := (hc (j / r) q1).2.bd (j % r) (by rw [HR.out _ q1]; exact q2)
        exact this⟩)
    obtain ⟨av, cv, rfl, room⟩ := own_room o2
    have M2 := hide (M0.out.below b2 (by omega))
    have G2 := hide (G0.out.below b2 (by omega))
    have R2 := hide (R0.out.below b2 (by omega))
    have B2 := hide (B0.out.trans (b2.mono B0.out.size))
    clear o2 b2 y0 y1 gg CC
    obtain ⟨y0, y1⟩ := M2.out
    have gg := G2.out
    unfold Free at gg
    generalize n * r = nr at *
    go_wp2_with fail
    refine bodyPost_ret (v := .agg #[.slice (some ⟨w.heap.size + 1, 0, none⟩) 2 2, .slice av nr cv]) (by simp [results, Try.results28, go_sem, y0, y1]) rfl ?_
    have ks := (Kept.setCell w2 ⟨w.heap.size, 0, none⟩ (.slice (some ⟨w.heap.size + 1, 0, none⟩) 2 2)).trans (Kept.setCell _ ⟨w.heap.size, 1, none⟩ (.slice av nr cv))
    have RV2 := RV.out.kept ks (fun b hb e => by have := (RV.out.lt hb).1; have e : b = w.heap.size := e; omega)
    obtain ⟨xa, xc, q1, o1⟩ := RV2.own
    cases q1
    rw [EZ.out]
    refine ⟨_, _, 2, cv, rfl, ⟨.inr ⟨w.heap.size + 1, rfl, by omega, R2.out.kept ks (by show ¬ w.heap.size + 1 = w.heap.size; omega)⟩, o1.mono (by omega), fun k q q' => ?_⟩, Nat.le_refl _, room, (B2.out.setCell (p := ⟨w.heap.size, 0, none⟩) (Nat.le_refl _) _).setCell (p := ⟨w.heap.size, 1, none⟩) (Nat.le_refl _) _⟩
    obtain ⟨_, ad1, e1, e2⟩ := q
    cases e1
    have e2 : w.heap.size + 1 = k := e2
    have := (o1.blk q').1
    omega
end Vo
end Go.Proofs.Ytjlmbeachanlfaa

/- A cache copied. -/
namespace Go.Proofs.Ytjlmbeachanlfaa
namespace Vo
open Go.ChangeShapes Go.WideShapes Go.ChangeAt Go.RowKit Go.Joins Go.Sort
open Vl Vp
set_option linter.unusedVariables false
set_option linter.unusedSimpArgs false
theorem oll_put2 {X X1 : World} {g n k r cp : Nat} {a : Option Addr} {D : Nat → Int} {M : Nat → LV} (h : OLL X g n k M) (hk : k < n) (hb : Below X.heap.size X X1) (ro : OwnL X.heap.size X1 a r D) :
    OLL (X1.setCell ⟨g, k, none⟩ (.slice a r cp)) g n (k + 1) (fun i => if i = k then ⟨a, r, cp, D⟩ else M i) := by
  have k2 : Kept (· = g) X1 (X1.setCell ⟨g, k, none⟩ (.slice a r cp)) := Kept.setCell X1 ⟨g, k, none⟩ _
  have h1 := h.below hb
  have lt := h.lt
  have far : ∀ j, j ≠ k → (X1.setCell ⟨g, k, none⟩ (.slice a r cp)).cell? ⟨g, j, none⟩ = X1.cell? ⟨g, j, none⟩ := fun j n0 => World.cell?_setCell_other _ _ _ _ (by intro e; injection e with _ e _; omega)
  refine ⟨Nat.lt_of_lt_of_le h1.lt k2.size, fun i hi => ?_, fun i hi hi2 => by rw [far _ (by omega)]; exact h1.rest i (by omega) hi2, fun i => by rw [World.frozen?_setCell]; exact h1.free i, fun i hi => ?_, fun i j hij hj b b' h2 h3 => ?_⟩
  · by_cases c : i = k
    · subst c
      simp only [if_true]
      exact World.cell?_setCell_same _ _ _ (h1.rest i (Nat.le_refl _) hk)
    · simp only [c, if_false]
      rw [far _ c]
      exact h1.laid i (by omega)
  · by_cases c : i = k
    · subst c
      simp only [if_true]
      exact (ro.kept k2 (fun b hb' e => by have := (ro.blk hb').1; have e : b = g := e; omega)).mono (by omega)
    · simp only [c, if_false]
      refine (h1.own i (by omega)).kept k2 (fun b hb' e => ?_)
      have := ((h1.own i (by omega)).blk hb').1
      have e : b = g := e
      omega
  · rw [if_neg (by omega)] at h2
    by_cases c : j = k
    · rw [if_pos c] at h3
      have := ((h.own i (by omega)).blk h2).2
      have := (ro.blk h3).1
      omega
    · rw [if_neg c] at h3
      exact h.ord i j hij (by omega) b b' h2 h3
set_option maxRecDepth 100000 in
set_option maxHeartbeats 1000000 in
theorem elementwiseL (N : Nat) (F : Nat) (c : Value) (R : Nat → Nat) (D : Nat → Nat → Int) (w : World) (hN : (N : Int) ≤ 1048576) (eF : ∀ args w, (callFunc F args).run Try.prog w = .ok (.enter F args) w)
    (hf : ∀ (k : Nat) (W : World), k < N → Below w.heap.size w W → Calls Try.prog F #[.int .i64 k, c] W fun e W' => ∃ a cp, e = .returned (.slice a (R k) cp) ∧ OwnL W.heap.size W' a (R k) (D k) ∧ Below W.heap.size W W') :
    Calls Try.prog 57 #[.int .i64 N, .func (.func F) #[] #[c]] w fun e w' => ∃ M, e = .returned (.slice (some ⟨w.heap.size, 0, none⟩) N N) ∧ OLL w' w.heap.size N N M ∧ (∀ i, i < N → (M i).r = R i ∧ (M i).D = D i) ∧ Below w.heap.size w w' := by
  have hmk := make_lists N hN
  have HF := hide hf
  clear hf
  go_enter Try.func57, Try.ntmps57
  go_wp2_with fail
  go_loopw [11] (fun i wx => ∃ (k : Nat) (M : Nat → LV), k ≤ N ∧ i = .int .i64 k ∧ OLL wx w.heap.size N k M ∧ (∀ i, i < k → (M i).r = R i ∧ (M i).D = D i) ∧ Below w.heap.size w wx) (fun i _ => N - (intOf i).toNat)
  case atStart => exact ⟨0, fun _ => ⟨none, 0, 0, fun _ => 0⟩, Nat.zero_le _, rfl, oll_new w N _, fun i hi => by omega, (Below.refl _ _).alloc (Nat.le_refl _) _⟩
  case round =>
    obtain ⟨X, rfl⟩ : ∃ X, X = wr := ⟨_, rfl⟩
    obtain ⟨k, M, hk, rfl, ho, hm, hb⟩ := hrel
    have HO := hide ho
    have HM := hide hm
    have HB := hide hb
    clear ho hm hb
    by_cases hlt : k < N
    · have hkI : (k : Int) < N := by omega
      go_wp2_with fail
      refine (HF.out k X hlt HB.out).mono ?_
      rintro e X1 ⟨a, cp, rfl, ro, b1⟩
      have cg := (HO.out.below b1).rest k (Nat.le_refl _) hlt
      have fg := (HO.out.below b1).free k
      have PUT := hide (oll_put2 (cp := cp) HO.out hlt b1 ro)
      have HB1 := hide (HB.out.trans (b1.mono HB.out.size))
      clear ro b1
      go_wp2_with fail
      go_roundw
      case rel =>
        refine ⟨k + 1, _, by omega, by go_num, PUT.out, fun i hi => ?_, HB1.out.setCell (p := ⟨w.heap.size, k, none⟩) (Nat.le_refl _) _⟩
        by_cases e : i = k
        · subst e; simp
        · simp only [e, if_false]; exact HM.out i (by omega)
      case measure => simp [intOf]; omega
    · have e : k = N := by omega
      subst e
      have kI : decide ((k : Int) < (k : Int)) = false := decide_eq_false (by omega)
      go_wp2_with fail
      go_ret
      exact ⟨M, rfl, HO.out, HM.out, HB.out⟩
set_option maxRecDepth 100000 in
theorem copied11 (B P : Nat) (a : Option Addr) (n cap k : Nat) (L : Nat → LV) (w : World) (hB : B ≤ w.heap.size) (h0 : w.cell? ⟨P, 0, none⟩ = some (.slice a n cap)) (h : LL B w a n L) (hk : k < n) (hr1 : 1 ≤ (L k).r) (hr : ((L k).r : Int) ≤ 1048576) (hn : (n : Int) ≤ 1048576) :
    Calls Try.prog 58 #[.int .i64 k, .pointer (some ⟨P, 0, none⟩)] w fun e w' => ∃ v c, e = .returned (.slice v (L k).r c) ∧ OwnL w.heap.size w' v (L k).r (L k).D ∧ Below w.heap.size w w' := by
  have kI : (k : Int) < (n : Int) := by omega
  rcases h with q | ⟨blk, off, rfl, hb, hc⟩
  · omega
  have c1 := (hc k hk).1
  have I := hide (hc k hk).2
  have NN := hide (show (L k).a = none → (L k).r = 0 ∧ (L k).cap = 0 from fun e => by
    rcases I.out with q | ⟨b, o, q, _⟩
    · omega
    · rw [e] at q; cases q)
  have CL := hide (clone B (L k).a (L k).r (L k).cap (L k).D w I.out hB hr NN.out)
  clear hc I NN
  generalize (L k).r = r at *
  generalize (L k).a = la at *
  generalize (L k).cap = lc at *
  generalize (L k).D = D at *
  go_enter Try.func58, Try.ntmps58
  go_wp2_with fail
  refine CL.out.mono ?_; rintro e w1 ⟨v, rfl, rv, b1⟩
  obtain ⟨va, vc, rfl, o⟩ := rv.own
  have O := hide o
  have B1 := hide b1
  clear rv o b1
  go_wp2_with fail
  go_ret
  exact ⟨va, vc, rfl, O.out, B1.out⟩
set_option maxRecDepth 100000 in
theorem copied1 (B : Nat) (a : Option Addr) (n cap : Nat) (L : Nat → LV) (w : World) (hB : B ≤ w.heap.size) (h : LL B w a n L) (hr1 : ∀ i, i < n → 1 ≤ (L i).r) (hr : LLen n L 1048576) (hn : (n : Int) ≤ 1048576) :
    Calls Try.prog 56 #[.slice a n cap] w fun e w' => ∃ g M, e = .returned (.slice (some ⟨g, 0, none⟩) n n) ∧ w.heap.size ≤ g ∧ OLL w' g n n M ∧ LSame n L M ∧ Below w.heap.size w w' := by
  obtain ⟨W0, hW0⟩ : ∃ W0, w.alloc (.cells #[.slice a n cap] 22) = W0 := ⟨_, rfl⟩
  have bl : Below w.heap.size w W0 := by rw [← hW0]; exact (Below.refl _ _).alloc (Nat.le_refl _) _
  have z0 : w.heap.size + 1 ≤ W0.heap.size := by rw [← hW0]; simp
  have P0 := hide (show W0.cell? ⟨w.heap.size, 0, none⟩ = some (.slice a n cap) by rw [← hW0]; simp [go_sem])
  have H1 := hide (h.below (bl.mono hB))
  have B0 := hide bl
  have H0 := hide hW0
  have HR1 := hide hr1
  have HR := hide hr
  clear hW0 bl h hr1 hr
  go_enter Try.func56, Try.ntmps56
  go_wp2_with fail
  rw [H0.out]
  refine (elementwiseL n 58 (.pointer (some ⟨w.heap.size, 0, none⟩)) (fun i => (L i).r) (fun i => (L i).D) W0 hn (enters_of Try.func58 (by kernel_rfl) rfl) (fun k W hk hW => copied11 B w.heap.size a n cap k L W (by have := hW.size; omega) ((hW.cell (p := ⟨w.heap.size, 0, none⟩) (by show w.heap.size < W0.heap.size; omega)).trans P0.out) (H1.out.below (hW.mono (by omega))) hk (HR1.out k hk) (HR.out k hk) hn)).mono ?_
  rintro e w1 ⟨M, rfl, o1, m1, b1⟩
  have O1 := hide o1
  have M1 := hide m1
  have B1 := hide (B0.out.trans (b1.mono B0.out.size))
  clear o1 m1 b1
  go_wp2_with fail
  go_ret
  exact ⟨W0.heap.size, M, rfl, by omega, O1.out, M1.out, B1.out⟩
/-- a cache of one's own, from E on -/
def CacheO (E : Nat) (w' : World) (g1 g2 n m : Nat) (M1 M2 : Nat → LV) : Prop :=
  E ≤ g1 ∧ g1 < g2 ∧ OLL w' g1 n n M1 ∧ OLL w' g2 m m M2 ∧ ∀ i, i < n → ∀ b, Blk (M1 i).a (M1 i).r b → b < g2
theorem CacheO.below {E : Nat} {w w' : World} {g1 g2 n m : Nat} {M1 M2 : Nat → LV} (h : CacheO E w g1 g2 n m M1 M2) (hb : Below w.heap.size w w') : CacheO E w' g1 g2 n m M1 M2 := ⟨h.1, h.2.1, h.2.2.1.below hb, h.2.2.2.1.below hb, h.2.2.2.2⟩
set_option maxRecDepth 100000 in
set_option maxHeartbeats 2000000 in
theorem copiedF (B : Nat) (a b : Option Addr) (n m cap dap : Nat) (L M : Nat → LV) (w : World) (hB : B ≤ w.heap.size) (h : LL B w a n L) (h' : LL B w b m M) (hr1 : ∀ i, i < n → 1 ≤ (L i).r) (hr1' : ∀ i, i < m → 1 ≤ (M i).r) (hr : LLen n L 1048576) (hr' : LLen m M 1048576) (hn : (n : Int) ≤ 1048576) (hm : (m : Int) ≤ 1048576) :
    Calls Try.prog 30 #[.agg #[.slice a n cap, .slice b m dap]] w fun e w' => ∃ g1 g2 M1 M2, e = .returned (.agg #[.slice (some ⟨g1, 0, none⟩) n n, .slice (some ⟨g2, 0, none⟩) m m]) ∧ CacheO w.heap.size w' g1 g2 n m M1 M2 ∧ LSame n L M1 ∧ LSame m M M2 ∧ Below w.heap.size w w' := by
  obtain ⟨W0, hW0⟩ : ∃ W0, (w.alloc (.cells #[.slice a n cap, .slice b m dap] 27)).alloc (.cells #[.slice none 0 0, .slice none 0 0] 27) = W0 := ⟨_, rfl⟩
  have bl : Below w.heap.size w W0 := by rw [← hW0]; exact ((Below.refl _ _).alloc (Nat.le_refl _) _).alloc (by simp) _
  have z0 : w.heap.size + 2 ≤ W0.heap.size := by rw [← hW0]; simp
  have X0 := hide (show Bx W0 w.heap.size (.slice a n cap) (.slice b m dap) by rw [← hW0]; exact (bx_new w _ _ _).below ((Below.refl _ _).alloc (Nat.le_refl _) _) (by simp))
  have M0 := hide (show Bx W0 (w.heap.size + 1) (.slice none 0 0) (.slice none 0 0) by
    rw [← hW0]
    have := bx_new (w.alloc (.cells #[.slice a n cap, .slice b m dap] 27)) (.slice none 0 0) (.slice none 0 0) 27
    simpa using this)
  have G0 := hide (show Free W0 (w.heap.size + 1) by rw [← hW0]; intro i; simp [go_sem])
  have H1 := hide (h.below (bl.mono hB))
  have H2 := hide (h'.below (bl.mono hB))
  have B0 := hide bl
  have H0 := hide hW0
  have C1 := hide (fun W (hW : Below W0.heap.size W0 W) => copied1 B a n cap L W (by have := hW.size; omega) (H1.out.below (hW.mono (by omega))) hr1 hr hn)
  have C2 := hide (fun W (hW : Below W0.heap.size W0 W) => copied1 B b m dap M W (by have := hW.size; omega) (H2.out.below (hW.mono (by omega))) hr1' hr' hm)
  have F0 := hide (fun W (hW : Below W0.heap.size W0 W) => (show Bx W w.heap.size (.slice a n cap) (.slice b m dap) ∧ Bx W (w.heap.size + 1) (.slice none 0 0) (.slice none 0 0) ∧ Free W (w.heap.size + 1) from ⟨X0.out.below hW (by omega), M0.out.below hW (by omega), G0.out.below hW (by omega)⟩))
  have bb0 := hide (show Below W0.heap.size W0 W0.drew from (Below.refl _ _).drew)
  have TW := hide (fun (W W' : World) (h1 : Below W0.heap.size W0 W) (h2 : Below W.heap.size W W') => (show Below W0.heap.size W0 W' from h1.trans (h2.mono h1.size)))
  have SE := hide (show ∀ (W : World) (i j : Nat) (u : Value), (W.setCell ⟨w.heap.size + 1, i, none⟩ u).cell? ⟨w.heap.size, j, none⟩ = W.cell? ⟨w.heap.size, j, none⟩ from fun W i j u => World.cell?_setCell_other _ _ _ _ (by intro e; injection e with e _ _; omega))
  have e1 : ∀ args w, (callFunc 56 args).run Try.prog w = .ok (.enter 56 args) w := enters_of Try.func56 (by kernel_rfl) rfl
  clear bl h h' hr1 hr1' hr hr'
  obtain ⟨x0, x1⟩ := X0.out
  obtain ⟨y0, y1⟩ := M0.out
  have gg := G0.out
  unfold Free at gg
  rw [← hW0] at x0 x1 y0 y1 gg
  clear hW0
  go_enter Try.func30, Try.ntmps30
  go_wp2_with fail
  rw [H0.out] at x0 x1 y0 y1 gg ⊢
  go_region_held3 (fun w' => w'.cell? ⟨w.heap.size, 0, none⟩ = some (.slice a n cap) ∧ w'.cell? ⟨w.heap.size, 1, none⟩ = some (.slice b m dap))
    ((try dsimp only) <;> (repeat' apply And.intro) <;> (first | with_reducible assumption | assumption | (rw [SE.out, SE.out]; assumption)))
    (first
    | (go_at_call_of 56 (Value.slice a n cap)
       refine (C1.out _ bb0.out).mono ?_
       rintro e w1 ⟨g1, M1, rfl, hg1, o1, l1, b1⟩
       have bb1 := hide (TW.out _ _ bb0.out b1)
       obtain ⟨⟨x0', x1'⟩, ⟨y0', y1'⟩, gg'⟩ := F0.out _ bb1.out)
    | (go_at_call_of 56 (Value.slice b m dap)
       refine (C2.out _ bb1.out).mono ?_
       rintro e w2 ⟨g2, M2, rfl, hg2, o2, l2, b2⟩
       have bb2 := hide (TW.out _ _ bb1.out b2)
       obtain ⟨⟨x0'', x1''⟩, ⟨y0'', y1''⟩, gg''⟩ := F0.out _ bb2.out
       unfold Free at gg''))
  have hg1' : W0.heap.size ≤ g1 := hg1
  have O1 := hide (o1.below b2)
  have O2 := hide o2
  have R1 := hide (show ∀ i, i < n → ∀ b, Blk (M1 i).a (M1 i).r b → b < g2 from fun i hi k hk => by have := ((o1.own i hi).blk hk).2; omega)
  have g12 : g1 < g2 := by have := o1.lt; omega
  have L1 := hide l1
  have L2 := hide l2
  have BB := hide (B0.out.trans (bb2.out.mono B0.out.size))
  clear o1 o2 b1 b2 bb1 bb2 C1 C2 F0 TW SE l1 l2
  go_wp2_with fail
  refine bodyPost_ret (v := .agg #[.slice (some ⟨g1, 0, none⟩) n n, .slice (some ⟨g2, 0, none⟩) m m]) (by simp [results, Try.results30, go_sem, y0'', y1'']) rfl ?_
  refine ⟨g1, g2, M1, M2, rfl, ⟨by omega, g12, (O1.out.set _ (by omega)).set _ (by omega), (O2.out.set _ (by omega)).set _ (by omega), R1.out⟩, L1.out, L2.out, ?_⟩
  exact (BB.out.setCell (p := ⟨w.heap.size + 1, 0, none⟩) (by show w.heap.size ≤ w.heap.size + 1; omega) _).setCell (p := ⟨w.heap.size + 1, 1, none⟩) (by show w.heap.size ≤ w.heap.size + 1; omega) _
end Vo
end Go.Proofs.Ytjlmbeachanlfaa
