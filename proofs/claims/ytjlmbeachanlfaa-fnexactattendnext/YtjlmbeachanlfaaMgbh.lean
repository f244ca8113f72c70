/- Lemmas for the proof of the law. -/
import Derived.Test.YtjlmbeachanlfaaMgbf
import Derived.Test.YtjlmbeachanlfaaMgbg
import Derived.Test.YtjlmbeachanlfaaMgao
import Derived.Deep.AppendLies
import Derived.Deep.RegionLaw
/- AttendNext of the program. -/
namespace Go.Proofs.Ytjlmbeachanlfaa
namespace Vo
open Go.ChangeShapes Go.WideShapes Go.ChangeAt Go.RowKit Go.Joins Go.Sort
open Vl Vp Vr
set_option linter.unusedVariables false
set_option linter.unusedSimpArgs false
/-- what is asked of a cache and of what comes behind it -/
def NxA (n m : Nat) (L M : Nat → LV) (k v : LV) (win : Int) : Prop := cacheB n m L M = true ∧ (0 ≤ win ∧ win ≤ 4096) ∧ RowsA (n + 1) (appR L n k) ∧ RowsA (m + 1) (appR M m v)
/-- how many rows are kept, and which -/
def nk (n : Nat) (win : Int) : Nat := n + 1 - stN (n + 1) win
def lastR (K : Nat → LV) (st : Nat) : Nat → LV := fun i => K (st + i)
def pt (v : PT) : TV := ⟨none, none, v.r, v.s, 0, 0, v.D, v.S⟩
/-- one row as a tensor -/
def qT (q : LV) : PT := if dok 2 (two 1 q.r) = true then ⟨2, q.r, two 1 q.r, q.D⟩ else PT.zero
def nxP (n m : Nat) (L M : Nat → LV) (q k v : LV) (win : Int) : PT :=
  attP (pt (qT q)) (pt (rowsT (nk n win) k.r (lastR (appR L n k) (stN (n + 1) win)))) (pt (rowsT (nk m win) v.r (lastR (appR M m v) (stN (m + 1) win)))) 0
def NxOk (n m : Nat) (L M : Nat → LV) (q k v : LV) (win : Int) : Prop := NxA n m L M k v win ∧ tok (nxP n m L M q k v win).r (nxP n m L M q k v win).s (nxP n m L M q k v win).D (nxP n m L M q k v win).S = true
def NxY (n m : Nat) (L M : Nat → LV) (q k v : LV) (win : Int) (w : World) (e : Ending) (w' : World) : Prop :=
  ∃ g1 g2 M1 M2 da dc E, e = .returned (.tuple #[.agg #[.slice (some ⟨g1, 0, none⟩) (nk n win) (nk n win), .slice (some ⟨g2, 0, none⟩) (nk m win) (nk m win)], .slice da (nxP n m L M q k v win).s dc, .bool true]) ∧ w.heap.size ≤ E ∧ CacheO E w' g1 g2 (nk n win) (nk m win) M1 M2 ∧
    LSame (nk n win) (lastR (appR L n k) (stN (n + 1) win)) M1 ∧ LSame (nk m win) (lastR (appR M m v) (stN (m + 1) win)) M2 ∧ OwnL w.heap.size w' da (nxP n m L M q k v win).s (nxP n m L M q k v win).S ∧ (∀ b, Blk da (nxP n m L M q k v win).s b → b < E) ∧ Below w.heap.size w w'
def NxN (w : World) (e : Ending) (w' : World) : Prop := ∃ p, e = .returned (.tuple #[.agg #[.slice none 0 0, .slice none 0 0], .slice (some ⟨p, 0, none⟩) 0 0, .bool false]) ∧ Below w.heap.size w w'
def NxR (n m : Nat) (L M : Nat → LV) (q k v : LV) (win : Int) (w : World) (e : Ending) (w' : World) : Prop :=
  (NxOk n m L M q k v win ∧ NxY n m L M q k v win w e w') ∨ (¬ NxOk n m L M q k v win ∧ NxN w e w')
section
variable {o : Oper} {A : Act} {w : World} {x y : Operand} {b f : Nat} {v0 v1 : Value}
theorem runFieldC0 (ho : o.op = .fieldAddr 27 x 0) (hx : A.eval x = .pointer (some ⟨b, 0, none⟩)) : (execOp A.eval o).run Try.prog w = .ok (.value (.pointer (some ⟨b, 0, none⟩))) w := by
  unfold execOp
  rw [ho]
  simp only [hx]
  go_simp
theorem runFieldC1 (ho : o.op = .fieldAddr 27 x 1) (hx : A.eval x = .pointer (some ⟨b, 0, none⟩)) : (execOp A.eval o).run Try.prog w = .ok (.value (.pointer (some ⟨b, 1, none⟩))) w := by
  unfold execOp
  rw [ho]
  simp only [hx]
  go_simp
theorem runLoadR (ho : o.op = .load 22 x) (hx : A.eval x = .pointer (some ⟨b, f, none⟩)) (h : w.cell? ⟨b, f, none⟩ = some v0) : (execOp A.eval o).run Try.prog w = .ok (.value v0) w := by
  unfold execOp
  rw [ho]
  simp only [hx]
  go_simp
theorem runLoadC (ho : o.op = .load 27 x) (hx : A.eval x = .pointer (some ⟨b, 0, none⟩)) (h : Bx w b v0 v1) : (execOp A.eval o).run Try.prog w = .ok (.value (.agg #[v0, v1])) w := by
  obtain ⟨h0, h1⟩ := h
  unfold execOp
  rw [ho]
  simp only [hx]
  go_simp
theorem runBuildR1 {a : Option Addr} {r c : Nat} (ho : o.op = .buildSlice 22 1 #[(0, x)]) (hx : A.eval x = .slice a r c) : (execOp A.eval o).run Try.prog w = .ok (.value (.slice (some ⟨w.heap.size, 0, none⟩) 1 1)) (w.alloc (.cells #[.slice a r c] 25)) := by
  unfold execOp
  rw [ho]
  simp only [List.map_toArray, List.map_cons, List.map_nil, hx]
  go_simp
theorem runBuildR2 {a a' : Option Addr} {r c r' c' : Nat} (ho : o.op = .buildSlice 57 2 #[(0, x), (1, y)]) (hx : A.eval x = .slice a r c) (hy : A.eval y = .slice a' r' c') : (execOp A.eval o).run Try.prog w = .ok (.value (.slice (some ⟨w.heap.size, 0, none⟩) 2 2)) (w.alloc (.cells #[.slice a r c, .slice a' r' c'] 22)) := by
  unfold execOp
  rw [ho]
  simp only [List.map_toArray, List.map_cons, List.map_nil, hx, hy]
  go_simp
end
/-- a list of one row -/
def One1 (B : Nat) (x : LV) (v : Value) (w : World) (b : Nat) : Prop := v = .slice (some ⟨b, 0, none⟩) 1 1 ∧ B ≤ b ∧ b < w.heap.size ∧ w.cell? ⟨b, 0, none⟩ = some (.slice x.a x.r x.cap)
theorem One1.below {B : Nat} {x : LV} {v : Value} {w w' : World} {b : Nat} (h : One1 B x v w b) (hb : Below w.heap.size w w') : One1 B x v w' b :=
  ⟨h.1, h.2.1, Nat.lt_of_lt_of_le h.2.2.1 hb.size, (hb.cell (p := ⟨b, 0, none⟩) h.2.2.1).trans h.2.2.2⟩
theorem one1_new {B : Nat} (x : LV) (w : World) (hB : B ≤ w.heap.size) : One1 B x (.slice (some ⟨w.heap.size, 0, none⟩) 1 1) (w.alloc (.cells #[.slice x.a x.r x.cap] 25)) w.heap.size :=
  ⟨rfl, hB, by simp, by simp [go_sem]⟩
theorem cat2_new {B : Nat} {ad : Option Addr} {n cap b2 : Nat} {x : LV} {u : Value} {w : World} (hB : B ≤ w.heap.size) (h : One1 B x u w b2) : Cat2 B ad n cap x (.slice (some ⟨w.heap.size, 0, none⟩) 2 2) (w.alloc (.cells #[.slice ad n cap, .slice (some ⟨b2, 0, none⟩) 1 1] 22)) w.heap.size b2 := by
  have hb : Below w.heap.size w (w.alloc (.cells #[.slice ad n cap, .slice (some ⟨b2, 0, none⟩) 1 1] 22)) := (Below.refl _ _).alloc (Nat.le_refl _) _
  exact ⟨rfl, hB, by simp, by have := h.2.2.1; simp; omega, by simp [go_sem], by simp [go_sem], (h.below hb).2.2.2⟩
/-- a tensor that was made and can be read -/
def TnR (v : PT) (u : Value) (w : World) : Prop := ∃ a b c d, u = .agg #[.slice a v.r c, .slice b v.s d] ∧ v.r ≤ c ∧ v.s ≤ d ∧ Ints w.heap.size w a v.r v.D ∧ Ints w.heap.size w b v.s v.S
theorem TnR.below {v : PT} {u : Value} {w w' : World} (h : TnR v u w) (hb : Below w.heap.size w w') : TnR v u w' := by
  obtain ⟨a, b, c, d, e, h1, h2, h3, h4⟩ := h
  exact ⟨a, b, c, d, e, h1, h2, (h3.below hb).mono hb.size, (h4.below hb).mono hb.size⟩
theorem tnr_of {B : Nat} {v : PT} {w w' : World} {e : Ending} (h : TensD B v w e w') : ∃ u, e = .returned u ∧ Below w.heap.size w w' ∧ TnR v u w' := by
  obtain ⟨a, b, c, d, rfl, vo, h1, h2, bb⟩ := h
  exact ⟨_, rfl, bb, a, b, c, d, rfl, h1, h2, vo.d.ints, vo.t.ints⟩
theorem rowsT_le (n r : Nat) (L : Nat → LV) : ((rowsT n r L).r : Int) ≤ 1048576 ∧ ((rowsT n r L).s : Int) ≤ 1048576 := by
  unfold rowsT
  by_cases hd : dok 2 (two n r) = true
  · rw [if_pos hd]
    refine ⟨by show ((2 : Nat) : Int) ≤ _; decide, ?_⟩
    show ((n * r : Nat) : Int) ≤ _
    have q := (dok_iff.1 hd).2
    rcases szR_cases (two n r) 2 with u | ⟨_, u2, _, u4⟩
    · omega
    · have e2 : pr (two n r) 2 = (n : Int) * (r : Int) := by simp [pr, two]
      rw [e2] at u2
      have : ((n * r : Nat) : Int) = (n : Int) * (r : Int) := by simp
      omega
  · rw [if_neg hd]
    exact ⟨by show ((0 : Nat) : Int) ≤ _; decide, by show ((0 : Nat) : Int) ≤ _; decide⟩
theorem tnr_q {q : LV} {u : Value} {w : World} (h : TnR (rowsT 1 q.r (fun _ => q)) u w) : TnR (qT q) u w := by
  unfold rowsT at h
  unfold qT
  by_cases hd : dok 2 (two 1 q.r) = true
  · rw [if_pos hd] at h ⊢
    rw [Nat.one_mul] at h
    obtain ⟨a, b, c, d, e, h1, h2, h3, h4⟩ := h
    refine ⟨a, b, c, d, e, h1, h2, h3, ?_⟩
    rcases h4 with q | ⟨bb, o, ha, hb, hc⟩
    · exact .inl q
    · refine .inr ⟨bb, o, ha, hb, fun j hj => ?_⟩
      have es : q.D j = rowsS q.r (fun _ => q) j := by
        have hj : j < q.r := hj
        unfold rowsS; rw [Nat.mod_eq_of_lt hj]
      show w.cell? ⟨bb, o + j, none⟩ = some (Value.int .i64 (q.D j)) ∧ bd (q.D j)
      rw [es]
      exact hc j hj
  · rw [if_neg hd] at h ⊢
    exact h
theorem qT_le (q : LV) : ((qT q).r : Int) ≤ 1048576 ∧ ((qT q).s : Int) ≤ 1048576 := by
  have h := rowsT_le 1 q.r (fun _ => q)
  unfold rowsT at h
  unfold qT
  by_cases hd : dok 2 (two 1 q.r) = true
  · rw [if_pos hd] at h ⊢
    rw [Nat.one_mul] at h
    exact h
  · rw [if_neg hd] at h ⊢
    exact h
theorem attR (Q K V : PT) (uq uk uv : Value) (w : World) (hq : TnR Q uq w) (hk : TnR K uk w) (hv : TnR V uv w) (lq : (Q.r : Int) ≤ 1048576 ∧ (Q.s : Int) ≤ 1048576) (lk : (K.r : Int) ≤ 1048576 ∧ (K.s : Int) ≤ 1048576) (lv : (V.r : Int) ≤ 1048576 ∧ (V.s : Int) ≤ 1048576) :
    Calls Try.prog 27 #[uq, uk, uv, .int .i64 0] w fun e w' => ∃ u, e = .returned u ∧ Below w.heap.size w w' ∧ TenW w.heap.size (attP (pt Q) (pt K) (pt V) 0) u w' := by
  obtain ⟨a1, b1, c1, d1, rfl, q1, q2, q3, q4⟩ := hq
  obtain ⟨a2, b2, c2, d2, rfl, k1, k2, k3, k4⟩ := hk
  obtain ⟨a3, b3, c3, d3, rfl, v1, v2, v3, v4⟩ := hv
  refine (attendF w.heap.size ⟨a1, b1, Q.r, Q.s, c1, d1, Q.D, Q.S⟩ ⟨a2, b2, K.r, K.s, c2, d2, K.D, K.S⟩ ⟨a3, b3, V.r, V.s, c3, d3, V.D, V.S⟩ 0 w (Nat.le_refl _) ⟨q3, q4⟩ ⟨k3, k4⟩ ⟨v3, v4⟩ lq lk lv ⟨q1, q2⟩ ⟨k1, k2⟩ ⟨v1, v2⟩ (by unfold bd; omega)).mono ?_
  rintro e w' ⟨a, b, c, d, rfl, vo, bb⟩
  have e : attP ⟨a1, b1, Q.r, Q.s, c1, d1, Q.D, Q.S⟩ ⟨a2, b2, K.r, K.s, c2, d2, K.D, K.S⟩ ⟨a3, b3, V.r, V.s, c3, d3, V.D, V.S⟩ 0 = attP (pt Q) (pt K) (pt V) 0 := attP_same ⟨rfl, rfl, rfl, rfl⟩ ⟨rfl, rfl, rfl, rfl⟩ ⟨rfl, rfl, rfl, rfl⟩
  rw [e] at vo ⊢
  exact ⟨_, rfl, bb, a, b, c, d, rfl, vo⟩
/-- a cache that was copied -/
def CpR (E n m : Nat) (K V : Nat → LV) (u : Value) (w : World) : Prop := ∃ g1 g2 M1 M2, u = .agg #[.slice (some ⟨g1, 0, none⟩) n n, .slice (some ⟨g2, 0, none⟩) m m] ∧ CacheO E w g1 g2 n m M1 M2 ∧ LSame n K M1 ∧ LSame m V M2
theorem CpR.below {E n m : Nat} {K V : Nat → LV} {u : Value} {w w' : World} (h : CpR E n m K V u w) (hb : Below w.heap.size w w') : CpR E n m K V u w' := by
  obtain ⟨g1, g2, M1, M2, e, h1, h2, h3⟩ := h
  exact ⟨g1, g2, M1, M2, e, h1.below hb, h2, h3⟩
section
variable {o : Oper} {A : Act} {w : World} {x : Operand} {b f : Nat} {v0 v1 : Value}
theorem runField1' (ho : o.op = .fieldAddr 43 x 1) (hx : A.eval x = .pointer (some ⟨b, 0, none⟩)) : (execOp A.eval o).run Try.prog w = .ok (.value (.pointer (some ⟨b, 1, none⟩))) w := by
  unfold execOp
  rw [ho]
  simp only [hx]
  go_simp
theorem runLoadS' (ho : o.op = .load 25 x) (hx : A.eval x = .pointer (some ⟨b, f, none⟩)) (h : w.cell? ⟨b, f, none⟩ = some v0) : (execOp A.eval o).run Try.prog w = .ok (.value v0) w := by
  unfold execOp
  rw [ho]
  simp only [hx]
  go_simp
end
set_option maxRecDepth 100000 in
set_option maxHeartbeats 4000000 in
theorem nextF (B : Nat) (ad bd' : Addr) (n m cap dap : Nat) (L M : Nat → LV) (q k v' : LV) (win : Int) (w : World) (hB : B ≤ w.heap.size) (h : LL B w (some ad) n L) (h' : LL B w (some bd') m M) (hq : Ints B w q.a q.r q.D) (hk : Ints B w k.a k.r k.D) (hv : Ints B w v'.a v'.r v'.D)
    (hn : (n : Int) ≤ 1048576) (hm : (m : Int) ≤ 1048576) (hl : LLen n L 1048576) (hl' : LLen m M 1048576) (lq : (q.r : Int) ≤ 1048576) (lk : (k.r : Int) ≤ 1048576) (lv : (v'.r : Int) ≤ 1048576) (hw : bd win) :
    Calls Try.prog 8 #[.agg #[.slice (some ad) n cap, .slice (some bd') m dap], .slice q.a q.r q.cap, .slice k.a k.r k.cap, .slice v'.a v'.r v'.cap, .int .i64 win] w fun e w' => NxR n m L M q k v' win w e w' := by
  obtain ⟨W0, hW0⟩ : ∃ W0, (w.alloc (.cells #[.slice (some ad) n cap, .slice (some bd') m dap] 27)).alloc (.cells #[.slice none 0 0, .slice none 0 0] 27) = W0 := ⟨_, rfl⟩
  have bl : Below w.heap.size w W0 := by rw [← hW0]; exact ((Below.refl _ _).alloc (Nat.le_refl _) _).alloc (by simp) _
  have z0 : w.heap.size + 2 ≤ W0.heap.size := by rw [← hW0]; simp
  have X0 := hide (show Bx W0 w.heap.size (.slice (some ad) n cap) (.slice (some bd') m dap) by rw [← hW0]; exact (bx_new w _ _ _).below ((Below.refl _ _).alloc (Nat.le_refl _) _) (by simp))
  have M0 := hide (show Bx W0 (w.heap.size + 1) (.slice none 0 0) (.slice none 0 0) by
    rw [← hW0]
    have := bx_new (w.alloc (.cells #[.slice (some ad) n cap, .slice (some bd') m dap] 27)) (.slice none 0 0) (.slice none 0 0) 27
    simpa using this)
  have G0 := hide (show Free W0 (w.heap.size + 1) by rw [← hW0]; intro i; simp [go_sem])
  have B0 := hide bl
  have H0 := hide hW0
  have ALL := hide (fun (W : World) (hb : Below W0.heap.size W0 W) => (show (Bx W w.heap.size (.slice (some ad) n cap) (.slice (some bd') m dap) ∧ Bx W (w.heap.size + 1) (.slice none 0 0) (.slice none 0 0) ∧ Free W (w.heap.size + 1)) ∧ (LL B W (some ad) n L ∧ LL B W (some bd') m M) ∧ Ints B W q.a q.r q.D ∧ Ints B W k.a k.r k.D ∧ Ints B W v'.a v'.r v'.D ∧ Below w.heap.size w W from by
    have b2 : Below w.heap.size w W := bl.trans (hb.mono bl.size)
    have b3 := b2.mono hB
    exact ⟨⟨X0.out.below hb (by omega), M0.out.below hb (by omega), G0.out.below hb (by omega)⟩, ⟨h.below b3, h'.below b3⟩, hq.below b3, hk.below b3, hv.below b3, b2⟩))
  have NOX := hide (fun (W : World) (hb : Below W0.heap.size W0 W) => (show ((W.alloc (.cells #[] 3)).cell? ⟨w.heap.size + 1, 0, none⟩ = some (.slice none 0 0) ∧ (W.alloc (.cells #[] 3)).cell? ⟨w.heap.size + 1, 1, none⟩ = some (.slice none 0 0)) ∧ ∀ i, (W.alloc (.cells #[] 3)).frozen? ⟨w.heap.size + 1, i, none⟩ = false from (ALL.out _ (hb.alloc hb.size _)).1.2))
  have NO := hide (fun (hz : ¬ NxOk n m L M q k v' win) (w2 : World) (p : Nat) (hb : Below w.heap.size w w2) => (show NxR n m L M q k v' win w (.returned (.tuple #[.agg #[.slice none 0 0, .slice none 0 0], .slice (some ⟨p, 0, none⟩) 0 0, .bool false])) w2 from .inr ⟨hz, p, rfl, hb⟩))
  have CC := hide (cacheOk W0.heap.size (some ad) (some bd') n m cap dap L M W0 (Nat.le_refl _) ((h.below (bl.mono hB)).mono (by omega)) ((h'.below (bl.mono hB)).mono (by omega)) hn hm hl hl')
  have HL1 := hide hl
  have HL2 := hide hl'
  have LT := hide (show (q.r : Int) ≤ 1048576 ∧ (k.r : Int) ≤ 1048576 ∧ (v'.r : Int) ≤ 1048576 from ⟨lq, lk, lv⟩)
  clear h h' hq hk hv hl hl' lq lk lv bl
  obtain ⟨x0, x1⟩ := X0.out
  obtain ⟨y0, y1⟩ := M0.out
  rw [← hW0] at x0 x1 y0 y1
  clear hW0
  unfold bd at hw
  go_enter Try.func8, Try.ntmps8
  go_wp2_with fail
  rw [H0.out]
  refine CC.out.mono ?_
  rintro e w1 ⟨rfl, b1⟩
  have B1 := hide b1
  have z1 := b1.size
  clear x0 x1 y0 y1 CC b1
  have BW := hide (ALL.out w1 B1.out).2.2.2.2.2
  obtain ⟨⟨y0, y1⟩, gg⟩ := NOX.out w1 B1.out
  cases hc : cacheB n m L M with
  | false =>
    have NN := hide (show ¬ NxOk n m L M q k v' win from fun c => by rw [c.1.1] at hc; cases hc)
    clear hc
    go_wp2_with fail
    refine bodyPost_ret (v := .tuple #[.agg #[.slice none 0 0, .slice none 0 0], .slice (some ⟨w1.heap.size, 0, none⟩) 0 0, .bool false]) (by simp [results, Try.results8, go_sem, y0, y1]) rfl ?_
    refine NO.out NN.out _ _ ?_
    repeat (refine Below.setCell ?_ (by simp) _)
    exact BW.out.alloc BW.out.size _
  | true =>
  have HC := hide hc
  clear hc
  by_cases hw0 : 0 ≤ win
  rotate_left
  · have c0 : win < 0 := by omega
    have NN := hide (show ¬ NxOk n m L M q k v' win from fun c => hw0 c.1.2.1.1)
    clear hw0
    go_wp2_with fail
    refine bodyPost_ret (v := .tuple #[.agg #[.slice none 0 0, .slice none 0 0], .slice (some ⟨w1.heap.size, 0, none⟩) 0 0, .bool false]) (by simp [results, Try.results8, go_sem, y0, y1]) rfl ?_
    refine NO.out NN.out _ _ ?_
    repeat (refine Below.setCell ?_ (by simp) _)
    exact BW.out.alloc BW.out.size _
  by_cases hw1 : win ≤ 4096
  rotate_left
  · have c0 : decide (win < 0) = false := decide_eq_false (by omega)
    have c1 : (4096 : Int) < win := by omega
    have NN := hide (show ¬ NxOk n m L M q k v' win from fun c => hw1 c.1.2.1.2)
    clear hw0 hw1
    go_wp2_with fail
    refine bodyPost_ret (v := .tuple #[.agg #[.slice none 0 0, .slice none 0 0], .slice (some ⟨w1.heap.size, 0, none⟩) 0 0, .bool false]) (by simp [results, Try.results8, go_sem, y0, y1]) rfl ?_
    refine NO.out NN.out _ _ ?_
    repeat (refine Below.setCell ?_ (by simp) _)
    exact BW.out.alloc BW.out.size _
  have c0 : decide (win < 0) = false := decide_eq_false (by omega)
  have c1 : decide ((4096 : Int) < win) = false := decide_eq_false (by omega)
  have LD := hide (fun (W : World) (hb : Below w1.heap.size w1 W) => ALL.out W (B1.out.trans (hb.mono B1.out.size)))
  have HBW := hide (show B ≤ w1.heap.size by omega)
  have CTk := hide (fun (W : World) (hb : Below w1.heap.size w1 W) (b b2 : Nat) (u : Value) (hc : Cat2 w1.heap.size (some ad) n cap k u W b b2) => catF w1.heap.size ad n cap L k W b b2 u hb.size ((LD.out W hb).2.1.1.mono HBW.out) ((LD.out W hb).2.2.2.1.mono HBW.out) hc hn)
  have CTv' := hide (fun (W : World) (hb : Below w1.heap.size w1 W) (b b2 : Nat) (u : Value) (hc : Cat2 w1.heap.size (some bd') m dap v' u W b b2) => catF w1.heap.size bd' m dap M v' W b b2 u hb.size ((LD.out W hb).2.1.2.mono HBW.out) ((LD.out W hb).2.2.2.2.1.mono HBW.out) hc hm)
  clear y0 y1 gg
  go_wp2_with fail
  refine Qf.facts2 12 (by kernel_rfl) (by kernel_rfl) (by kernel_rfl) (fun i v wx => match i with | 0 => v = .pointer (some ⟨w.heap.size, 0, none⟩) | 1 => v = .slice (some ad) n cap | 2 => v = .slice k.a k.r k.cap | 3 => ∃ b, One1 w1.heap.size k v wx b | 4 => ∃ b b2, Cat2 w1.heap.size (some ad) n cap k v wx b b2 | 5 => CatR (n + 1) (appR L n k) v wx | 6 => v = .pointer (some ⟨w.heap.size, 1, none⟩) | 7 => v = .slice (some bd') m dap | 8 => v = .slice v'.a v'.r v'.cap | 9 => ∃ b, One1 w1.heap.size v' v wx b | 10 => ∃ b b2, Cat2 w1.heap.size (some bd') m dap v' v wx b b2 | 11 => CatR (m + 1) (appR M m v') v wx | _ => True) ?stable ?steps ?rest
  case stable =>
    intro i v w1 w2 h hb
    match i, h with
    | 0, h => exact h
    | 1, h => exact h
    | 2, h => exact h
    | 3, h => exact ⟨h.choose, One1.below h.choose_spec hb⟩
    | 4, h => exact ⟨h.choose, h.choose_spec.choose, Cat2.below h.choose_spec.choose_spec hb⟩
    | 5, h => exact CatR.below h hb
    | 6, h => exact h
    | 7, h => exact h
    | 8, h => exact h
    | 9, h => exact ⟨h.choose, One1.below h.choose_spec hb⟩
    | 10, h => exact ⟨h.choose, h.choose_spec.choose, Cat2.below h.choose_spec.choose_spec hb⟩
    | 11, h => exact CatR.below h hb
    | _ + 12, h => exact h
  case steps =>
    intro i o hi ho s A wS hb hk hA hO
    match i, hi, ho, hk with
    | 0, _, ho, hk =>
      cases ho
      exact Qf.lands_val _ _ (runFieldC0 rfl ((hO 5 (by rfl)).trans rfl)) ⟨Below.refl _ _, rfl⟩
    | 1, _, ho, hk =>
      cases ho
      have h0 := hA 0 _ 30 (by decide) rfl rfl (by simp)
      have e0 := hk 0 (by kernel_rfl)
      rw [e0] at h0
      exact Qf.lands_val _ _ (runLoadR rfl h0 (LD.out wS hb).1.1.1) ⟨Below.refl _ _, rfl⟩
    | 2, _, ho, hk =>
      cases ho
      exact Qf.lands_move _ rfl _ ((hO 2 (by rfl)).trans rfl) ⟨Below.refl _ _, rfl⟩
    | 3, _, ho, hk =>
      cases ho
      have h2 := hA 2 _ 32 (by decide) rfl rfl (by simp)
      have e2 := hk 2 (by kernel_rfl)
      rw [e2] at h2
      exact Qf.lands_val _ _ (runBuildR1 rfl h2) ⟨(Below.refl _ _).alloc (Nat.le_refl _) _, _, one1_new k wS hb.size⟩
    | 4, _, ho, hk =>
      cases ho
      have h1 := hA 1 _ 31 (by decide) rfl rfl (by simp)
      have e1 := hk 1 (by kernel_rfl)
      rw [e1] at h1
      have h3 := hA 3 _ 33 (by decide) rfl rfl (by simp)
      obtain ⟨b2, q1⟩ := hk 3 (by kernel_rfl)
      rw [q1.1] at h3
      exact Qf.lands_val _ _ (runBuildR2 rfl h1 h3) ⟨(Below.refl _ _).alloc (Nat.le_refl _) _, _, b2, cat2_new hb.size q1⟩
    | 5, _, ho, hk =>
      cases ho
      have h4 := hA 4 _ 34 (by decide) rfl rfl (by simp)
      obtain ⟨b, b2, q1⟩ := hk 4 (by kernel_rfl)
      refine Qf.lands_call 24 _ _ rfl (enters_of Try.func24 (by kernel_rfl) rfl) #[s 4] (by simp [h4]) (CTk.out wS hb b b2 _ q1)
    | 6, _, ho, hk =>
      cases ho
      exact Qf.lands_val _ _ (runFieldC1 rfl ((hO 5 (by rfl)).trans rfl)) ⟨Below.refl _ _, rfl⟩
    | 7, _, ho, hk =>
      cases ho
      have h6 := hA 6 _ 36 (by decide) rfl rfl (by simp)
      have e6 := hk 6 (by kernel_rfl)
      rw [e6] at h6
      exact Qf.lands_val _ _ (runLoadR rfl h6 (LD.out wS hb).1.1.2) ⟨Below.refl _ _, rfl⟩
    | 8, _, ho, hk =>
      cases ho
      exact Qf.lands_move _ rfl _ ((hO 3 (by rfl)).trans rfl) ⟨Below.refl _ _, rfl⟩
    | 9, _, ho, hk =>
      cases ho
      have h8 := hA 8 _ 38 (by decide) rfl rfl (by simp)
      have e8 := hk 8 (by kernel_rfl)
      rw [e8] at h8
      exact Qf.lands_val _ _ (runBuildR1 rfl h8) ⟨(Below.refl _ _).alloc (Nat.le_refl _) _, _, one1_new v' wS hb.size⟩
    | 10, _, ho, hk =>
      cases ho
      have h7 := hA 7 _ 37 (by decide) rfl rfl (by simp)
      have e7 := hk 7 (by kernel_rfl)
      rw [e7] at h7
      have h9 := hA 9 _ 39 (by decide) rfl rfl (by simp)
      obtain ⟨b2, q1⟩ := hk 9 (by kernel_rfl)
      rw [q1.1] at h9
      exact Qf.lands_val _ _ (runBuildR2 rfl h7 h9) ⟨(Below.refl _ _).alloc (Nat.le_refl _) _, _, b2, cat2_new hb.size q1⟩
    | 11, _, ho, hk =>
      cases ho
      have h10 := hA 10 _ 40 (by decide) rfl rfl (by simp)
      obtain ⟨b, b2, q1⟩ := hk 10 (by kernel_rfl)
      refine Qf.lands_call 24 _ _ rfl (enters_of Try.func24 (by kernel_rfl) rfl) #[s 10] (by simp [h10]) (CTv'.out wS hb b b2 _ q1)
    | _ + 12, hi, _, _ => exact absurd hi (by omega)
  case rest =>
  intro s w2 hbS hk
  obtain ⟨gk, ck, e5, rk1, rk2, lk⟩ := hk 5 (by decide)
  obtain ⟨gv, cv, e11, rv1, rv2, lv⟩ := hk 11 (by decide)
  simp only [List.take_succ_cons, List.take_zero, List.drop_succ_cons, List.drop_zero, Qf.lay, Qf.all1, if_true, e5, e11]
  simp only [Act.put, List.setIfInBounds_toArray, List.set_cons_succ, List.set_cons_zero]
  have B2 := hide (B1.out.trans (hbS.mono B1.out.size))
  have LK := hide lk
  have LV' := hide lv
  clear hk e5 e11 hbS lk lv CTk CTv' LD
  obtain ⟨nm, n4⟩ : n = m ∧ n ≤ 4096 := by
    have := HC.out
    unfold cacheB at this
    simp only [Bool.and_eq_true, decide_eq_true_eq] at this
    exact ⟨this.1.1.1, this.1.1.2⟩
  have NM := hide nm
  have m4 : m ≤ 4096 := by omega
  clear nm
  have LA := hide (show LLen (n + 1) (appR L n k) 1048576 from fun i hi => by
    unfold appR
    by_cases e : i = n
    · rw [if_pos e]; exact LT.out.2.1
    · rw [if_neg e]; exact HL1.out i (by omega))
  have LB := hide (show LLen (m + 1) (appR M m v') 1048576 from fun i hi => by
    unfold appR
    by_cases e : i = m
    · rw [if_pos e]; exact LT.out.2.2
    · rw [if_neg e]; exact HL2.out i (by omega))
  have CR := hide (rowsOk w2.heap.size (some ⟨gk, 0, none⟩) (n + 1) ck (appR L n k) w2 (Nat.le_refl _) LK.out (by omega) LA.out)
  have CL1 := hide (fun W => lastRowsF gk 0 (n + 1) ck win W (by omega) rk1 rk2 hw0 hw1)
  have CL2 := hide (fun W => lastRowsF gv 0 (m + 1) cv win W (by omega) rv1 rv2 hw0 hw1)
  go_wp2_with fail
  refine CR.out.mono ?_
  rintro e w3 ⟨rfl, b3⟩
  have B3 := hide (B2.out.trans (b3.mono B2.out.size))
  have z3 := b3.size
  have LK3 := hide ((LK.out.below b3).mono b3.size)
  have LV3 := hide ((LV'.out.below b3).mono b3.size)
  clear CR b3 LK LV'
  by_cases hA : RowsA (n + 1) (appR L n k)
  rotate_left
  · rw [decide_eq_false hA]
    have NN := hide (show ¬ NxOk n m L M q k v' win from fun c => hA c.1.2.2.1)
    have BW := hide (ALL.out w3 B3.out).2.2.2.2.2
    obtain ⟨⟨y0, y1⟩, gg⟩ := NOX.out w3 B3.out
    clear hA
    go_wp2_with fail
    refine bodyPost_ret (v := .tuple #[.agg #[.slice none 0 0, .slice none 0 0], .slice (some ⟨w3.heap.size, 0, none⟩) 0 0, .bool false]) (by simp [results, Try.results8, go_sem, y0, y1]) rfl ?_
    refine NO.out NN.out _ _ ?_
    repeat (refine Below.setCell ?_ (by simp) _)
    exact BW.out.alloc BW.out.size _
  rw [decide_eq_true hA]
  have HA := hide hA
  clear hA
  have CR := hide (rowsOk w3.heap.size (some ⟨gv, 0, none⟩) (m + 1) cv (appR M m v') w3 (Nat.le_refl _) LV3.out (by omega) LB.out)
  go_wp2_with fail
  refine CR.out.mono ?_
  rintro e w4 ⟨rfl, b4⟩
  have B4 := hide (B3.out.trans (b4.mono B3.out.size))
  have z4 := b4.size
  have LK4 := hide ((LK3.out.below b4).mono b4.size)
  have LV4 := hide ((LV3.out.below b4).mono b4.size)
  clear CR b4 LK3 LV3
  by_cases hA : RowsA (m + 1) (appR M m v')
  rotate_left
  · rw [decide_eq_false hA]
    have NN := hide (show ¬ NxOk n m L M q k v' win from fun c => hA c.1.2.2.2)
    have BW := hide (ALL.out w4 B4.out).2.2.2.2.2
    obtain ⟨⟨y0, y1⟩, gg⟩ := NOX.out w4 B4.out
    clear hA
    go_wp2_with fail
    refine bodyPost_ret (v := .tuple #[.agg #[.slice none 0 0, .slice none 0 0], .slice (some ⟨w4.heap.size, 0, none⟩) 0 0, .bool false]) (by simp [results, Try.results8, go_sem, y0, y1]) rfl ?_
    refine NO.out NN.out _ _ ?_
    repeat (refine Below.setCell ?_ (by simp) _)
    exact BW.out.alloc BW.out.size _
  rw [decide_eq_true hA]
  have HA' := hide hA
  clear hA
  have ST := hide (show stN (n + 1) win ≤ n ∧ stN (m + 1) win ≤ m from by
    unfold stN
    constructor <;> (split <;> omega))
  obtain ⟨st, hst⟩ : ∃ st, stN (n + 1) win = st := ⟨_, rfl⟩
  obtain ⟨st', hst'⟩ : ∃ st', stN (m + 1) win = st' := ⟨_, rfl⟩
  have HST := hide hst
  have HST' := hide hst'
  rw [hst] at CL1
  rw [hst'] at CL2
  clear hst hst'
  go_wp2_with fail
  refine (CL1.out _).mono ?_
  rintro e w5 ⟨rfl, rfl⟩
  go_wp2_with fail
  refine (CL2.out _).mono ?_
  rintro e w5 ⟨rfl, rfl⟩
  clear CL1 CL2
  go_wp2_with fail
  have n1 : 1 ≤ n + 1 - st := by have := ST.out.1; rw [HST.out] at this; omega
  have m1 : 1 ≤ m + 1 - st' := by have := ST.out.2; rw [HST'.out] at this; omega
  obtain ⟨W6, hW6⟩ : ∃ W6, w5.alloc (.cells #[.slice (some ⟨gk, st, none⟩) (n + 1 - st) (ck - st), .slice (some ⟨gv, st', none⟩) (m + 1 - st') (cv - st')] 27) = W6 := ⟨_, rfl⟩
  rw [hW6]
  have b6 : Below w5.heap.size w5 W6 := by rw [← hW6]; exact (Below.refl _ _).alloc (Nat.le_refl _) _
  have z6 : w5.heap.size + 1 ≤ W6.heap.size := by rw [← hW6]; simp
  have X6 := hide (show Bx W6 w5.heap.size (.slice (some ⟨gk, st, none⟩) (n + 1 - st) (ck - st)) (.slice (some ⟨gv, st', none⟩) (m + 1 - st') (cv - st')) by rw [← hW6]; exact bx_new w5 _ _ _)
  have B6 := hide (B4.out.trans (b6.mono B4.out.size))
  have RK := hide (show ∀ i, i < n + 1 - st → (lastR (appR L n k) st i).r = k.r from fun i hi => by
    have q1 := (HA.out (st + i) (by omega)).1
    have q2 := (HA.out n (by omega)).1
    have q3 : (appR L n k n).r = k.r := by unfold appR; rw [if_pos rfl]
    show (appR L n k (st + i)).r = k.r
    rw [q1, ← q2, q3])
  have RV := hide (show ∀ i, i < m + 1 - st' → (lastR (appR M m v') st' i).r = v'.r from fun i hi => by
    have q1 := (HA'.out (st' + i) (by omega)).1
    have q2 := (HA'.out m (by omega)).1
    have q3 : (appR M m v' m).r = v'.r := by unfold appR; rw [if_pos rfl]
    show (appR M m v' (st' + i)).r = v'.r
    rw [q1, ← q2, q3])
  have LD := hide (fun (W : World) (hb : Below W6.heap.size W6 W) => (show Bx W w5.heap.size (.slice (some ⟨gk, st, none⟩) (n + 1 - st) (ck - st)) (.slice (some ⟨gv, st', none⟩) (m + 1 - st') (cv - st')) ∧ LL W6.heap.size W (some ⟨gk, st, none⟩) (n + 1 - st) (lastR (appR L n k) st) ∧ LL W6.heap.size W (some ⟨gv, st', none⟩) (m + 1 - st') (lastR (appR M m v') st') ∧ Ints W6.heap.size W q.a q.r q.D ∧ Below W0.heap.size W0 W from by
    have b7 : Below W0.heap.size W0 W := B6.out.trans (hb.mono B6.out.size)
    have l1 := LL.from ((LK4.out.below b6).mono b6.size) st (by omega)
    have l2 := LL.from ((LV4.out.below b6).mono b6.size) st' (by omega)
    rw [Nat.zero_add] at l1 l2
    exact ⟨X6.out.below hb (by omega), l1.below hb, l2.below hb, (ALL.out W b7).2.2.1.mono (by have := B6.out.size; omega), b7⟩))
  have CQ := hide (fun (W : World) (hb : Below W6.heap.size W6 W) (b : Nat) (u : Value) (hc : One1 W6.heap.size q u W b) => (show Calls Try.prog 28 #[u] W (fun e w' => ∃ u, e = .returned u ∧ Below W.heap.size W w' ∧ TnR (qT q) u w') from by
    obtain ⟨rfl, q1, q2, q3⟩ := hc
    have ll : LL W.heap.size W (some ⟨b, 0, none⟩) 1 (fun _ => q) := .inr ⟨b, 0, rfl, q2, fun i hi => by
      obtain rfl : i = 0 := by omega
      exact ⟨q3, (LD.out W hb).2.2.2.1.mono hb.size⟩⟩
    exact (tensorOfRowsF W.heap.size ⟨b, 0, none⟩ 1 1 q.r (fun _ => q) W (Nat.le_refl _) ll (by omega) (by omega) LT.out.1 (fun _ _ => rfl)).mono (fun e w' h => by
      obtain ⟨u, e1, e2, e3⟩ := tnr_of h
      exact ⟨u, e1, e2, tnr_q e3⟩)))
  have CK := hide (fun (W : World) (hb : Below W6.heap.size W6 W) => (tensorOfRowsF W6.heap.size ⟨gk, st, none⟩ (n + 1 - st) (ck - st) k.r (lastR (appR L n k) st) W hb.size (LD.out W hb).2.1 n1 (by omega) LT.out.2.1 RK.out).mono (fun e w' h => tnr_of h))
  have CV := hide (fun (W : World) (hb : Below W6.heap.size W6 W) => (tensorOfRowsF W6.heap.size ⟨gv, st', none⟩ (m + 1 - st') (cv - st') v'.r (lastR (appR M m v') st') W hb.size (LD.out W hb).2.2.1 m1 (by omega) LT.out.2.2 RV.out).mono (fun e w' h => tnr_of h))
  have EP := hide (show nxP n m L M q k v' win = attP (pt (qT q)) (pt (rowsT (n + 1 - st) k.r (lastR (appR L n k) st))) (pt (rowsT (m + 1 - st') v'.r (lastR (appR M m v') st'))) 0 by unfold nxP nk; rw [HST.out, HST'.out])
  clear hW6 b6 LK4 LV4
  refine Qf.facts2 11 (by kernel_rfl) (by kernel_rfl) (by kernel_rfl) (fun i v wx => match i with | 0 => v = .slice q.a q.r q.cap | 1 => ∃ b, One1 W6.heap.size q v wx b | 2 => TnR (qT q) v wx | 3 => v = .pointer (some ⟨w5.heap.size, 0, none⟩) | 4 => v = .slice (some ⟨gk, st, none⟩) (n + 1 - st) (ck - st) | 5 => TnR (rowsT (n + 1 - st) k.r (lastR (appR L n k) st)) v wx | 6 => v = .pointer (some ⟨w5.heap.size, 1, none⟩) | 7 => v = .slice (some ⟨gv, st', none⟩) (m + 1 - st') (cv - st') | 8 => TnR (rowsT (m + 1 - st') v'.r (lastR (appR M m v') st')) v wx | 9 => TenW W6.heap.size (nxP n m L M q k v' win) v wx | 10 => PtrZ W6.heap.size v wx | _ => True) ?stable ?steps ?rest
  case stable =>
    intro i v w1 w2 h hb
    match i, h with
    | 0, h => exact h
    | 1, h => exact ⟨h.choose, One1.below h.choose_spec hb⟩
    | 2, h => exact TnR.below h hb
    | 3, h => exact h
    | 4, h => exact h
    | 5, h => exact TnR.below h hb
    | 6, h => exact h
    | 7, h => exact h
    | 8, h => exact TnR.below h hb
    | 9, h => exact TenW.below h hb
    | 10, h => exact PtrZ.below h hb
    | _ + 11, h => exact h
  case steps =>
    intro i o hi ho s A wS hb hk hA hO
    match i, hi, ho, hk with
    | 0, _, ho, hk =>
      cases ho
      exact Qf.lands_move _ rfl _ ((hO 1 (by rfl)).trans rfl) ⟨Below.refl _ _, rfl⟩
    | 1, _, ho, hk =>
      cases ho
      have h0 := hA 0 _ 59 (by decide) rfl rfl (by simp)
      have e0 := hk 0 (by kernel_rfl)
      rw [e0] at h0
      exact Qf.lands_val _ _ (runBuildR1 rfl h0) ⟨(Below.refl _ _).alloc (Nat.le_refl _) _, _, one1_new q wS hb.size⟩
    | 2, _, ho, hk =>
      cases ho
      have h1 := hA 1 _ 60 (by decide) rfl rfl (by simp)
      obtain ⟨b, q1⟩ := hk 1 (by kernel_rfl)
      refine Qf.lands_call 28 _ _ rfl (enters_of Try.func28 (by kernel_rfl) rfl) #[s 1] (by simp [h1]) (CQ.out wS hb b _ q1)
    | 3, _, ho, hk =>
      cases ho
      exact Qf.lands_val _ _ (runFieldC0 rfl ((hO 15 (by rfl)).trans rfl)) ⟨Below.refl _ _, rfl⟩
    | 4, _, ho, hk =>
      cases ho
      have h3 := hA 3 _ 62 (by decide) rfl rfl (by simp)
      have e3 := hk 3 (by kernel_rfl)
      rw [e3] at h3
      exact Qf.lands_val _ _ (runLoadR rfl h3 (LD.out wS hb).1.1) ⟨Below.refl _ _, rfl⟩
    | 5, _, ho, hk =>
      cases ho
      have h4 := hA 4 _ 63 (by decide) rfl rfl (by simp)
      have e4 := hk 4 (by kernel_rfl)
      rw [e4] at h4
      refine Qf.lands_call 28 _ _ rfl (enters_of Try.func28 (by kernel_rfl) rfl) _ (by simp [h4]) (CK.out wS hb)
    | 6, _, ho, hk =>
      cases ho
      exact Qf.lands_val _ _ (runFieldC1 rfl ((hO 15 (by rfl)).trans rfl)) ⟨Below.refl _ _, rfl⟩
    | 7, _, ho, hk =>
      cases ho
      have h6 := hA 6 _ 65 (by decide) rfl rfl (by simp)
      have e6 := hk 6 (by kernel_rfl)
      rw [e6] at h6
      exact Qf.lands_val _ _ (runLoadR rfl h6 (LD.out wS hb).1.2) ⟨Below.refl _ _, rfl⟩
    | 8, _, ho, hk =>
      cases ho
      have h7 := hA 7 _ 66 (by decide) rfl rfl (by simp)
      have e7 := hk 7 (by kernel_rfl)
      rw [e7] at h7
      refine Qf.lands_call 28 _ _ rfl (enters_of Try.func28 (by kernel_rfl) rfl) _ (by simp [h7]) (CV.out wS hb)
    | 9, _, ho, hk =>
      cases ho
      have h2 := hA 2 _ 61 (by decide) rfl rfl (by simp)
      have h5 := hA 5 _ 64 (by decide) rfl rfl (by simp)
      have h8 := hA 8 _ 67 (by decide) rfl rfl (by simp)
      have q2 := hk 2 (by kernel_rfl)
      have q5 := hk 5 (by kernel_rfl)
      have q8 := hk 8 (by kernel_rfl)
      refine Qf.lands_call 27 _ _ rfl (enters_of Try.func27 (by kernel_rfl) rfl) #[s 2, s 5, s 8, .int .i64 0] (by simp only [List.map_toArray, List.map_cons, List.map_nil, h2, h5, h8]; rfl) ((attR _ _ _ _ _ _ wS q2 q5 q8 (qT_le _) (rowsT_le _ _ _) (rowsT_le _ _ _)).mono ?_)
      rintro e wT ⟨u, rfl, bT, ta, tb, tc, td, hu, vo⟩
      rw [← EP.out] at vo hu
      exact ⟨u, rfl, bT, ta, tb, tc, td, hu, vo.mono hb.size⟩
    | 10, _, ho, hk =>
      cases ho
      exact Qf.lands_val _ _ (runAllocT rfl) (ptrZ_new _ wS hb.size)
    | _ + 11, hi, _, _ => exact absurd hi (by omega)
  case rest =>
  intro s WC hbS hk
  obtain ⟨ta, tb, tc, td, e9, qs⟩ := hk 9 (by decide)
  obtain ⟨p, e10, lP, hP, bz, fz⟩ := hk 10 (by decide)
  have LF := hide (left_set2 (tc := tc) (td := td) qs hbS bz lP hP)
  simp only [List.take_succ_cons, List.take_zero, List.drop_succ_cons, List.drop_zero, Qf.lay, Qf.all1, if_true, e9, e10]
  simp only [Act.put, List.setIfInBounds_toArray, List.set_cons_succ, List.set_cons_zero]
  clear hk qs hbS e9 e10 CQ CK CV EP
  obtain ⟨zz0, zz1⟩ := bz
  unfold Free at fz
  have TS := hide (attP_le (pt (qT q)) (pt (rowsT (nk n win) k.r (lastR (appR L n k) (stN (n + 1) win)))) (pt (rowsT (nk m win) v'.r (lastR (appR M m v') (stN (m + 1) win)))) 0)
  obtain ⟨T, hT⟩ : ∃ T, nxP n m L M q k v' win = T := ⟨_, rfl⟩
  have HT := hide hT
  rw [show attP (pt (qT q)) (pt (rowsT (nk n win) k.r (lastR (appR L n k) (stN (n + 1) win)))) (pt (rowsT (nk m win) v'.r (lastR (appR M m v') (stN (m + 1) win)))) 0 = T from hT] at TS
  rw [hT] at LF ⊢
  clear hT
  obtain ⟨WX, hWX⟩ : ∃ X, (WC.setCell ⟨p, 0, none⟩ (.slice ta T.r tc)).setCell ⟨p, 1, none⟩ (.slice tb T.s td) = X := ⟨_, rfl⟩
  have HWX := hide hWX
  rw [hWX] at LF
  have yx : Bx WX p (.slice ta T.r tc) (.slice tb T.s td) := LF.out.2.1
  obtain ⟨u0, u1⟩ := yx
  rw [← hWX] at u0 u1
  clear hWX
  have CT := hide (tensorOk WX.heap.size ta tb T.r T.s tc td T.D T.S WX (Nat.le_refl _) LF.out.2.2.1.d.ints LF.out.2.2.1.t.ints (by have := TS.out.1; omega) (by have := TS.out.2; omega))
  go_wp2_with fail
  rw [HWX.out]
  refine CT.out.mono ?_
  rintro e w8 ⟨rfl, b8⟩
  clear CT u0 u1 zz0 zz1 fz
  have z8 := b8.size
  have BX := hide (LF.out.2.2.2)
  have zX := BX.out.size
  have B8 := hide (show Below W6.heap.size W6 w8 from BX.out.trans (b8.mono BX.out.size))
  have P8 := hide (show Bx w8 p (.slice ta T.r tc) (.slice tb T.s td) from LF.out.2.1.below b8 LF.out.1)
  have O8 := hide (show VOwn W6.heap.size w8 ta tb T.r T.s T.D T.S from LF.out.2.2.1.below b8)
  have p8 : p < w8.heap.size := by have := LF.out.1; omega
  clear b8 LF
  cases ht : tok T.r T.s T.D T.S with
  | false =>
    have NN := hide (show ¬ NxOk n m L M q k v' win from fun c => by have := c.2; rw [HT.out, ht] at this; cases this)
    have B08 := hide (LD.out w8 B8.out).2.2.2.2
    have BW := hide (ALL.out w8 B08.out).2.2.2.2.2
    obtain ⟨⟨y0, y1⟩, gg⟩ := NOX.out w8 B08.out
    clear ht
    go_wp2_with fail
    refine bodyPost_ret (v := .tuple #[.agg #[.slice none 0 0, .slice none 0 0], .slice (some ⟨w8.heap.size, 0, none⟩) 0 0, .bool false]) (by simp [results, Try.results8, go_sem, y0, y1]) rfl ?_
    refine NO.out NN.out _ _ ?_
    repeat (refine Below.setCell ?_ (by simp) _)
    exact BW.out.alloc BW.out.size _
  | true =>
  have YES := hide (show NxOk n m L M q k v' win from ⟨⟨HC.out, ⟨hw0, hw1⟩, HA.out, HA'.out⟩, by rw [HT.out]; exact ht⟩)
  clear ht
  have LE := hide (fun (W : World) (hb : Below w8.heap.size w8 W) => (show Bx W w5.heap.size (.slice (some ⟨gk, st, none⟩) (n + 1 - st) (ck - st)) (.slice (some ⟨gv, st', none⟩) (m + 1 - st') (cv - st')) ∧ W.cell? ⟨p, 1, none⟩ = some (.slice tb T.s td) from ⟨(LD.out W (B8.out.trans (hb.mono B8.out.size))).1, (P8.out.below hb p8).2⟩))
  have R1 := hide (show ∀ i, i < n + 1 - st → 1 ≤ (lastR (appR L n k) st i).r from fun i hi => by
    have := (HA.out (st + i) (by omega)).2
    unfold rowB at this
    simp only [Bool.and_eq_true, decide_eq_true_eq] at this
    exact this.1.1)
  have R2 := hide (show ∀ i, i < m + 1 - st' → 1 ≤ (lastR (appR M m v') st' i).r from fun i hi => by
    have := (HA'.out (st' + i) (by omega)).2
    unfold rowB at this
    simp only [Bool.and_eq_true, decide_eq_true_eq] at this
    exact this.1.1)
  have CP := hide (fun (W : World) (hb : Below w8.heap.size w8 W) => copiedF W6.heap.size (some ⟨gk, st, none⟩) (some ⟨gv, st', none⟩) (n + 1 - st) (m + 1 - st') (ck - st) (cv - st') (lastR (appR L n k) st) (lastR (appR M m v') st') W (Nat.le_trans B8.out.size hb.size) (LD.out W (B8.out.trans (hb.mono B8.out.size))).2.1 (LD.out W (B8.out.trans (hb.mono B8.out.size))).2.2.1 R1.out R2.out (fun i hi => LA.out (st + i) (by omega)) (fun i hi => LB.out (st' + i) (by omega)) (by omega) (by omega))
  have F0 := hide (fun (W : World) (hb : Below w8.heap.size w8 W) => (show Bx W (w.heap.size + 1) (.slice none 0 0) (.slice none 0 0) ∧ Free W (w.heap.size + 1) from (ALL.out W (LD.out W (B8.out.trans (hb.mono B8.out.size))).2.2.2.2).1.2))
  have bb0 := hide (show Below w8.heap.size w8 w8.drew from (Below.refl _ _).drew)
  have TW := hide (fun (W W' : World) (h1 : Below w8.heap.size w8 W) (h2 : Below W.heap.size W W') => (show Below w8.heap.size w8 W' from h1.trans (h2.mono h1.size)))
  have z5 : w.heap.size + 2 ≤ w5.heap.size := by have := B4.out.size; omega
  have SE := hide (show ∀ (W : World) (i j : Nat) (u : Value), (W.setCell ⟨w.heap.size + 1, i, none⟩ u).cell? ⟨w5.heap.size, j, none⟩ = W.cell? ⟨w5.heap.size, j, none⟩ from fun W i j u => World.cell?_setCell_other _ _ _ _ (by intro e; injection e with e _ _; omega))
  have SF := hide (show ∀ (W : World) (i j : Nat) (u : Value), (W.setCell ⟨w.heap.size + 1, i, none⟩ u).cell? ⟨p, j, none⟩ = W.cell? ⟨p, j, none⟩ from fun W i j u => World.cell?_setCell_other _ _ _ _ (by intro e; injection e with e _ _; omega))
  obtain ⟨⟨x0, x1⟩, u1⟩ := LE.out w8 (Below.refl _ _)
  obtain ⟨⟨y0, y1⟩, gg⟩ := F0.out w8 (Below.refl _ _)
  unfold Free at gg
  go_wp2_with fail
  go_region_held3 (fun w' => w'.cell? ⟨w5.heap.size, 0, none⟩ = some (.slice (some ⟨gk, st, none⟩) (n + 1 - st) (ck - st)) ∧ w'.cell? ⟨w5.heap.size, 1, none⟩ = some (.slice (some ⟨gv, st', none⟩) (m + 1 - st') (cv - st')) ∧ w'.cell? ⟨p, 1, none⟩ = some (.slice tb T.s td))
    ((try dsimp only) <;> (repeat' apply And.intro) <;> (first | with_reducible assumption | assumption | (rw [SE.out, SE.out]; assumption) | (rw [SF.out, SF.out]; assumption)))
    (first
    | (go_at_call 30
       refine (CP.out _ bb0.out).mono ?_
       rintro e w9 ⟨g1, g2, M1, M2, rfl, co, l1, l2, b9⟩
       have bb1 := hide (TW.out _ _ bb0.out b9)
       obtain ⟨⟨x0', x1'⟩, u1'⟩ := LE.out _ bb1.out
       obtain ⟨⟨y0', y1'⟩, gg'⟩ := F0.out _ bb1.out
       unfold Free at gg'))
  have hg1 : w8.heap.size ≤ g1 := co.1
  have CO := hide co
  have L1 := hide l1
  have L2 := hide l2
  have BW := hide (ALL.out w9 (LD.out w9 (B8.out.trans (bb1.out.mono B8.out.size))).2.2.2.2).2.2.2.2.2
  have O9 := hide (O8.out.below bb1.out)
  have z9 := bb1.out.size
  clear co l1 l2 b9 CP LE F0 TW SE SF ALL NOX NO LD
  go_wp2_with fail
  refine bodyPost_ret (v := .tuple #[.agg #[.slice (some ⟨g1, 0, none⟩) (n + 1 - st) (n + 1 - st), .slice (some ⟨g2, 0, none⟩) (m + 1 - st') (m + 1 - st')], .slice tb T.s td, .bool true]) (by simp [results, Try.results8, go_sem, y0', y1']) rfl ?_
  refine .inl ⟨YES.out, ?_⟩
  have k2 := kept_sets2 w9 (w.heap.size + 1) (.slice (some ⟨g1, 0, none⟩) (n + 1 - st) (n + 1 - st)) (.slice (some ⟨g2, 0, none⟩) (m + 1 - st') (m + 1 - st'))
  have ov := O9.out.kept k2 (fun b hb e => by have := (O9.out.blk hb).1; have e : b = w.heap.size + 1 := e; omega)
  have g12 := CO.out.2.1
  unfold NxY nk
  rw [HST.out, HST'.out, HT.out]
  refine ⟨g1, g2, M1, M2, tb, td, w8.heap.size, rfl, by omega, ⟨CO.out.1, CO.out.2.1, (CO.out.2.2.1.set _ (by omega)).set _ (by omega), (CO.out.2.2.2.1.set _ (by omega)).set _ (by omega), CO.out.2.2.2.2⟩, L1.out, L2.out, ov.t.mono (by omega), fun b hb => (O8.out.t.blk hb).2, ?_⟩
  exact (BW.out.setCell (p := ⟨w.heap.size + 1, 0, none⟩) (by show w.heap.size ≤ w.heap.size + 1; omega) _).setCell (p := ⟨w.heap.size + 1, 1, none⟩) (by show w.heap.size ≤ w.heap.size + 1; omega) _
end Vo
end Go.Proofs.Ytjlmbeachanlfaa

/- Rows of a cache as a tensor, on the model's side. -/
namespace Go.Proofs.Ytjlmbeachanlfaa
namespace Vo
open Go.ChangeShapes Go.WideShapes Go.ChangeAt Go.RowKit Go.Joins Go.Sort
open Vl Vp
set_option linter.unusedVariables false
set_option linter.unusedSimpArgs false
theorem bx_one {w : World} {p : Nat} {v0 v1 : Value} (h : Bx w p v0 v1) (u1 : Value) : Bx (w.setCell ⟨p, 1, none⟩ u1) p v0 u1 := by
  obtain ⟨h0, h1⟩ := h
  exact ⟨by simp [go_sem, h0], by simp [go_sem, h1]⟩
theorem ints_row {r k : Nat} {L : Nat → LV} (hr : 1 ≤ r) : ints (k * r) (rowsS r L) ++ ints r (L k).D = ints (k * r + r) (rowsS r L) := by
  refine ints_join (fun j _ => rfl) (fun j hj => ?_)
  unfold rowsS
  have d1 : (k * r + j) / r = k := by rw [Nat.add_comm, Nat.add_mul_div_right _ _ (by omega), Nat.div_eq_of_lt hj]; omega
  have d2 : (k * r + j) % r = j := by rw [Nat.add_comm, Nat.add_mul_mod_self_right, Nat.mod_eq_of_lt hj]
  rw [d1, d2]
set_option maxRecDepth 100000 in
set_option maxHeartbeats 1000000 in
theorem stackF (B : Nat) (ad : Addr) (n c r : Nat) (L : Nat → LV) (w : World) (hB : B ≤ w.heap.size) (h : LL B w (some ad) n L) (hn : 1 ≤ n) (ln : n ≤ 4096) (hr1 : 1 ≤ r) (hr2 : r ≤ 4096) (hr : ∀ i, i < n → (L i).r = r) :
    Calls Try.prog 21 #[.slice (some ad) n c] w fun e w' => TensD w.heap.size ⟨2, n * r, two n r, rowsS r L⟩ w e w' := by
  obtain ⟨i0, hi0, hz0, hz1, hz2⟩ := info_parts infoInt
  have H := hide h
  have HR := hide hr
  rcases h with q | ⟨blk, off, e, hb, hc⟩
  · omega
  cases e
  have c1 := (hc 0 (by omega)).1
  rw [hr 0 (by omega)] at c1
  obtain ⟨W0, hW0⟩ : ∃ W0, ((w.alloc (.cells #[.slice none 0 0, .slice none 0 0] 43)).alloc (.cells #[.int .i64 (n : Int), .int .i64 (r : Int)] 3)).alloc (.cells #[.slice (some ⟨w.heap.size + 1, 0, none⟩) 2 2, .slice none 0 0] 43) = W0 := ⟨_, rfl⟩
  have b0 : Below w.heap.size w W0 := by rw [← hW0]; exact (((Below.refl _ _).alloc (Nat.le_refl _) _).alloc (by simp) _).alloc (by simp; omega) _
  have z0 : w.heap.size + 3 ≤ W0.heap.size := by rw [← hW0]; simp
  have M0 := hide (show Bx W0 w.heap.size (.slice none 0 0) (.slice none 0 0) by rw [← hW0]; exact (bx_new w _ _ _).below (((Below.refl _ _).alloc (Nat.le_refl _) _).alloc (by simp) _) (by simp))
  have G0 := hide (show Free W0 w.heap.size by rw [← hW0]; intro i; simp [go_sem])
  have T0 := hide (show Bx W0 (w.heap.size + 1 + 1) (.slice (some ⟨w.heap.size + 1, 0, none⟩) 2 2) (.slice none 0 0) by rw [← hW0]; exact ⟨by simp [go_sem], by simp [go_sem]⟩)
  have F0 := hide (show Free W0 (w.heap.size + 1 + 1) by rw [← hW0]; intro i; simp [go_sem])
  have R0 := hide (show Rw W0 (w.heap.size + 1) 2 (two n r) by
    rw [← hW0]
    intro t ht
    refine ⟨?_, by simp [go_sem], ?_⟩
    · match t, ht with
      | 0, _ => simp [go_sem, two]
      | 1, _ => simp [go_sem, two]
    · unfold two bd; split <;> omega)
  have B0 := hide b0
  have H0 := hide hW0
  clear b0 hW0
  have c1' : (w.alloc (.cells #[.slice none 0 0, .slice none 0 0] 43)).cell? ⟨blk, off, none⟩ = some (.slice (L 0).a r (L 0).cap) := (((Below.refl w.heap.size w).alloc (Nat.le_refl _) _).cell (p := ⟨blk, off, none⟩) (by show blk < w.heap.size; omega)).trans (by simpa using c1)
  have nI : (0 : Int) < (n : Int) := by omega
  clear hc c1 hr
  generalize (L 0).a = la at c1'
  generalize (L 0).cap = lc at c1'
  go_enter Try.func21, Try.ntmps21
  go_wp2_with fail
  rw [H0.out]
  clear c1' H0
  go_loopw [4] (fun i wx => ∃ (k : Nat) (vb : Value), k ≤ n ∧ i = .int .i64 (k : Int) ∧ RowV W0.heap.size wx vb (k * r) (rowsS r L) ∧ Bx wx (w.heap.size + 1 + 1) (.slice (some ⟨w.heap.size + 1, 0, none⟩) 2 2) vb ∧ Free wx (w.heap.size + 1 + 1) ∧ Kept (· = w.heap.size + 1 + 1) W0 wx) (fun i _ => n - (intOf i).toNat)
  case atStart => exact ⟨0, _, Nat.zero_le _, rfl, ⟨by rw [Nat.zero_mul]; exact World.ownsRow_nil _ _ _ _, fun j hj => by omega⟩, T0.out, F0.out, Kept.refl _ _⟩
  case round =>
    obtain ⟨k, vb, hk, rfl, hrb, hbx, hfr, hkp⟩ := hrel
    have RB := hide hrb
    have XX := hide hbx
    have FX := hide hfr
    have HKP := hide hkp
    have ls : W0.heap.size ≤ wr.heap.size := hkp.size
    obtain ⟨ob, oc, rfl, _⟩ := hrb.own
    have ROOM := hide (own_room hrb.1)
    clear hrb hbx hfr hkp
    obtain ⟨u0, u1⟩ := XX.out
    have fx := FX.out
    unfold Free at fx
    by_cases hlt : k < n
    · have kI : (k : Int) < (n : Int) := by omega
      have EQ := hide (show (k + 1) * r = k * r + r from Nat.succ_mul k r)
      have m1 : k * r + r ≤ 16777216 := by
        have : (k + 1) * r ≤ 4096 * 4096 := Nat.mul_le_mul (by omega) hr2
        rw [Nat.succ_mul] at this
        omega
      have E2 := hide (ints_row (k := k) (L := L) hr1)
      have BX := hide (B0.out.trans (HKP.out.below B0.out.size (fun j e => by have e : j = w.heap.size + 1 + 1 := e; omega)))
      rcases (H.out.below (BX.out.mono hB)) with q | ⟨blk', off', e, hb', hc⟩
      · omega
      cases e
      have c1 := (hc k hlt).1
      have hL := (hc k hlt).2
      rw [HR.out k hlt] at c1 hL
      have BD := hide (fun j (hj : j < r) => hL.bd j hj)
      rcases hL with q | ⟨rb, ro, hra, hrb, hrc⟩
      · omega
      rw [hra] at c1
      have NEWS := hide (show ∀ (w' : World), w'.heap = wr.heap → ∀ j u, (ints r (L k).D)[j]? = some u → w'.cell? ((⟨rb, ro, none⟩ : Addr).add j) = some u from fun w' hw' j u hu => by
        by_cases hj : j < r
        · have := (hrc j hj).1
          have ea : (⟨rb, ro, none⟩ : Addr).add j = ⟨rb, ro + j, none⟩ := by unfold Addr.add; split <;> simp_all
          rw [ea]
          have e2 : w'.cell? ⟨rb, ro + j, none⟩ = wr.cell? ⟨rb, ro + j, none⟩ := World.cell?_of_block (w := wr) (a := ⟨rb, ro + j, none⟩) (by rw [hw'])
          rw [e2, this]
          simpa [ints, hj] using hu
        · rw [List.getElem?_eq_none (by simp [ints]; omega)] at hu; cases hu)
      have LEN := hide (show (ints r (L k).D).length = r * 1 by simp [ints])
      have ONE := hide (intsOne r (L k).D)
      have BD2 := hide (show ∀ j, j < k * r + r → bd (rowsS r L j) from fun j hj => by
        by_cases e : j < k * r
        · exact RB.out.2 j e
        · have d1 : j = k * r + (j - k * r) := by omega
          have d3 : j - k * r < r := by omega
          rw [d1]
          unfold rowsS
          have d1 : (k * r + (j - k * r)) / r = k := by rw [Nat.add_comm, Nat.add_mul_div_right _ _ (by omega), Nat.div_eq_of_lt d3]; omega
          have d2 : (k * r + (j - k * r)) % r = j - k * r := by rw [Nat.add_comm, Nat.add_mul_mod_self_right, Nat.mod_eq_of_lt d3]
          rw [d1, d2]
          exact BD.out _ d3)
      clear hc hrc hra
      generalize ints r (L k).D = news at *
      generalize (L k).cap = lc at c1
      have zP : w.heap.size + 1 + 1 < wr.heap.size := by omega
      obtain ⟨m, hm⟩ : ∃ m, k * r = m := ⟨_, rfl⟩
      rw [hm] at EQ m1 E2 BD2 RB
      have HM := hide hm
      rw [hm] at u1 XX
      clear hm
      have nbl := hide (show ¬ (Value.slice ob m oc).ownBlock = some (w.heap.size + 1 + 1) from fun hj => by have := (RB.out.lt hj).1; omega)
      go_wp2_with fail
      go_region_law (first
          | (refine step_append_lies _ (by rfl) _ _ _ (by rfl) W0.heap.size 3 i0 _ 1 8 Try.underlying25 hi0 hz0 hz1 hz2 rfl (by omega) (.slice ob m oc) m (ints m (rowsS r L)) (by rfl) (RB.out.1.drew)
                ⟨rb, ro, none⟩ r lc news (by rfl) LEN.out (NEWS.out _ rfl) ONE.out
                (by omega) (by unfold maxLen; omega) (by omega) (by simp; omega) wr.heap.size (by simp) ?_
             intro g' c'' w5 hown3 hgrow hat hlt3
             have KA : Kept (fun j => (Value.slice ob m oc).ownBlock = some j) wr w5 := (Kept.of_below ((Below.refl _ wr).drew)).trans ⟨hgrow.os, hgrow.tape, hgrow.output, hgrow.size, fun j hj hn => hgrow.block j hj (fun q => hn q.symm)⟩
             have e1 : ∀ i, w5.cell? ⟨w.heap.size + 1 + 1, i, none⟩ = wr.cell? ⟨w.heap.size + 1 + 1, i, none⟩ := fun i => World.cell?_of_block (w := wr) (a := ⟨w.heap.size + 1 + 1, i, none⟩) (KA.block (w.heap.size + 1 + 1) zP (fun q => nbl.out q))
             have e2 : ∀ i, w5.frozen? ⟨w.heap.size + 1 + 1, i, none⟩ = wr.frozen? ⟨w.heap.size + 1 + 1, i, none⟩ := fun i => World.frozen?_of_block (w := wr) (a := ⟨w.heap.size + 1 + 1, i, none⟩) (KA.block (w.heap.size + 1 + 1) zP (fun q => nbl.out q))))
      all_goals (go_wp2_with fail)
      all_goals go_roundw
      all_goals first
          | (simp [intOf]; omega)
          | (have ks := Kept.setCell w5 ⟨w.heap.size + 1 + 1, 1, none⟩ (.slice (some ⟨g', 0, none⟩) (m + r) c'')
             have RB3 : RowV W0.heap.size w5 (.slice (some ⟨g', 0, none⟩) (m + r) c'') (m + r) (rowsS r L) := ⟨by rw [← E2.out]; exact hown3, BD2.out⟩
             have X3 := XX.out.kept KA zP (fun q => nbl.out q)
             have F3 := FX.out.kept KA zP (fun q => nbl.out q)
             exact ⟨k + 1, _, by omega, by go_num, by rw [EQ.out]; exact RB3.kept ks (fun j q q' => by have := (RB3.lt q).1; have e : j = w.heap.size + 1 + 1 := q'; omega), bx_one X3 _, F3.set _ _, (Kept.then HKP.out KA (fun j q => .inl (RB.out.lt q).1)).trans ks⟩)
    · have e : k = n := by omega
      subst e
      have kI : decide ((k : Int) < (k : Int)) = false := decide_eq_false (by omega)
      have kp := HKP.out
      have M5 := hide (M0.out.kept kp (by omega) (show ¬ w.heap.size = w.heap.size + 1 + 1 by omega))
      have G5 := hide (G0.out.kept kp (by omega) (show ¬ w.heap.size = w.heap.size + 1 + 1 by omega))
      have R5 := hide (R0.out.kept kp (show ¬ w.heap.size + 1 = w.heap.size + 1 + 1 by omega))
      have B5 := hide (B0.out.trans (kp.below B0.out.size (fun j e => by have e : j = w.heap.size + 1 + 1 := e; omega)))
      clear kp
      obtain ⟨y0, y1⟩ := M5.out
      have gg := G5.out
      unfold Free at gg
      obtain ⟨m, hm⟩ : ∃ m, k * r = m := ⟨_, rfl⟩
      have HM := hide hm
      rw [hm] at u1 XX RB ROOM
      clear hm
      go_wp2_with fail
      refine bodyPost_ret (v := .agg #[.slice (some ⟨w.heap.size + 1, 0, none⟩) 2 2, .slice ob m oc]) (by simp [results, Try.results21, go_sem, y0, y1]) rfl ?_
      have ks := (Kept.setCell wr ⟨w.heap.size, 0, none⟩ (.slice (some ⟨w.heap.size + 1, 0, none⟩) 2 2)).trans (Kept.setCell _ ⟨w.heap.size, 1, none⟩ (.slice ob m oc))
      have RV2 := RB.out.kept ks (fun b hb e => by have := (RB.out.lt hb).1; have e : b = w.heap.size := e; omega)
      obtain ⟨xa, xc, q1, o1⟩ := RV2.own
      cases q1
      obtain ⟨ra, rc, q2, rm⟩ := ROOM.out
      cases q2
      rw [HM.out]
      refine ⟨_, _, 2, oc, rfl, ⟨.inr ⟨w.heap.size + 1, rfl, by omega, R5.out.kept ks (by show ¬ w.heap.size + 1 = w.heap.size; omega)⟩, o1.mono (by omega), fun k q q' => ?_⟩, Nat.le_refl _, rm, (B5.out.setCell (p := ⟨w.heap.size, 0, none⟩) (Nat.le_refl _) _).setCell (p := ⟨w.heap.size, 1, none⟩) (Nat.le_refl _) _⟩
      obtain ⟨_, ad1, e1, e2⟩ := q
      cases e1
      have e2 : w.heap.size + 1 = k := e2
      have := (o1.blk q').1
      omega
end Vo
end Go.Proofs.Ytjlmbeachanlfaa
