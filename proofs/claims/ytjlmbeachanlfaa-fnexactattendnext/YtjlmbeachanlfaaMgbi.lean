/- Lemmas for the proof of the law. -/
import Derived.Test.YtjlmbeachanlfaaMgbh
/- AttendNext of the model. -/
namespace Go.Proofs.Ytjlmbeachanlfaa
namespace Vo
open Go.ChangeShapes Go.WideShapes Go.ChangeAt Go.RowKit Go.Joins Go.Sort
open Vl Vp Vr
set_option linter.unusedVariables false
set_option linter.unusedSimpArgs false
/-- rows as a tensor, whatever their number -/
def rowsU (n r : Nat) (L : Nat → LV) : PT := ⟨2, n * r, two n r, rowsS r L⟩
def SxA (n m : Nat) (L M : Nat → LV) (q k v : LV) (win : Int) : Prop :=
  cacheB n m L M = true ∧ rowB q.r q.D = true ∧ rowB k.r k.D = true ∧ rowB v.r v.D = true ∧ q.r = k.r ∧ (0 ≤ win ∧ win ≤ 4096) ∧
    cacheB (nk n win) (nk m win) (lastR (appR L n k) (stN (n + 1) win)) (lastR (appR M m v) (stN (m + 1) win)) = true ∧ (0 < n → (L 0).r = k.r ∧ (M 0).r = v.r)
def sxP (n m : Nat) (L M : Nat → LV) (q k v : LV) (win : Int) : PT :=
  attP (pt ⟨2, q.r, two 1 q.r, q.D⟩) (pt (rowsU (nk n win) k.r (lastR (appR L n k) (stN (n + 1) win)))) (pt (rowsU (nk m win) v.r (lastR (appR M m v) (stN (m + 1) win)))) win
def SxOk (n m : Nat) (L M : Nat → LV) (q k v : LV) (win : Int) : Prop := SxA n m L M q k v win ∧ (sxP n m L M q k v win).s ≠ 0
def SxY (n m : Nat) (L M : Nat → LV) (q k v : LV) (win : Int) (w : World) (e : Ending) (w' : World) : Prop :=
  ∃ a1 c1 a2 c2 M1 M2 da dc, e = .returned (.tuple #[.agg #[.slice (some a1) (nk n win) c1, .slice (some a2) (nk m win) c2], .slice da (sxP n m L M q k v win).s dc, .bool true]) ∧ LL w'.heap.size w' (some a1) (nk n win) M1 ∧ LL w'.heap.size w' (some a2) (nk m win) M2 ∧
    LSame (nk n win) (lastR (appR L n k) (stN (n + 1) win)) M1 ∧ LSame (nk m win) (lastR (appR M m v) (stN (m + 1) win)) M2 ∧ Ints w'.heap.size w' da (sxP n m L M q k v win).s (sxP n m L M q k v win).S ∧ Below w.heap.size w w'
def SxR (n m : Nat) (L M : Nat → LV) (q k v : LV) (win : Int) (w : World) (e : Ending) (w' : World) : Prop :=
  (SxOk n m L M q k v win ∧ SxY n m L M q k v win w e w') ∨ (¬ SxOk n m L M q k v win ∧ NxN w e w')
/-- rows that were put behind -/
def BehR (n st : Nat) (K : Nat → LV) (v : Value) (w : World) : Prop := ∃ g c M, v = .slice (some ⟨g, st, none⟩) n c ∧ LL w.heap.size w (some ⟨g, st, none⟩) n M ∧ LSame n K M
theorem BehR.below {n st : Nat} {K : Nat → LV} {v : Value} {w w' : World} (h : BehR n st K v w) (hb : Below w.heap.size w w') : BehR n st K v w' := by
  obtain ⟨g, c, M, e, l, s⟩ := h
  exact ⟨g, c, M, e, (l.below hb).mono hb.size, s⟩
/-- a variable that was laid for a cache -/
def PtrC (B : Nat) (v : Value) (w : World) : Prop := ∃ p, v = .pointer (some ⟨p, 0, none⟩) ∧ B ≤ p ∧ p < w.heap.size ∧ w.heap[p]? = some (.cells #[.slice none 0 0, .slice none 0 0] 27 (0, 0)) ∧ Bx w p (.slice none 0 0) (.slice none 0 0) ∧ Free w p
theorem PtrC.below {B : Nat} {v : Value} {w w' : World} (h : PtrC B v w) (hb : Below w.heap.size w w') : PtrC B v w' := by
  obtain ⟨p, e, h1, h2, h3, h4, h5⟩ := h
  exact ⟨p, e, h1, Nat.lt_of_lt_of_le h2 hb.size, (hb.block p h2).trans h3, h4.below hb h2, h5.below hb h2⟩
theorem ll_set2 {B p n : Nat} {w : World} {a : Option Addr} {M : Nat → LV} (h : LL B w a n M) (hB : B ≤ w.heap.size) (hr : ∀ i, i < n → 1 ≤ (M i).r) (hp : w.heap[p]? = some (.cells #[.slice none 0 0, .slice none 0 0] 27 (0, 0))) (u0 u1 : Value) :
    LL B ((w.setCell ⟨p, 0, none⟩ u0).setCell ⟨p, 1, none⟩ u1) a n M := by
  have hk := kept_sets2 w p u0 u1
  have cp : ∀ j u, w.cell? ⟨p, j, none⟩ = some u → u = .slice none 0 0 := fun j u hu => by
    rw [cell_of_row w p j _ _ _ hp] at hu
    match j, hu with
    | 0, hu => simpa using hu.symm
    | 1, hu => simpa using hu.symm
    | j + 2, hu => simp at hu
  rcases h with h | ⟨blk, off, rfl, hb, hc⟩
  · exact .inl h
  · refine .inr ⟨blk, off, rfl, hb, fun i hi => ⟨?_, ?_⟩⟩
    · have h1 := (hc i hi).1
      have ne : ¬ blk = p := fun e => by
        rw [e] at h1
        have := cp _ _ h1
        injection this with _ q _
        have := hr i hi
        omega
      exact (World.cell?_of_block (w := w) (a := ⟨blk, off + i, none⟩) (hk.block blk (by omega) ne)).trans h1
    · rcases (hc i hi).2 with q | ⟨b, o, ha, hb', hcc⟩
      · exact .inl q
      · refine .inr ⟨b, o, ha, hb', fun j hj => ?_⟩
        have h1 := (hcc j hj).1
        have ne : ¬ b = p := fun e => by
          rw [e] at h1
          have := cp _ _ h1
          cases this
        exact ⟨(World.cell?_of_block (w := w) (a := ⟨b, o + j, none⟩) (hk.block b (by omega) ne)).trans h1, (hcc j hj).2⟩
section
variable {o : Oper} {A : Act} {w : World} {x y : Operand} {b f : Nat} {v0 v1 : Value}
theorem runBuildC {a a' : Option Addr} {r c r' c' : Nat} (ho : o.op = .build 27 #[(0, x), (1, y)]) (hx : A.eval x = .slice a r c) (hy : A.eval y = .slice a' r' c') : (execOp A.eval o).run Try.prog w = .ok (.value (.agg #[.slice a r c, .slice a' r' c'])) w := by
  unfold execOp
  rw [ho]
  simp only [List.map_toArray, List.map_cons, List.map_nil, hx, hy]
  go_simp
theorem runAllocC (ho : o.op = .alloc 27) : (execOp A.eval o).run Try.prog w = .ok (.value (.pointer (some ⟨w.heap.size, 0, none⟩))) (w.alloc (.cells #[.slice none 0 0, .slice none 0 0] 27)) := by
  unfold execOp
  rw [ho]
  go_simp
end
theorem ptrC_new (B : Nat) (w : World) (hB : B ≤ w.heap.size) : Below w.heap.size w (w.alloc (.cells #[.slice none 0 0, .slice none 0 0] 27)) ∧ PtrC B (.pointer (some ⟨w.heap.size, 0, none⟩)) (w.alloc (.cells #[.slice none 0 0, .slice none 0 0] 27)) :=
  ⟨(Below.refl _ _).alloc (Nat.le_refl _) _, _, rfl, hB, by simp, heap_alloc_new w _, bx_new w _ _ _, free_new w #[.slice none 0 0, .slice none 0 0] 27⟩
/-- the two lengths of one row -/
def Dm2 (r : Nat) (v : Value) (w : World) : Prop := ∃ b, v = .slice (some ⟨b, 0, none⟩) 2 2 ∧ Ints w.heap.size w (some ⟨b, 0, none⟩) 2 (two 1 r)
theorem Dm2.below {r : Nat} {v : Value} {w w' : World} (h : Dm2 r v w) (hb : Below w.heap.size w w') : Dm2 r v w' := by
  obtain ⟨b, e, h1⟩ := h
  exact ⟨b, e, (h1.below hb).mono hb.size⟩
theorem dm2_new (r : Nat) (w : World) (hr : (r : Int) ≤ 1048576) : Dm2 r (.slice (some ⟨w.heap.size, 0, none⟩) 2 2) (w.alloc (.cells #[.int .i64 1, .int .i64 (r : Int)] 3)) := by
  have R0 : Rw (w.alloc (.cells #[.int .i64 1, .int .i64 (r : Int)] 3)) w.heap.size 2 (two 1 r) := by
    intro t ht
    refine ⟨?_, by simp [go_sem], ?_⟩
    · match t, ht with
      | 0, _ => simp [go_sem, two]
      | 1, _ => simp [go_sem, two]
    · unfold two bd; split <;> omega
  exact ⟨_, rfl, R0.ints (by simp)⟩
theorem tnr_rows {N r : Nat} {K M1 : Nat → LV} {u : Value} {w : World} (h : TnR ⟨2, N * r, two N r, rowsS r M1⟩ u w) (hs : LSame N K M1) (hr : 1 ≤ r) : TnR (rowsU N r K) u w := by
  obtain ⟨a, b, c, d, e, h1, h2, h3, h4⟩ := h
  refine ⟨a, b, c, d, e, h1, h2, h3, ?_⟩
  rcases h4 with q | ⟨bb, o, ha, hb, hc⟩
  · exact .inl q
  · refine .inr ⟨bb, o, ha, hb, fun j hj => ?_⟩
    have q1 : j / r < N := Nat.div_lt_of_lt_mul (by rw [Nat.mul_comm]; exact hj)
    have es : rowsS r K j = rowsS r M1 j := by unfold rowsS; rw [(hs _ q1).2]
    show w.cell? ⟨bb, o + j, none⟩ = some (Value.int .i64 (rowsS r K j)) ∧ bd (rowsS r K j)
    rw [es]
    exact hc j hj
section
variable {o : Oper} {A : Act} {w : World} {x y : Operand} {b f : Nat} {v0 v1 : Value} {a a' : Option Addr} {r c r' c' : Nat}
theorem runLenI (ho : o.op = .call { callee := .builtin .len, args := #[x], argTypes := #[25] }) (hx : A.eval x = .slice a r c) : (execOp A.eval o).run Try.prog w = .ok (.value (.int .i64 (r : Int))) w := by
  unfold execOp
  rw [ho]
  simp only [resolve, invoke, List.map_toArray, List.map_cons, List.map_nil, hx]
  go_simp
theorem runBuildD {z : Int} (ho : o.op = .buildSlice 25 2 #[(0, .const (.int .i64 1)), (1, x)]) (hx : A.eval x = .int .i64 z) : (execOp A.eval o).run Try.prog w = .ok (.value (.slice (some ⟨w.heap.size, 0, none⟩) 2 2)) (w.alloc (.cells #[.int .i64 1, .int .i64 z] 3)) := by
  unfold execOp
  rw [ho]
  simp only [List.map_toArray, List.map_cons, List.map_nil, hx]
  go_simp
theorem runBuildT (ho : o.op = .build 43 #[(0, x), (1, y)]) (hx : A.eval x = .slice a r c) (hy : A.eval y = .slice a' r' c') : (execOp A.eval o).run Try.prog w = .ok (.value (.agg #[.slice a r c, .slice a' r' c'])) w := by
  unfold execOp
  rw [ho]
  simp only [List.map_toArray, List.map_cons, List.map_nil, hx, hy]
  go_simp
end
theorem attRS (Q K V : PT) (win : Int) (uq uk uv : Value) (w : World) (hq : TnR Q uq w) (hk : TnR K uk w) (hv : TnR V uv w) (lq : (Q.r : Int) ≤ 1048576 ∧ (Q.s : Int) ≤ 33554432) (lk : (K.r : Int) ≤ 1048576 ∧ (K.s : Int) ≤ 33554432) (lv : (V.r : Int) ≤ 1048576 ∧ (V.s : Int) ≤ 33554432) (hw : bd win) :
    Calls Try.prog 20 #[uq, uk, uv, .int .i64 win] w fun e w' => ∃ u, e = .returned u ∧ Below w.heap.size w w' ∧ TenW w.heap.size (attP (pt Q) (pt K) (pt V) win) u w' := by
  obtain ⟨a1, b1, c1, d1, rfl, q1, q2, q3, q4⟩ := hq
  obtain ⟨a2, b2, c2, d2, rfl, k1, k2, k3, k4⟩ := hk
  obtain ⟨a3, b3, c3, d3, rfl, v1, v2, v3, v4⟩ := hv
  refine (specAttendL w.heap.size ⟨a1, b1, Q.r, Q.s, c1, d1, Q.D, Q.S⟩ ⟨a2, b2, K.r, K.s, c2, d2, K.D, K.S⟩ ⟨a3, b3, V.r, V.s, c3, d3, V.D, V.S⟩ win w (Nat.le_refl _) ⟨q3, q4⟩ ⟨k3, k4⟩ ⟨v3, v4⟩ lq lk lv ⟨q1, q2⟩ ⟨k1, k2⟩ ⟨v1, v2⟩ hw).mono ?_
  rintro e w' ⟨a, b, c, d, rfl, vo, bb⟩
  have e : attP ⟨a1, b1, Q.r, Q.s, c1, d1, Q.D, Q.S⟩ ⟨a2, b2, K.r, K.s, c2, d2, K.D, K.S⟩ ⟨a3, b3, V.r, V.s, c3, d3, V.D, V.S⟩ win = attP (pt Q) (pt K) (pt V) win := attP_same ⟨rfl, rfl, rfl, rfl⟩ ⟨rfl, rfl, rfl, rfl⟩ ⟨rfl, rfl, rfl, rfl⟩
  rw [e] at vo ⊢
  exact ⟨_, rfl, bb, a, b, c, d, rfl, vo⟩
set_option maxRecDepth 100000 in
set_option maxHeartbeats 4000000 in
theorem specNext (B : Nat) (ad bd' : Addr) (n m cap dap : Nat) (L M : Nat → LV) (q k v' : LV) (win : Int) (w : World) (hB : B ≤ w.heap.size) (h : LL B w (some ad) n L) (h' : LL B w (some bd') m M) (hq : Ints B w q.a q.r q.D) (hk : Ints B w k.a k.r k.D) (hv : Ints B w v'.a v'.r v'.D)
    (hn : (n : Int) ≤ 1048576) (hm : (m : Int) ≤ 1048576) (hl : LLen n L 1048576) (hl' : LLen m M 1048576) (lq : (q.r : Int) ≤ 1048576) (lk : (k.r : Int) ≤ 1048576) (lv : (v'.r : Int) ≤ 1048576) (cq : q.r ≤ q.cap) (hw : bd win) :
    Calls Try.prog 5 #[.agg #[.slice (some ad) n cap, .slice (some bd') m dap], .slice q.a q.r q.cap, .slice k.a k.r k.cap, .slice v'.a v'.r v'.cap, .int .i64 win] w fun e w' => SxR n m L M q k v' win w e w' := by
  obtain ⟨W0, hW0⟩ : ∃ W0, (w.alloc (.cells #[.slice (some ad) n cap, .slice (some bd') m dap] 27)).alloc (.cells #[.slice none 0 0, .slice none 0 0] 27) = W0 := ⟨_, rfl⟩
  have bl : Below w.heap.size w W0 := by rw [← hW0]; exact ((Below.refl _ _).alloc (Nat.le_refl _) _).alloc (by simp) _
  have z0 : w.heap.size + 2 ≤ W0.heap.size := by rw [← hW0]; simp
  have X0 := hide (show Bx W0 w.heap.size (.slice (some ad) n cap) (.slice (some bd') m dap) by rw [← hW0]; exact (bx_new w _ _ _).below ((Below.refl _ _).alloc (Nat.le_refl _) _) (by simp))
  have M0 := hide (show Bx W0 (w.heap.size + 1) (.slice none 0 0) (.slice none 0 0) by
    rw [← hW0]
    have := bx_new (w.alloc (.cells #[.slice (some ad) n cap, .slice (some bd') m dap] 27)) (.slice none 0 0) (.slice none 0 0) 27
    simpa using this)
  have G0 := hide (show Free W0 (w.heap.size + 1) by rw [← hW0]; intro i; simp [go_sem])
  have B0 := hide bl
  have H0 := hide hW0
  have ALL := hide (fun (W : World) (hb : Below W0.heap.size W0 W) => (show (Bx W w.heap.size (.slice (some ad) n cap) (.slice (some bd') m dap) ∧ Bx W (w.heap.size + 1) (.slice none 0 0) (.slice none 0 0) ∧ Free W (w.heap.size + 1)) ∧ (LL B W (some ad) n L ∧ LL B W (some bd') m M) ∧ Ints B W q.a q.r q.D ∧ Ints B W k.a k.r k.D ∧ Ints B W v'.a v'.r v'.D ∧ Below w.heap.size w W from by
    have b2 : Below w.heap.size w W := bl.trans (hb.mono bl.size)
    have b3 := b2.mono hB
    exact ⟨⟨X0.out.below hb (by omega), M0.out.below hb (by omega), G0.out.below hb (by omega)⟩, ⟨h.below b3, h'.below b3⟩, hq.below b3, hk.below b3, hv.below b3, b2⟩))
  have NOX := hide (fun (W : World) (hb : Below W0.heap.size W0 W) => (show ((W.alloc (.cells #[] 3)).cell? ⟨w.heap.size + 1, 0, none⟩ = some (.slice none 0 0) ∧ (W.alloc (.cells #[] 3)).cell? ⟨w.heap.size + 1, 1, none⟩ = some (.slice none 0 0)) ∧ ∀ i, (W.alloc (.cells #[] 3)).frozen? ⟨w.heap.size + 1, i, none⟩ = false from (ALL.out _ (hb.alloc hb.size _)).1.2))
  have NO := hide (fun (hz : ¬ SxOk n m L M q k v' win) (w2 : World) (p : Nat) (hb : Below w.heap.size w w2) => (show SxR n m L M q k v' win w (.returned (.tuple #[.agg #[.slice none 0 0, .slice none 0 0], .slice (some ⟨p, 0, none⟩) 0 0, .bool false])) w2 from .inr ⟨hz, p, rfl, hb⟩))
  have CC := hide (specCacheOk W0.heap.size (some ad) (some bd') n m cap dap L M W0 (Nat.le_refl _) ((h.below (bl.mono hB)).mono (by omega)) ((h'.below (bl.mono hB)).mono (by omega)) hn hm hl hl')
  have HL1 := hide hl
  have HL2 := hide hl'
  have LT := hide (show (q.r : Int) ≤ 1048576 ∧ (k.r : Int) ≤ 1048576 ∧ (v'.r : Int) ≤ 1048576 from ⟨lq, lk, lv⟩)
  have CQ1 := hide (fun (W : World) (hb : Below W0.heap.size W0 W) => l5RowOk B q.a q.r q.cap q.D W (ALL.out W hb).2.2.1 lq)
  have CK1 := hide (fun (W : World) (hb : Below W0.heap.size W0 W) => l5RowOk B k.a k.r k.cap k.D W (ALL.out W hb).2.2.2.1 lk)
  have CV1 := hide (fun (W : World) (hb : Below W0.heap.size W0 W) => l5RowOk B v'.a v'.r v'.cap v'.D W (ALL.out W hb).2.2.2.2.1 lv)
  clear h h' hq hk hv hl hl' lq lk lv bl
  obtain ⟨x0, x1⟩ := X0.out
  obtain ⟨y0, y1⟩ := M0.out
  rw [← hW0] at x0 x1 y0 y1
  clear hW0
  unfold bd at hw
  go_enter Try.func5, Try.ntmps5
  go_wp2_with fail
  rw [H0.out]
  refine CC.out.mono ?_
  rintro e w1 ⟨rfl, b1⟩
  have B1 := hide b1
  have z1 := b1.size
  clear x0 x1 y0 y1 CC b1
  have BW := hide (ALL.out w1 B1.out).2.2.2.2.2
  obtain ⟨⟨y0, y1⟩, gg⟩ := NOX.out w1 B1.out
  cases hc : cacheB n m L M with
  | false =>
    have NN := hide (show ¬ SxOk n m L M q k v' win from fun c => by rw [c.1.1] at hc; cases hc)
    clear hc
    go_wp2_with fail
    refine bodyPost_ret (v := .tuple #[.agg #[.slice none 0 0, .slice none 0 0], .slice (some ⟨w1.heap.size, 0, none⟩) 0 0, .bool false]) (by simp [results, Try.results5, go_sem, y0, y1]) rfl ?_
    refine NO.out NN.out _ _ ?_
    repeat (refine Below.setCell ?_ (by simp) _)
    exact BW.out.alloc BW.out.size _
  | true =>
  have HC := hide hc
  clear hc
  go_wp2_with fail
  refine (CQ1.out w1 B1.out).mono ?_
  rintro e wq ⟨rfl, ew⟩
  subst wq
  cases hc : rowB q.r q.D with
  | false =>
    have NN := hide (show ¬ SxOk n m L M q k v' win from fun c => by have := c.1.2.1; rw [this] at hc; cases hc)
    clear hc
    go_wp2_with fail
    refine bodyPost_ret (v := .tuple #[.agg #[.slice none 0 0, .slice none 0 0], .slice (some ⟨w1.heap.size, 0, none⟩) 0 0, .bool false]) (by simp [results, Try.results5, go_sem, y0, y1]) rfl ?_
    refine NO.out NN.out _ _ ?_
    repeat (refine Below.setCell ?_ (by simp) _)
    exact BW.out.alloc BW.out.size _
  | true =>
  have HR_q := hide hc
  clear hc
  go_wp2_with fail
  refine (CK1.out w1 B1.out).mono ?_
  rintro e wq ⟨rfl, ew⟩
  subst wq
  cases hc : rowB k.r k.D with
  | false =>
    have NN := hide (show ¬ SxOk n m L M q k v' win from fun c => by have := c.1.2.2.1; rw [this] at hc; cases hc)
    clear hc
    go_wp2_with fail
    refine bodyPost_ret (v := .tuple #[.agg #[.slice none 0 0, .slice none 0 0], .slice (some ⟨w1.heap.size, 0, none⟩) 0 0, .bool false]) (by simp [results, Try.results5, go_sem, y0, y1]) rfl ?_
    refine NO.out NN.out _ _ ?_
    repeat (refine Below.setCell ?_ (by simp) _)
    exact BW.out.alloc BW.out.size _
  | true =>
  have HR_k := hide hc
  clear hc
  go_wp2_with fail
  refine (CV1.out w1 B1.out).mono ?_
  rintro e wq ⟨rfl, ew⟩
  subst wq
  cases hc : rowB v'.r v'.D with
  | false =>
    have NN := hide (show ¬ SxOk n m L M q k v' win from fun c => by have := c.1.2.2.2.1; rw [this] at hc; cases hc)
    clear hc
    go_wp2_with fail
    refine bodyPost_ret (v := .tuple #[.agg #[.slice none 0 0, .slice none 0 0], .slice (some ⟨w1.heap.size, 0, none⟩) 0 0, .bool false]) (by simp [results, Try.results5, go_sem, y0, y1]) rfl ?_
    refine NO.out NN.out _ _ ?_
    repeat (refine Below.setCell ?_ (by simp) _)
    exact BW.out.alloc BW.out.size _
  | true =>
  have HR_v := hide hc
  clear hc
  by_cases hqk : q.r = k.r
  rotate_left
  · have c0 : ((q.r : Int) != (k.r : Int)) = true := bne_iff_ne.2 (by omega)
    have NN := hide (show ¬ SxOk n m L M q k v' win from fun c => hqk c.1.2.2.2.2.1)
    clear hqk
    go_wp2_with fail
    refine bodyPost_ret (v := .tuple #[.agg #[.slice none 0 0, .slice none 0 0], .slice (some ⟨w1.heap.size, 0, none⟩) 0 0, .bool false]) (by simp [results, Try.results5, go_sem, y0, y1]) rfl ?_
    refine NO.out NN.out _ _ ?_
    repeat (refine Below.setCell ?_ (by simp) _)
    exact BW.out.alloc BW.out.size _
  have c0 : ((q.r : Int) != (k.r : Int)) = false := by rw [hqk]; exact bne_self_eq_false _
  have HQK := hide hqk
  clear hqk
  go_wp2_with fail
  refine (l5In win 0 4096 w1).mono ?_
  rintro e wq ⟨rfl, ew⟩
  subst wq
  by_cases hwi : 0 ≤ win ∧ win ≤ 4096
  rotate_left
  · rw [decide_eq_false hwi]
    have NN := hide (show ¬ SxOk n m L M q k v' win from fun c => hwi c.1.2.2.2.2.2.1)
    clear hwi
    go_wp2_with fail
    refine bodyPost_ret (v := .tuple #[.agg #[.slice none 0 0, .slice none 0 0], .slice (some ⟨w1.heap.size, 0, none⟩) 0 0, .bool false]) (by simp [results, Try.results5, go_sem, y0, y1]) rfl ?_
    refine NO.out NN.out _ _ ?_
    repeat (refine Below.setCell ?_ (by simp) _)
    exact BW.out.alloc BW.out.size _
  rw [decide_eq_true hwi]
  obtain ⟨hw0, hw1⟩ := hwi
  have LD := hide (fun (W : World) (hb : Below w1.heap.size w1 W) => ALL.out W (B1.out.trans (hb.mono B1.out.size)))
  have HBW := hide (show B ≤ w1.heap.size by omega)
  obtain ⟨nm, n4, ra, rb⟩ : n = m ∧ n ≤ 4096 ∧ RowsA n L ∧ RowsA m M := by
    have := HC.out
    unfold cacheB at this
    simp only [Bool.and_eq_true, decide_eq_true_eq] at this
    exact ⟨this.1.1.1, this.1.1.2, this.1.2, this.2⟩
  have NM := hide nm
  have m4 : m ≤ 4096 := by omega
  have RA := hide ra
  have RB := hide rb
  clear nm ra rb
  have RB1 := hide (show ∀ r D, rowB r D = true → 1 ≤ r ∧ r ≤ 4096 from fun r D h => by
    unfold rowB at h
    simp only [Bool.and_eq_true, decide_eq_true_eq] at h
    exact ⟨h.1.1, h.1.2⟩)
  have R1 := hide (show ∀ i, i < n → 1 ≤ (L i).r from fun i hi => (RB1.out _ _ (RA.out i hi).2).1)
  have R2 := hide (show ∀ i, i < m → 1 ≤ (M i).r from fun i hi => (RB1.out _ _ (RB.out i hi).2).1)
  have CBk := hide (fun (W : World) (hb : Below w1.heap.size w1 W) => (show Calls Try.prog 19 #[.slice (some ad) n cap, .slice k.a k.r k.cap, .int .i64 win] W (fun e w' => ∃ u, e = .returned u ∧ Below W.heap.size W w' ∧ BehR (nk n win) (stN (n + 1) win) (lastR (appR L n k) (stN (n + 1) win)) u w') from by
    have I := (LD.out W hb).2.2.2.1
    obtain ⟨ka, hka⟩ : ∃ ka, k.a = some ka := by
      rcases I with e | ⟨b, o, e, _⟩
      · have := (RB1.out _ _ HR_k.out).1; omega
      · exact ⟨_, e⟩
    have ek : (⟨some ka, k.r, k.cap, k.D⟩ : LV) = k := by rw [← hka]
    rw [hka] at I ⊢
    refine (behindF B (some ad) n cap L ka k.r k.cap k.D win W (Nat.le_trans HBW.out hb.size) (LD.out W hb).2.1.1 I hn HL1.out R1.out (by first | exact LT.out.2.1 | exact LT.out.2.2) hw0 hw1).mono ?_
    rintro e w' ⟨g, c, M', rfl, l, s, b⟩
    rw [ek] at s
    exact ⟨_, rfl, b, g, c, _, rfl, l, fun i hi => s (stN (n + 1) win + i) (by unfold nk at hi; omega)⟩))
  have CBv' := hide (fun (W : World) (hb : Below w1.heap.size w1 W) => (show Calls Try.prog 19 #[.slice (some bd') m dap, .slice v'.a v'.r v'.cap, .int .i64 win] W (fun e w' => ∃ u, e = .returned u ∧ Below W.heap.size W w' ∧ BehR (nk m win) (stN (m + 1) win) (lastR (appR M m v') (stN (m + 1) win)) u w') from by
    have I := (LD.out W hb).2.2.2.2.1
    obtain ⟨ka, hka⟩ : ∃ ka, v'.a = some ka := by
      rcases I with e | ⟨b, o, e, _⟩
      · have := (RB1.out _ _ HR_v.out).1; omega
      · exact ⟨_, e⟩
    have ek : (⟨some ka, v'.r, v'.cap, v'.D⟩ : LV) = v' := by rw [← hka]
    rw [hka] at I ⊢
    refine (behindF B (some bd') m dap M ka v'.r v'.cap v'.D win W (Nat.le_trans HBW.out hb.size) (LD.out W hb).2.1.2 I hm HL2.out R2.out (by first | exact LT.out.2.1 | exact LT.out.2.2) hw0 hw1).mono ?_
    rintro e w' ⟨g, c, M', rfl, l, s, b⟩
    rw [ek] at s
    exact ⟨_, rfl, b, g, c, _, rfl, l, fun i hi => s (stN (m + 1) win + i) (by unfold nk at hi; omega)⟩))
  clear y0 y1 gg
  go_wp2_with fail
  refine Qf.facts2 12 (by kernel_rfl) (by kernel_rfl) (by kernel_rfl) (fun i v wx => match i with | 0 => v = .pointer (some ⟨w.heap.size, 0, none⟩) | 1 => v = .slice (some ad) n cap | 2 => v = .slice k.a k.r k.cap | 3 => v = .int .i64 win | 4 => BehR (nk n win) (stN (n + 1) win) (lastR (appR L n k) (stN (n + 1) win)) v wx | 5 => v = .pointer (some ⟨w.heap.size, 1, none⟩) | 6 => v = .slice (some bd') m dap | 7 => v = .slice v'.a v'.r v'.cap | 8 => v = .int .i64 win | 9 => BehR (nk m win) (stN (m + 1) win) (lastR (appR M m v') (stN (m + 1) win)) v wx | 10 => ∃ x y, v = .agg #[x, y] ∧ BehR (nk n win) (stN (n + 1) win) (lastR (appR L n k) (stN (n + 1) win)) x wx ∧ BehR (nk m win) (stN (m + 1) win) (lastR (appR M m v') (stN (m + 1) win)) y wx | 11 => PtrC w1.heap.size v wx | _ => True) ?stable ?steps ?rest
  case stable =>
    intro i v w1 w2 h hb
    match i, h with
    | 0, h => exact h
    | 1, h => exact h
    | 2, h => exact h
    | 3, h => exact h
    | 4, h => exact BehR.below h hb
    | 5, h => exact h
    | 6, h => exact h
    | 7, h => exact h
    | 8, h => exact h
    | 9, h => exact BehR.below h hb
    | 10, h => exact ⟨h.choose, h.choose_spec.choose, h.choose_spec.choose_spec.1, BehR.below h.choose_spec.choose_spec.2.1 hb, BehR.below h.choose_spec.choose_spec.2.2 hb⟩
    | 11, h => exact PtrC.below h hb
    | _ + 12, h => exact h
  case steps =>
    intro i o hi ho s A wS hb hk hA hO
    match i, hi, ho, hk with
    | 0, _, ho, hk =>
      cases ho
      exact Qf.lands_val _ _ (runFieldC0 rfl ((hO 5 (by rfl)).trans rfl)) ⟨Below.refl _ _, rfl⟩
    | 1, _, ho, hk =>
      cases ho
      have h0 := hA 0 _ 47 (by decide) rfl rfl (by simp)
      have e0 := hk 0 (by kernel_rfl)
      rw [e0] at h0
      exact Qf.lands_val _ _ (runLoadR rfl h0 (LD.out wS hb).1.1.1) ⟨Below.refl _ _, rfl⟩
    | 2, _, ho, hk =>
      cases ho
      exact Qf.lands_move _ rfl _ ((hO 2 (by rfl)).trans rfl) ⟨Below.refl _ _, rfl⟩
    | 3, _, ho, hk =>
      cases ho
      exact Qf.lands_move _ rfl _ ((hO 4 (by rfl)).trans rfl) ⟨Below.refl _ _, rfl⟩
    | 4, _, ho, hk =>
      cases ho
      have h1 := hA 1 _ 48 (by decide) rfl rfl (by simp)
      have e1 := hk 1 (by kernel_rfl)
      rw [e1] at h1
      have h2 := hA 2 _ 49 (by decide) rfl rfl (by simp)
      have e2 := hk 2 (by kernel_rfl)
      rw [e2] at h2
      have h3 := hA 3 _ 50 (by decide) rfl rfl (by simp)
      have e3 := hk 3 (by kernel_rfl)
      rw [e3] at h3
      refine Qf.lands_call 19 _ _ rfl (enters_of Try.func19 (by kernel_rfl) rfl) _ (by simp [h1, h2, h3]) (CBk.out wS hb)
    | 5, _, ho, hk =>
      cases ho
      exact Qf.lands_val _ _ (runFieldC1 rfl ((hO 5 (by rfl)).trans rfl)) ⟨Below.refl _ _, rfl⟩
    | 6, _, ho, hk =>
      cases ho
      have h5 := hA 5 _ 52 (by decide) rfl rfl (by simp)
      have e5 := hk 5 (by kernel_rfl)
      rw [e5] at h5
      exact Qf.lands_val _ _ (runLoadR rfl h5 (LD.out wS hb).1.1.2) ⟨Below.refl _ _, rfl⟩
    | 7, _, ho, hk =>
      cases ho
      exact Qf.lands_move _ rfl _ ((hO 3 (by rfl)).trans rfl) ⟨Below.refl _ _, rfl⟩
    | 8, _, ho, hk =>
      cases ho
      exact Qf.lands_move _ rfl _ ((hO 4 (by rfl)).trans rfl) ⟨Below.refl _ _, rfl⟩
    | 9, _, ho, hk =>
      cases ho
      have h6 := hA 6 _ 53 (by decide) rfl rfl (by simp)
      have e6 := hk 6 (by kernel_rfl)
      rw [e6] at h6
      have h7 := hA 7 _ 54 (by decide) rfl rfl (by simp)
      have e7 := hk 7 (by kernel_rfl)
      rw [e7] at h7
      have h8 := hA 8 _ 55 (by decide) rfl rfl (by simp)
      have e8 := hk 8 (by kernel_rfl)
      rw [e8] at h8
      refine Qf.lands_call 19 _ _ rfl (enters_of Try.func19 (by kernel_rfl) rfl) _ (by simp [h6, h7, h8]) (CBv'.out wS hb)
    | 10, _, ho, hk =>
      cases ho
      have h4 := hA 4 _ 51 (by decide) rfl rfl (by simp)
      have h9 := hA 9 _ 56 (by decide) rfl rfl (by simp)
      obtain ⟨g1, c1, M1, e4, l4, s4⟩ := hk 4 (by kernel_rfl)
      obtain ⟨g2, c2, M2, e9, l9, s9⟩ := hk 9 (by kernel_rfl)
      rw [e4] at h4
      rw [e9] at h9
      exact Qf.lands_val _ _ (runBuildC rfl h4 h9) ⟨Below.refl _ _, _, _, rfl, ⟨g1, c1, M1, rfl, l4, s4⟩, ⟨g2, c2, M2, rfl, l9, s9⟩⟩
    | 11, _, ho, hk =>
      cases ho
      exact Qf.lands_val _ _ (runAllocC rfl) (ptrC_new _ wS hb.size)
    | _ + 12, hi, _, _ => exact absurd hi (by omega)
  case rest =>
  intro s w2 hbS hk
  obtain ⟨x, y, e10, ⟨g1, c1, M1, rfl, l1, s1⟩, ⟨g2, c2, M2, rfl, l2, s2⟩⟩ := hk 10 (by decide)
  obtain ⟨p, e11, lP, hP, hpp, bz, fz⟩ := hk 11 (by decide)
  simp only [List.take_succ_cons, List.take_zero, List.drop_succ_cons, List.drop_zero, Qf.lay, Qf.all1, if_true, e10, e11]
  simp only [Act.put, List.setIfInBounds_toArray, List.set_cons_succ, List.set_cons_zero]
  obtain ⟨WX, hWX⟩ : ∃ X, (w2.setCell ⟨p, 0, none⟩ (.slice (some ⟨g1, stN (n + 1) win, none⟩) (nk n win) c1)).setCell ⟨p, 1, none⟩ (.slice (some ⟨g2, stN (m + 1) win, none⟩) (nk m win) c2) = X := ⟨_, rfl⟩
  have HWX := hide hWX
  have NK := hide (show (1 ≤ nk n win ∧ nk n win ≤ 4097 ∧ nk n win + stN (n + 1) win = n + 1) ∧ 1 ≤ nk m win ∧ nk m win ≤ 4097 ∧ nk m win + stN (m + 1) win = m + 1 from by
    unfold nk stN
    constructor <;> (split <;> omega))
  have RR1 := hide (show ∀ i, i < nk n win → 1 ≤ (M1 i).r from fun i hi => by
    rw [(s1 i hi).1]
    show 1 ≤ (appR L n k (stN (n + 1) win + i)).r
    unfold appR
    split
    · exact (RB1.out _ _ HR_k.out).1
    · exact R1.out _ (by have := NK.out.1.2.2; omega))
  have RR2 := hide (show ∀ i, i < nk m win → 1 ≤ (M2 i).r from fun i hi => by
    rw [(s2 i hi).1]
    show 1 ≤ (appR M m v' (stN (m + 1) win + i)).r
    unfold appR
    split
    · exact (RB1.out _ _ HR_v.out).1
    · exact R2.out _ (by have := NK.out.2.2.2; omega))
  have RL1 := hide (show LLen (nk n win) M1 1048576 from fun i hi => by
    rw [(s1 i hi).1]
    show ((appR L n k (stN (n + 1) win + i)).r : Int) ≤ _
    unfold appR
    split
    · exact LT.out.2.1
    · exact HL1.out _ (by have := NK.out.1.2.2; omega))
  have RL2 := hide (show LLen (nk m win) M2 1048576 from fun i hi => by
    rw [(s2 i hi).1]
    show ((appR M m v' (stN (m + 1) win + i)).r : Int) ≤ _
    unfold appR
    split
    · exact LT.out.2.2
    · exact HL2.out _ (by have := NK.out.2.2.2; omega))
  have zz := hbS.size
  have zX : WX.heap.size = w2.heap.size := by rw [← hWX]; simp [World.setCell]
  have LX1 := hide (show LL WX.heap.size WX (some ⟨g1, stN (n + 1) win, none⟩) (nk n win) M1 by rw [zX, ← hWX]; exact ll_set2 l1 (Nat.le_refl _) RR1.out hpp _ _)
  have LX2 := hide (show LL WX.heap.size WX (some ⟨g2, stN (m + 1) win, none⟩) (nk m win) M2 by rw [zX, ← hWX]; exact ll_set2 l2 (Nat.le_refl _) RR2.out hpp _ _)
  have BX := hide (show Below w1.heap.size w1 WX by rw [← hWX]; exact (hbS.setCell (p := ⟨p, 0, none⟩) lP _).setCell (p := ⟨p, 1, none⟩) lP _)
  obtain ⟨zz0, zz1⟩ := bz
  unfold Free at fz
  have PX : Bx WX p (.slice (some ⟨g1, stN (n + 1) win, none⟩) (nk n win) c1) (.slice (some ⟨g2, stN (m + 1) win, none⟩) (nk m win) c2) := by
    rw [← hWX]
    refine ⟨?_, ?_⟩
    · rw [World.cell?_setCell_other _ _ _ _ (by intro e; cases e)]
      exact World.cell?_setCell_same _ _ _ zz0
    · refine World.cell?_setCell_same _ _ _ (u := .slice none 0 0) ?_
      rw [World.cell?_setCell_other _ _ _ _ (by intro e; cases e)]
      exact zz1
  have PXh := hide PX
  obtain ⟨px0, px1⟩ := PX
  rw [← hWX] at px0 px1
  have pW : p < WX.heap.size := by omega
  have S1 := hide s1
  have S2 := hide s2
  have HPP := hide lP
  clear hWX zX hk e10 e11 hpp l1 l2 s1 s2 hbS CBk CBv' LD
  have CC := hide (specCacheOk WX.heap.size (some ⟨g1, stN (n + 1) win, none⟩) (some ⟨g2, stN (m + 1) win, none⟩) (nk n win) (nk m win) c1 c2 M1 M2 WX (Nat.le_refl _) LX1.out LX2.out (by have := NK.out.1.2.1; omega) (by have := NK.out.2.2.1; omega) RL1.out RL2.out)
  go_wp2_with fail
  rw [HWX.out]
  refine CC.out.mono ?_
  rintro e w3 ⟨rfl, b3⟩
  clear CC px0 px1 zz0 zz1 fz HWX
  have z3 := b3.size
  have B3 := hide (B1.out.trans ((BX.out.trans (b3.mono BX.out.size)).mono B1.out.size))
  have P3 := hide (PXh.out.below b3 pW)
  have LL1 := hide ((LX1.out.below b3).mono b3.size)
  have LL2 := hide ((LX2.out.below b3).mono b3.size)
  clear b3 LX1 LX2 PXh
  rw [cacheB_same S1.out S2.out]
  have BW := hide (ALL.out w3 B3.out).2.2.2.2.2
  cases hc : cacheB (nk n win) (nk m win) (lastR (appR L n k) (stN (n + 1) win)) (lastR (appR M m v') (stN (m + 1) win)) with
  | false =>
    have NN := hide (show ¬ SxOk n m L M q k v' win from fun c => by have := c.1.2.2.2.2.2.2.1; rw [this] at hc; cases hc)
    obtain ⟨⟨y0, y1⟩, gg⟩ := NOX.out w3 B3.out
    clear hc
    go_wp2_with fail
    refine bodyPost_ret (v := .tuple #[.agg #[.slice none 0 0, .slice none 0 0], .slice (some ⟨w3.heap.size, 0, none⟩) 0 0, .bool false]) (by simp [results, Try.results5, go_sem, y0, y1]) rfl ?_
    refine NO.out NN.out _ _ ?_
    repeat (refine Below.setCell ?_ (by simp) _)
    exact BW.out.alloc BW.out.size _
  | true =>
  have HN := hide hc
  clear hc
  have HW := hide (show bd win from hw)
  have HR0 := hide (show W0.heap[w.heap.size + 1]? = some (.cells #[.slice none 0 0, .slice none 0 0] 27 (0, 0)) by
    rw [← H0.out]
    have := heap_alloc_new (w.alloc (.cells #[.slice (some ad) n cap, .slice (some bd') m dap] 27)) (.cells #[.slice none 0 0, .slice none 0 0] 27)
    simpa using this)
  have CQC := hide cq
  obtain ⟨nn4, ra, rb⟩ : nk n win ≤ 4096 ∧ RowsA (nk n win) (lastR (appR L n k) (stN (n + 1) win)) ∧ RowsA (nk m win) (lastR (appR M m v') (stN (m + 1) win)) := by
    have := HN.out
    unfold cacheB at this
    simp only [Bool.and_eq_true, decide_eq_true_eq] at this
    exact ⟨this.1.1.2, this.1.2, this.2⟩
  have nm4 : nk m win ≤ 4096 := by have := NM.out; rw [← this]; exact nn4
  have RK := hide (show ∀ i, i < nk n win → (M1 i).r = k.r from fun i hi => by
    have z := NK.out.1
    have q1 := (ra i hi).1
    have q2 := (ra (nk n win - 1) (by omega)).1
    have q3 : (lastR (appR L n k) (stN (n + 1) win) (nk n win - 1)).r = k.r := by
      show (appR L n k (stN (n + 1) win + (nk n win - 1))).r = k.r
      unfold appR; rw [if_pos (by omega)]
    rw [(S1.out i hi).1, q1, ← q2, q3])
  have RV := hide (show ∀ i, i < nk m win → (M2 i).r = v'.r from fun i hi => by
    have z := NK.out.2
    have q1 := (rb i hi).1
    have q2 := (rb (nk m win - 1) (by omega)).1
    have q3 : (lastR (appR M m v') (stN (m + 1) win) (nk m win - 1)).r = v'.r := by
      show (appR M m v' (stN (m + 1) win + (nk m win - 1))).r = v'.r
      unfold appR; rw [if_pos (by omega)]
    rw [(S2.out i hi).1, q1, ← q2, q3])
  clear ra rb
  have SZ := hide (show ((nk n win * k.r : Nat) : Int) ≤ 33554432 ∧ ((nk m win * v'.r : Nat) : Int) ≤ 33554432 from by
    have q1 : nk n win * k.r ≤ 4096 * 4096 := Nat.mul_le_mul nn4 (RB1.out _ _ HR_k.out).2
    have q2 : nk m win * v'.r ≤ 4096 * 4096 := Nat.mul_le_mul nm4 (RB1.out _ _ HR_v.out).2
    omega)
  have LDX := hide (fun (W : World) (hb : Below w3.heap.size w3 W) => (show Bx W p (.slice (some ⟨g1, stN (n + 1) win, none⟩) (nk n win) c1) (.slice (some ⟨g2, stN (m + 1) win, none⟩) (nk m win) c2) ∧ LL w3.heap.size W (some ⟨g1, stN (n + 1) win, none⟩) (nk n win) M1 ∧ LL w3.heap.size W (some ⟨g2, stN (m + 1) win, none⟩) (nk m win) M2 ∧ Ints w3.heap.size W q.a q.r q.D from
    ⟨P3.out.below hb (by omega), LL1.out.below hb, LL2.out.below hb, (ALL.out W (B3.out.trans (hb.mono B3.out.size))).2.2.1.mono (by have := B3.out.size; omega)⟩))
  have CK2 := hide (fun (W : World) (hb : Below w3.heap.size w3 W) => (show Calls Try.prog 21 #[.slice (some ⟨g1, stN (n + 1) win, none⟩) (nk n win) c1] W (fun e w' => ∃ u, e = .returned u ∧ Below W.heap.size W w' ∧ TnR (rowsU (nk n win) k.r (lastR (appR L n k) (stN (n + 1) win))) u w') from (stackF w3.heap.size ⟨g1, stN (n + 1) win, none⟩ (nk n win) c1 k.r M1 W hb.size (LDX.out W hb).2.1 NK.out.1.1 nn4 (RB1.out _ _ HR_k.out).1 (RB1.out _ _ HR_k.out).2 RK.out).mono (fun e w' h => by
    obtain ⟨u, e1, e2, e3⟩ := tnr_of h
    exact ⟨u, e1, e2, tnr_rows e3 S1.out (RB1.out _ _ HR_k.out).1⟩)))
  have CV2 := hide (fun (W : World) (hb : Below w3.heap.size w3 W) => (show Calls Try.prog 21 #[.slice (some ⟨g2, stN (m + 1) win, none⟩) (nk m win) c2] W (fun e w' => ∃ u, e = .returned u ∧ Below W.heap.size W w' ∧ TnR (rowsU (nk m win) v'.r (lastR (appR M m v') (stN (m + 1) win))) u w') from (stackF w3.heap.size ⟨g2, stN (m + 1) win, none⟩ (nk m win) c2 v'.r M2 W hb.size (LDX.out W hb).2.2.1 NK.out.2.1 nm4 (RB1.out _ _ HR_v.out).1 (RB1.out _ _ HR_v.out).2 RV.out).mono (fun e w' h => by
    obtain ⟨u, e1, e2, e3⟩ := tnr_of h
    exact ⟨u, e1, e2, tnr_rows e3 S2.out (RB1.out _ _ HR_v.out).1⟩)))
  obtain ⟨⟨⟨xk, xv⟩, -, -⟩, -⟩ := ALL.out w3 B3.out
  by_cases n0 : n = 0
  · have d0 : decide ((0 : Int) < (n : Int)) = false := decide_eq_false (by omega)
    have d0n : decide (0 < n) = false := decide_eq_false (by omega)
    have AA := hide (show 0 < n → (L 0).r = k.r ∧ (M 0).r = v'.r from fun h => by omega)
    clear n0
    go_wp2_with fail
    refine Qf.facts2 14 (by kernel_rfl) (by kernel_rfl) (by kernel_rfl) (fun i v wx => match i with | 0 => v = .slice q.a q.r q.cap | 1 => v = .int .i64 (q.r : Int) | 2 => Dm2 q.r v wx | 3 => v = .slice q.a q.r q.cap | 4 => TnR ⟨2, q.r, two 1 q.r, q.D⟩ v wx | 5 => v = .pointer (some ⟨p, 0, none⟩) | 6 => v = .slice (some ⟨g1, stN (n + 1) win, none⟩) (nk n win) c1 | 7 => TnR (rowsU (nk n win) k.r (lastR (appR L n k) (stN (n + 1) win))) v wx | 8 => v = .pointer (some ⟨p, 1, none⟩) | 9 => v = .slice (some ⟨g2, stN (m + 1) win, none⟩) (nk m win) c2 | 10 => TnR (rowsU (nk m win) v'.r (lastR (appR M m v') (stN (m + 1) win))) v wx | 11 => v = .int .i64 win | 12 => TenW w3.heap.size (sxP n m L M q k v' win) v wx | 13 => PtrZ w3.heap.size v wx | _ => True) ?stable ?steps ?rest
    case stable =>
      intro i v w1 w2 h hb
      match i, h with
      | 0, h => exact h
      | 1, h => exact h
      | 2, h => exact Dm2.below h hb
      | 3, h => exact h
      | 4, h => exact TnR.below h hb
      | 5, h => exact h
      | 6, h => exact h
      | 7, h => exact TnR.below h hb
      | 8, h => exact h
      | 9, h => exact h
      | 10, h => exact TnR.below h hb
      | 11, h => exact h
      | 12, h => exact TenW.below h hb
      | 13, h => exact PtrZ.below h hb
      | _ + 14, h => exact h
    case steps =>
      intro i o hi ho s A wS hb hk hA hO
      match i, hi, ho, hk with
      | 0, _, ho, hk =>
        cases ho
        exact Qf.lands_move _ rfl _ ((hO 1 (by rfl)).trans rfl) ⟨Below.refl _ _, rfl⟩
      | 1, _, ho, hk =>
        cases ho
        have h0 := hA 0 _ 89 (by decide) rfl rfl (by simp)
        have e0 := hk 0 (by kernel_rfl)
        rw [e0] at h0
        exact Qf.lands_val _ _ (runLenI rfl h0) ⟨Below.refl _ _, rfl⟩
      | 2, _, ho, hk =>
        cases ho
        have h1 := hA 1 _ 90 (by decide) rfl rfl (by simp)
        have e1 := hk 1 (by kernel_rfl)
        rw [e1] at h1
        exact Qf.lands_val _ _ (runBuildD rfl h1) ⟨(Below.refl _ _).alloc (Nat.le_refl _) _, dm2_new q.r wS LT.out.1⟩
      | 3, _, ho, hk =>
        cases ho
        exact Qf.lands_move _ rfl _ ((hO 1 (by rfl)).trans rfl) ⟨Below.refl _ _, rfl⟩
      | 4, _, ho, hk =>
        cases ho
        have h2 := hA 2 _ 91 (by decide) rfl rfl (by simp)
        obtain ⟨b2, e2, i2⟩ := hk 2 (by kernel_rfl)
        rw [e2] at h2
        have h3 := hA 3 _ 92 (by decide) rfl rfl (by simp)
        have e3 := hk 3 (by kernel_rfl)
        rw [e3] at h3
        exact Qf.lands_val _ _ (runBuildT rfl h2 h3) ⟨Below.refl _ _, _, _, 2, q.cap, rfl, Nat.le_refl _, CQC.out, i2, (LDX.out wS hb).2.2.2.mono hb.size⟩
      | 5, _, ho, hk =>
        cases ho
        exact Qf.lands_val _ _ (runFieldC0 rfl ((hO 13 (by rfl)).trans rfl)) ⟨Below.refl _ _, rfl⟩
      | 6, _, ho, hk =>
        cases ho
        have h5 := hA 5 _ 94 (by decide) rfl rfl (by simp)
        have e5 := hk 5 (by kernel_rfl)
        rw [e5] at h5
        exact Qf.lands_val _ _ (runLoadR rfl h5 (LDX.out wS hb).1.1) ⟨Below.refl _ _, rfl⟩
      | 7, _, ho, hk =>
        cases ho
        have h6 := hA 6 _ 95 (by decide) rfl rfl (by simp)
        have e6 := hk 6 (by kernel_rfl)
        rw [e6] at h6
        refine Qf.lands_call 21 _ _ rfl (enters_of Try.func21 (by kernel_rfl) rfl) _ (by simp [h6]) (CK2.out wS hb)
      | 8, _, ho, hk =>
        cases ho
        exact Qf.lands_val _ _ (runFieldC1 rfl ((hO 13 (by rfl)).trans rfl)) ⟨Below.refl _ _, rfl⟩
      | 9, _, ho, hk =>
        cases ho
        have h8 := hA 8 _ 97 (by decide) rfl rfl (by simp)
        have e8 := hk 8 (by kernel_rfl)
        rw [e8] at h8
        exact Qf.lands_val _ _ (runLoadR rfl h8 (LDX.out wS hb).1.2) ⟨Below.refl _ _, rfl⟩
      | 10, _, ho, hk =>
        cases ho
        have h9 := hA 9 _ 98 (by decide) rfl rfl (by simp)
        have e9 := hk 9 (by kernel_rfl)
        rw [e9] at h9
        refine Qf.lands_call 21 _ _ rfl (enters_of Try.func21 (by kernel_rfl) rfl) _ (by simp [h9]) (CV2.out wS hb)
      | 11, _, ho, hk =>
        cases ho
        exact Qf.lands_move _ rfl _ ((hO 4 (by rfl)).trans rfl) ⟨Below.refl _ _, rfl⟩
      | 12, _, ho, hk =>
        cases ho
        have h4 := hA 4 _ 93 (by decide) rfl rfl (by simp)
        have h7 := hA 7 _ 96 (by decide) rfl rfl (by simp)
        have h10 := hA 10 _ 99 (by decide) rfl rfl (by simp)
        have q4 := hk 4 (by kernel_rfl)
        have q7 := hk 7 (by kernel_rfl)
        have q10 := hk 10 (by kernel_rfl)
        have h11 := hA 11 _ 100 (by decide) rfl rfl (by simp)
        have e11 := hk 11 (by kernel_rfl)
        rw [e11] at h11
        refine Qf.lands_call 20 _ _ rfl (enters_of Try.func20 (by kernel_rfl) rfl) #[s 4, s 7, s 10, .int .i64 win] (by simp only [List.map_toArray, List.map_cons, List.map_nil, h4, h7, h10, h11]) ((attRS _ _ _ win _ _ _ wS q4 q7 q10 ⟨by show ((2 : Nat) : Int) ≤ _; decide, by show ((q.r : Nat) : Int) ≤ _; have := LT.out.1; omega⟩ ⟨by show ((2 : Nat) : Int) ≤ _; decide, SZ.out.1⟩ ⟨by show ((2 : Nat) : Int) ≤ _; decide, SZ.out.2⟩ HW.out).mono ?_)
        rintro e wT ⟨u, rfl, bT, ta, tb, tc, td, hu, vo⟩
        exact ⟨u, rfl, bT, ta, tb, tc, td, hu, vo.mono hb.size⟩
      | 13, _, ho, hk =>
        cases ho
        exact Qf.lands_val _ _ (runAllocT rfl) (ptrZ_new _ wS hb.size)
      | _ + 14, hi, _, _ => exact absurd hi (by omega)
    case rest =>
    intro s WC hbS hk
    obtain ⟨ta, tb, tc, td, e12, qs⟩ := hk 12 (by decide)
    obtain ⟨p', e13, lP', hP', bz, fz⟩ := hk 13 (by decide)
    have LF := hide (left_set2 (tc := tc) (td := td) qs hbS bz lP' hP')
    simp only [List.take_succ_cons, List.take_zero, List.drop_succ_cons, List.drop_zero, Qf.lay, Qf.all1, if_true, e12, e13]
    simp only [Act.put, List.setIfInBounds_toArray, List.set_cons_succ, List.set_cons_zero]
    clear hk qs e12 e13 CK2 CV2
    obtain ⟨zz0, zz1⟩ := bz
    unfold Free at fz
    obtain ⟨T, hT⟩ : ∃ T, sxP n m L M q k v' win = T := ⟨_, rfl⟩
    have HT := hide hT
    rw [hT] at LF ⊢
    clear hT
    obtain ⟨WY, hWY⟩ : ∃ X, (WC.setCell ⟨p', 0, none⟩ (.slice ta T.r tc)).setCell ⟨p', 1, none⟩ (.slice tb T.s td) = X := ⟨_, rfl⟩
    have HWY := hide hWY
    rw [hWY] at LF
    obtain ⟨u0, u1⟩ := LF.out.2.1
    have BY := hide LF.out.2.2.2
    have OY := hide LF.out.2.2.1
    have zY := BY.out.size
    have BY0 := hide (B3.out.trans (BY.out.mono B3.out.size))
    have BWY := hide (ALL.out WY BY0.out).2.2.2.2.2
    have u1' := u1
    rw [← hWY] at u0 u1
    by_cases hz : T.s = 0
    · have t0 : ((T.s : Int) == 0) = true := by rw [hz]; rfl
      have NN := hide (show ¬ SxOk n m L M q k v' win from fun c => by have := c.2; rw [HT.out] at this; exact this hz)
      obtain ⟨⟨y0, y1⟩, gg⟩ := NOX.out WY BY0.out
      rw [← hWY] at y0 y1 gg BWY
      clear hz hWY LF u1'
      go_wp2_with fail
      refine bodyPost_ret (v := .tuple #[.agg #[.slice none 0 0, .slice none 0 0], .slice (some ⟨WC.heap.size, 0, none⟩) 0 0, .bool false]) (by simp [results, Try.results5, go_sem, y0, y1]) rfl ?_
      refine NO.out NN.out _ _ ?_
      repeat (refine Below.setCell ?_ (by simp) _)
      exact BWY.out.alloc BWY.out.size _
    · have t0 : ((T.s : Int) == 0) = false := beq_eq_false_iff_ne.2 (by omega)
      have YES := hide (show SxOk n m L M q k v' win from ⟨⟨HC.out, HR_q.out, HR_k.out, HR_v.out, HQK.out, ⟨hw0, hw1⟩, HN.out, AA.out⟩, by rw [HT.out]; exact hz⟩)
      clear hz hWY LF
      go_wp2_with fail
      rw [HWY.out]
      clear u0 u1 zz0 zz1 fz
      obtain ⟨⟨x0, x1⟩, -⟩ := LDX.out WY BY.out
      obtain ⟨⟨-, ⟨y0, y1⟩, gg⟩, -⟩ := ALL.out WY BY0.out
      unfold Free at gg
      have pR : w.heap.size + 2 ≤ p ∧ w.heap.size + 2 ≤ p' := by have := HPP.out; have := B3.out.size; omega
      have SE := hide (show ∀ (u0 u1 : Value) (j : Nat), ((WY.setCell ⟨w.heap.size + 1, 0, none⟩ u0).setCell ⟨w.heap.size + 1, 1, none⟩ u1).drew.cell? ⟨p, j, none⟩ = WY.cell? ⟨p, j, none⟩ from fun u0 u1 j => by
        show ((WY.setCell ⟨w.heap.size + 1, 0, none⟩ u0).setCell ⟨w.heap.size + 1, 1, none⟩ u1).cell? ⟨p, j, none⟩ = _
        rw [World.cell?_setCell_other _ _ _ _ (by intro e; injection e with e _ _; omega), World.cell?_setCell_other _ _ _ _ (by intro e; injection e with e _ _; omega)])
      have SF := hide (show ∀ (u0 u1 : Value) (j : Nat), ((WY.setCell ⟨w.heap.size + 1, 0, none⟩ u0).setCell ⟨w.heap.size + 1, 1, none⟩ u1).drew.cell? ⟨p', j, none⟩ = WY.cell? ⟨p', j, none⟩ from fun u0 u1 j => by
        show ((WY.setCell ⟨w.heap.size + 1, 0, none⟩ u0).setCell ⟨w.heap.size + 1, 1, none⟩ u1).cell? ⟨p', j, none⟩ = _
        rw [World.cell?_setCell_other _ _ _ _ (by intro e; injection e with e _ _; omega), World.cell?_setCell_other _ _ _ _ (by intro e; injection e with e _ _; omega)])
      have hR := hide ((BY0.out.block (w.heap.size + 1) (by omega)).trans HR0.out)
      go_region_held3 (fun w' => w'.cell? ⟨p, 0, none⟩ = some (.slice (some ⟨g1, stN (n + 1) win, none⟩) (nk n win) c1) ∧ w'.cell? ⟨p, 1, none⟩ = some (.slice (some ⟨g2, stN (m + 1) win, none⟩) (nk m win) c2) ∧ w'.cell? ⟨p', 1, none⟩ = some (.slice tb T.s td))
        ((try dsimp only) <;> (repeat' apply And.intro) <;> (first | with_reducible assumption | assumption | (rw [SE.out]; assumption) | (rw [SF.out]; assumption)))
        (fail)
      clear SE SF
      go_wp2_with fail
      refine bodyPost_ret (v := .tuple #[.agg #[.slice (some ⟨g1, stN (n + 1) win, none⟩) (nk n win) c1, .slice (some ⟨g2, stN (m + 1) win, none⟩) (nk m win) c2], .slice tb T.s td, .bool true]) (by simp [results, Try.results5, go_sem, y0, y1]) rfl ?_
      refine .inl ⟨YES.out, ?_⟩
      have hs' : ∀ u0 u1 : Value, ((WY.setCell ⟨w.heap.size + 1, 0, none⟩ u0).setCell ⟨w.heap.size + 1, 1, none⟩ u1).drew.heap.size = WY.heap.size := fun u0 u1 => by rw [drewSz]; simp [World.setCell]
      have la := fun (u0 u1 : Value) => ((ll_set2 (LDX.out WY BY.out).2.1 zY RR1.out hR.out u0 u1).below ((Below.refl _ _).drew)).mono (B' := ((WY.setCell ⟨w.heap.size + 1, 0, none⟩ u0).setCell ⟨w.heap.size + 1, 1, none⟩ u1).drew.heap.size) (by rw [hs']; exact zY)
      have lb := fun (u0 u1 : Value) => ((ll_set2 (LDX.out WY BY.out).2.2.1 zY RR2.out hR.out u0 u1).below ((Below.refl _ _).drew)).mono (B' := ((WY.setCell ⟨w.heap.size + 1, 0, none⟩ u0).setCell ⟨w.heap.size + 1, 1, none⟩ u1).drew.heap.size) (by rw [hs']; exact zY)
      have ov := fun (u0 u1 : Value) => (OY.out.kept (kept_sets2 WY (w.heap.size + 1) u0 u1) (fun b hb e => by have := (OY.out.blk hb).1; have := B3.out.size; have e : b = w.heap.size + 1 := e; omega)).t.ints.below ((Below.refl _ _).drew)
      unfold SxY
      rw [HT.out]
      exact ⟨⟨g1, stN (n + 1) win, none⟩, c1, ⟨g2, stN (m + 1) win, none⟩, c2, M1, M2, tb, td, rfl, la _ _, lb _ _, S1.out, S2.out, ov _ _, ((BWY.out.setCell (p := ⟨w.heap.size + 1, 0, none⟩) (by show w.heap.size ≤ w.heap.size + 1; omega) _).setCell (p := ⟨w.heap.size + 1, 1, none⟩) (by show w.heap.size ≤ w.heap.size + 1; omega) _).drew⟩
  · have d0 : (0 : Int) < (n : Int) := by omega
    have d1 : (0 : Int) < (m : Int) := by have := NM.out; omega
    obtain ⟨⟨l1, l2⟩, -⟩ := (ALL.out w3 B3.out).2
    rcases l1 with e | ⟨kb, ko, e, -, hc1⟩
    · omega
    rcases l2 with e' | ⟨vb, vo, e', -, hc2⟩
    · have := NM.out; omega
    cases e
    cases e'
    have i1 := (hc1 0 (by omega)).1
    have i2 := (hc2 0 (by omega)).1
    rw [Nat.add_zero] at i1 i2
    clear hc1 hc2
    by_cases a1 : (L 0).r = k.r
    rotate_left
    · have NN := hide (show ¬ SxOk n m L M q k v' win from fun c => a1 (c.1.2.2.2.2.2.2.2 (by omega)).1)
      have b1 : (((L 0).r : Int) != (k.r : Int)) = true := bne_iff_ne.2 (by omega)
      obtain ⟨⟨y0, y1⟩, gg⟩ := NOX.out w3 B3.out
      clear a1 n0
      generalize (L 0).r = lr at *
      go_wp2_with fail
      refine bodyPost_ret (v := .tuple #[.agg #[.slice none 0 0, .slice none 0 0], .slice (some ⟨w3.heap.size, 0, none⟩) 0 0, .bool false]) (by simp [results, Try.results5, go_sem, y0, y1]) rfl ?_
      refine NO.out NN.out _ _ ?_
      repeat (refine Below.setCell ?_ (by simp) _)
      exact BW.out.alloc BW.out.size _
    have b1 : (((L 0).r : Int) != (k.r : Int)) = false := by rw [a1]; exact bne_self_eq_false _
    by_cases a2 : (M 0).r = v'.r
    rotate_left
    · have NN := hide (show ¬ SxOk n m L M q k v' win from fun c => a2 (c.1.2.2.2.2.2.2.2 (by omega)).2)
      have b2 : (((M 0).r : Int) != (v'.r : Int)) = true := bne_iff_ne.2 (by omega)
      obtain ⟨⟨y0, y1⟩, gg⟩ := NOX.out w3 B3.out
      clear a1 a2 n0
      generalize (L 0).r = lr at *
      generalize (M 0).r = mr at *
      go_wp2_with fail
      refine bodyPost_ret (v := .tuple #[.agg #[.slice none 0 0, .slice none 0 0], .slice (some ⟨w3.heap.size, 0, none⟩) 0 0, .bool false]) (by simp [results, Try.results5, go_sem, y0, y1]) rfl ?_
      refine NO.out NN.out _ _ ?_
      repeat (refine Below.setCell ?_ (by simp) _)
      exact BW.out.alloc BW.out.size _
    have b2 : (((M 0).r : Int) != (v'.r : Int)) = false := by rw [a2]; exact bne_self_eq_false _
    have AA := hide (show 0 < n → (L 0).r = k.r ∧ (M 0).r = v'.r from fun _ => ⟨a1, a2⟩)
    clear a1 a2 n0
    go_wp2_with fail
    refine Qf.facts2 14 (by kernel_rfl) (by kernel_rfl) (by kernel_rfl) (fun i v wx => match i with | 0 => v = .slice q.a q.r q.cap | 1 => v = .int .i64 (q.r : Int) | 2 => Dm2 q.r v wx | 3 => v = .slice q.a q.r q.cap | 4 => TnR ⟨2, q.r, two 1 q.r, q.D⟩ v wx | 5 => v = .pointer (some ⟨p, 0, none⟩) | 6 => v = .slice (some ⟨g1, stN (n + 1) win, none⟩) (nk n win) c1 | 7 => TnR (rowsU (nk n win) k.r (lastR (appR L n k) (stN (n + 1) win))) v wx | 8 => v = .pointer (some ⟨p, 1, none⟩) | 9 => v = .slice (some ⟨g2, stN (m + 1) win, none⟩) (nk m win) c2 | 10 => TnR (rowsU (nk m win) v'.r (lastR (appR M m v') (stN (m + 1) win))) v wx | 11 => v = .int .i64 win | 12 => TenW w3.heap.size (sxP n m L M q k v' win) v wx | 13 => PtrZ w3.heap.size v wx | _ => True) ?stable ?steps ?rest
    case stable =>
      intro i v w1 w2 h hb
      match i, h with
      | 0, h => exact h
      | 1, h => exact h
      | 2, h => exact Dm2.below h hb
      | 3, h => exact h
      | 4, h => exact TnR.below h hb
      | 5, h => exact h
      | 6, h => exact h
      | 7, h => exact TnR.below h hb
      | 8, h => exact h
      | 9, h => exact h
      | 10, h => exact TnR.below h hb
      | 11, h => exact h
      | 12, h => exact TenW.below h hb
      | 13, h => exact PtrZ.below h hb
      | _ + 14, h => exact h
    case steps =>
      intro i o hi ho s A wS hb hk hA hO
      match i, hi, ho, hk with
      | 0, _, ho, hk =>
        cases ho
        exact Qf.lands_move _ rfl _ ((hO 1 (by rfl)).trans rfl) ⟨Below.refl _ _, rfl⟩
      | 1, _, ho, hk =>
        cases ho
        have h0 := hA 0 _ 89 (by decide) rfl rfl (by simp)
        have e0 := hk 0 (by kernel_rfl)
        rw [e0] at h0
        exact Qf.lands_val _ _ (runLenI rfl h0) ⟨Below.refl _ _, rfl⟩
      | 2, _, ho, hk =>
        cases ho
        have h1 := hA 1 _ 90 (by decide) rfl rfl (by simp)
        have e1 := hk 1 (by kernel_rfl)
        rw [e1] at h1
        exact Qf.lands_val _ _ (runBuildD rfl h1) ⟨(Below.refl _ _).alloc (Nat.le_refl _) _, dm2_new q.r wS LT.out.1⟩
      | 3, _, ho, hk =>
        cases ho
        exact Qf.lands_move _ rfl _ ((hO 1 (by rfl)).trans rfl) ⟨Below.refl _ _, rfl⟩
      | 4, _, ho, hk =>
        cases ho
        have h2 := hA 2 _ 91 (by decide) rfl rfl (by simp)
        obtain ⟨b2, e2, i2⟩ := hk 2 (by kernel_rfl)
        rw [e2] at h2
        have h3 := hA 3 _ 92 (by decide) rfl rfl (by simp)
        have e3 := hk 3 (by kernel_rfl)
        rw [e3] at h3
        exact Qf.lands_val _ _ (runBuildT rfl h2 h3) ⟨Below.refl _ _, _, _, 2, q.cap, rfl, Nat.le_refl _, CQC.out, i2, (LDX.out wS hb).2.2.2.mono hb.size⟩
      | 5, _, ho, hk =>
        cases ho
        exact Qf.lands_val _ _ (runFieldC0 rfl ((hO 13 (by rfl)).trans rfl)) ⟨Below.refl _ _, rfl⟩
      | 6, _, ho, hk =>
        cases ho
        have h5 := hA 5 _ 94 (by decide) rfl rfl (by simp)
        have e5 := hk 5 (by kernel_rfl)
        rw [e5] at h5
        exact Qf.lands_val _ _ (runLoadR rfl h5 (LDX.out wS hb).1.1) ⟨Below.refl _ _, rfl⟩
      | 7, _, ho, hk =>
        cases ho
        have h6 := hA 6 _ 95 (by decide) rfl rfl (by simp)
        have e6 := hk 6 (by kernel_rfl)
        rw [e6] at h6
        refine Qf.lands_call 21 _ _ rfl (enters_of Try.func21 (by kernel_rfl) rfl) _ (by simp [h6]) (CK2.out wS hb)
      | 8, _, ho, hk =>
        cases ho
        exact Qf.lands_val _ _ (runFieldC1 rfl ((hO 13 (by rfl)).trans rfl)) ⟨Below.refl _ _, rfl⟩
      | 9, _, ho, hk =>
        cases ho
        have h8 := hA 8 _ 97 (by decide) rfl rfl (by simp)
        have e8 := hk 8 (by kernel_rfl)
        rw [e8] at h8
        exact Qf.lands_val _ _ (runLoadR rfl h8 (LDX.out wS hb).1.2) ⟨Below.refl _ _, rfl⟩
      | 10, _, ho, hk =>
        cases ho
        have h9 := hA 9 _ 98 (by decide) rfl rfl (by simp)
        have e9 := hk 9 (by kernel_rfl)
        rw [e9] at h9
        refine Qf.lands_call 21 _ _ rfl (enters_of Try.func21 (by kernel_rfl) rfl) _ (by simp [h9]) (CV2.out wS hb)
      | 11, _, ho, hk =>
        cases ho
        exact Qf.lands_move _ rfl _ ((hO 4 (by rfl)).trans rfl) ⟨Below.refl _ _, rfl⟩
      | 12, _, ho, hk =>
        cases ho
        have h4 := hA 4 _ 93 (by decide) rfl rfl (by simp)
        have h7 := hA 7 _ 96 (by decide) rfl rfl (by simp)
        have h10 := hA 10 _ 99 (by decide) rfl rfl (by simp)
        have q4 := hk 4 (by kernel_rfl)
        have q7 := hk 7 (by kernel_rfl)
        have q10 := hk 10 (by kernel_rfl)
        have h11 := hA 11 _ 100 (by decide) rfl rfl (by simp)
        have e11 := hk 11 (by kernel_rfl)
        rw [e11] at h11
        refine Qf.lands_call 20 _ _ rfl (enters_of Try.func20 (by kernel_rfl) rfl) #[s 4, s 7, s 10, .int .i64 win] (by simp only [List.map_toArray, List.map_cons, List.map_nil, h4, h7, h10, h11]) ((attRS _ _ _ win _ _ _ wS q4 q7 q10 ⟨by show ((2 : Nat) : Int) ≤ _; decide, by show ((q.r : Nat) : Int) ≤ _; have := LT.out.1; omega⟩ ⟨by show ((2 : Nat) : Int) ≤ _; decide, SZ.out.1⟩ ⟨by show ((2 : Nat) : Int) ≤ _; decide, SZ.out.2⟩ HW.out).mono ?_)
        rintro e wT ⟨u, rfl, bT, ta, tb, tc, td, hu, vo⟩
        exact ⟨u, rfl, bT, ta, tb, tc, td, hu, vo.mono hb.size⟩
      | 13, _, ho, hk =>
        cases ho
        exact Qf.lands_val _ _ (runAllocT rfl) (ptrZ_new _ wS hb.size)
      | _ + 14, hi, _, _ => exact absurd hi (by omega)
    case rest =>
    intro s WC hbS hk
    obtain ⟨ta, tb, tc, td, e12, qs⟩ := hk 12 (by decide)
    obtain ⟨p', e13, lP', hP', bz, fz⟩ := hk 13 (by decide)
    have LF := hide (left_set2 (tc := tc) (td := td) qs hbS bz lP' hP')
    simp only [List.take_succ_cons, List.take_zero, List.drop_succ_cons, List.drop_zero, Qf.lay, Qf.all1, if_true, e12, e13]
    simp only [Act.put, List.setIfInBounds_toArray, List.set_cons_succ, List.set_cons_zero]
    clear hk qs e12 e13 CK2 CV2
    obtain ⟨zz0, zz1⟩ := bz
    unfold Free at fz
    obtain ⟨T, hT⟩ : ∃ T, sxP n m L M q k v' win = T := ⟨_, rfl⟩
    have HT := hide hT
    rw [hT] at LF ⊢
    clear hT
    obtain ⟨WY, hWY⟩ : ∃ X, (WC.setCell ⟨p', 0, none⟩ (.slice ta T.r tc)).setCell ⟨p', 1, none⟩ (.slice tb T.s td) = X := ⟨_, rfl⟩
    have HWY := hide hWY
    rw [hWY] at LF
    obtain ⟨u0, u1⟩ := LF.out.2.1
    have BY := hide LF.out.2.2.2
    have OY := hide LF.out.2.2.1
    have zY := BY.out.size
    have BY0 := hide (B3.out.trans (BY.out.mono B3.out.size))
    have BWY := hide (ALL.out WY BY0.out).2.2.2.2.2
    have u1' := u1
    rw [← hWY] at u0 u1
    by_cases hz : T.s = 0
    · have t0 : ((T.s : Int) == 0) = true := by rw [hz]; rfl
      have NN := hide (show ¬ SxOk n m L M q k v' win from fun c => by have := c.2; rw [HT.out] at this; exact this hz)
      obtain ⟨⟨y0, y1⟩, gg⟩ := NOX.out WY BY0.out
      rw [← hWY] at y0 y1 gg BWY
      clear hz hWY LF u1'
      go_wp2_with fail
      refine bodyPost_ret (v := .tuple #[.agg #[.slice none 0 0, .slice none 0 0], .slice (some ⟨WC.heap.size, 0, none⟩) 0 0, .bool false]) (by simp [results, Try.results5, go_sem, y0, y1]) rfl ?_
      refine NO.out NN.out _ _ ?_
      repeat (refine Below.setCell ?_ (by simp) _)
      exact BWY.out.alloc BWY.out.size _
    · have t0 : ((T.s : Int) == 0) = false := beq_eq_false_iff_ne.2 (by omega)
      have YES := hide (show SxOk n m L M q k v' win from ⟨⟨HC.out, HR_q.out, HR_k.out, HR_v.out, HQK.out, ⟨hw0, hw1⟩, HN.out, AA.out⟩, by rw [HT.out]; exact hz⟩)
      clear hz hWY LF
      go_wp2_with fail
      rw [HWY.out]
      clear u0 u1 zz0 zz1 fz
      obtain ⟨⟨x0, x1⟩, -⟩ := LDX.out WY BY.out
      obtain ⟨⟨-, ⟨y0, y1⟩, gg⟩, -⟩ := ALL.out WY BY0.out
      unfold Free at gg
      have pR : w.heap.size + 2 ≤ p ∧ w.heap.size + 2 ≤ p' := by have := HPP.out; have := B3.out.size; omega
      have SE := hide (show ∀ (u0 u1 : Value) (j : Nat), ((WY.setCell ⟨w.heap.size + 1, 0, none⟩ u0).setCell ⟨w.heap.size + 1, 1, none⟩ u1).drew.cell? ⟨p, j, none⟩ = WY.cell? ⟨p, j, none⟩ from fun u0 u1 j => by
        show ((WY.setCell ⟨w.heap.size + 1, 0, none⟩ u0).setCell ⟨w.heap.size + 1, 1, none⟩ u1).cell? ⟨p, j, none⟩ = _
        rw [World.cell?_setCell_other _ _ _ _ (by intro e; injection e with e _ _; omega), World.cell?_setCell_other _ _ _ _ (by intro e; injection e with e _ _; omega)])
      have SF := hide (show ∀ (u0 u1 : Value) (j : Nat), ((WY.setCell ⟨w.heap.size + 1, 0, none⟩ u0).setCell ⟨w.heap.size + 1, 1, none⟩ u1).drew.cell? ⟨p', j, none⟩ = WY.cell? ⟨p', j, none⟩ from fun u0 u1 j => by
        show ((WY.setCell ⟨w.heap.size + 1, 0, none⟩ u0).setCell ⟨w.heap.size + 1, 1, none⟩ u1).cell? ⟨p', j, none⟩ = _
        rw [World.cell?_setCell_other _ _ _ _ (by intro e; injection e with e _ _; omega), World.cell?_setCell_other _ _ _ _ (by intro e; injection e with e _ _; omega)])
      have hR := hide ((BY0.out.block (w.heap.size + 1) (by omega)).trans HR0.out)
      go_region_held3 (fun w' => w'.cell? ⟨p, 0, none⟩ = some (.slice (some ⟨g1, stN (n + 1) win, none⟩) (nk n win) c1) ∧ w'.cell? ⟨p, 1, none⟩ = some (.slice (some ⟨g2, stN (m + 1) win, none⟩) (nk m win) c2) ∧ w'.cell? ⟨p', 1, none⟩ = some (.slice tb T.s td))
        ((try dsimp only) <;> (repeat' apply And.intro) <;> (first | with_reducible assumption | assumption | (rw [SE.out]; assumption) | (rw [SF.out]; assumption)))
        (fail)
      clear SE SF
      go_wp2_with fail
      refine bodyPost_ret (v := .tuple #[.agg #[.slice (some ⟨g1, stN (n + 1) win, none⟩) (nk n win) c1, .slice (some ⟨g2, stN (m + 1) win, none⟩) (nk m win) c2], .slice tb T.s td, .bool true]) (by simp [results, Try.results5, go_sem, y0, y1]) rfl ?_
      refine .inl ⟨YES.out, ?_⟩
      have hs' : ∀ u0 u1 : Value, ((WY.setCell ⟨w.heap.size + 1, 0, none⟩ u0).setCell ⟨w.heap.size + 1, 1, none⟩ u1).drew.heap.size = WY.heap.size := fun u0 u1 => by rw [drewSz]; simp [World.setCell]
      have la := fun (u0 u1 : Value) => ((ll_set2 (LDX.out WY BY.out).2.1 zY RR1.out hR.out u0 u1).below ((Below.refl _ _).drew)).mono (B' := ((WY.setCell ⟨w.heap.size + 1, 0, none⟩ u0).setCell ⟨w.heap.size + 1, 1, none⟩ u1).drew.heap.size) (by rw [hs']; exact zY)
      have lb := fun (u0 u1 : Value) => ((ll_set2 (LDX.out WY BY.out).2.2.1 zY RR2.out hR.out u0 u1).below ((Below.refl _ _).drew)).mono (B' := ((WY.setCell ⟨w.heap.size + 1, 0, none⟩ u0).setCell ⟨w.heap.size + 1, 1, none⟩ u1).drew.heap.size) (by rw [hs']; exact zY)
      have ov := fun (u0 u1 : Value) => (OY.out.kept (kept_sets2 WY (w.heap.size + 1) u0 u1) (fun b hb e => by have := (OY.out.blk hb).1; have := B3.out.size; have e : b = w.heap.size + 1 := e; omega)).t.ints.below ((Below.refl _ _).drew)
      unfold SxY
      rw [HT.out]
      exact ⟨⟨g1, stN (n + 1) win, none⟩, c1, ⟨g2, stN (m + 1) win, none⟩, c2, M1, M2, tb, td, rfl, la _ _, lb _ _, S1.out, S2.out, ov _ _, ((BWY.out.setCell (p := ⟨w.heap.size + 1, 0, none⟩) (by show w.heap.size ≤ w.heap.size + 1; omega) _).setCell (p := ⟨w.heap.size + 1, 1, none⟩) (by show w.heap.size ≤ w.heap.size + 1; omega) _).drew⟩
end Vo
end Go.Proofs.Ytjlmbeachanlfaa

/- AttendNext: both sides give the same, plain. -/
namespace Go.Proofs.Ytjlmbeachanlfaa
namespace Vo
open Go.ChangeShapes Go.WideShapes Go.ChangeAt Go.RowKit Go.Joins Go.Sort
open Vl Vp Vr
set_option linter.unusedVariables false
set_option linter.unusedSimpArgs false
def qU (q : LV) : PT := ⟨2, q.r, two 1 q.r, q.D⟩
theorem zero_ok : (pt PT.zero).ok = false := by
  unfold TV.ok
  exact tok_no2 (by show ((0 : Nat) : Int) ≠ szR _ 0; unfold szR; decide)
theorem rows_ok {N r : Nat} {K : Nat → LV} (h : (pt (rowsT N r K)).ok = true ∨ (pt (rowsU N r K)).ok = true) : rowsT N r K = rowsU N r K := by
  by_cases hd : dok 2 (two N r) = true
  · unfold rowsT rowsU; rw [if_pos hd]
  · rcases h with h | h
    · unfold rowsT at h
      rw [if_neg hd, zero_ok] at h
      cases h
    · have : tok 2 (N * r) (two N r) (rowsS r K) = false := tok_no1 (by simpa using hd)
      have h : tok 2 (N * r) (two N r) (rowsS r K) = true := h
      rw [this] at h
      cases h
theorem q_ok {q : LV} (h : (pt (qT q)).ok = true ∨ (pt (qU q)).ok = true) : qT q = qU q := by
  by_cases hd : dok 2 (two 1 q.r) = true
  · unfold qT qU; rw [if_pos hd]
  · rcases h with h | h
    · unfold qT at h
      rw [if_neg hd, zero_ok] at h
      cases h
    · have : tok 2 q.r (two 1 q.r) q.D = false := tok_no1 (by simpa using hd)
      have h : tok 2 q.r (two 1 q.r) q.D = true := h
      rw [this] at h
      cases h
/-- whether attention is given hangs on neither kind -/
theorem ao_same {q : LV} {N r N' r' : Nat} {K V : Nat → LV} (h : AttOk (pt (qT q)) (pt (rowsT N r K)) (pt (rowsT N' r' V)) ∨ AttOk (pt (qU q)) (pt (rowsU N r K)) (pt (rowsU N' r' V))) :
    qT q = qU q ∧ rowsT N r K = rowsU N r K ∧ rowsT N' r' V = rowsU N' r' V := by
  rcases h with h | h
  · exact ⟨q_ok (.inl h.1.1), rows_ok (.inl h.2.1.1), rows_ok (.inl h.2.2.1.1)⟩
  · exact ⟨q_ok (.inr h.1.1), rows_ok (.inr h.2.1.1), rows_ok (.inr h.2.2.1.1)⟩
/-- a window that is not shorter than what is there -/
theorem from_all {win : Int} {N : Nat} (h : win = 0 ∨ (N : Int) ≤ win) : fromA win 1 N 0 = fromA 0 1 N 0 := by
  unfold fromA upA
  split <;> (try split) <;> omega
theorem nk_win (n : Nat) {win : Int} (h : 0 ≤ win) : win = 0 ∨ ((nk n win : Nat) : Int) ≤ win := by
  by_cases e : win = 0
  · exact .inl e
  · refine .inr ?_
    unfold nk stN
    rw [if_neg e]
    omega
theorem att_win {Q K V : TV} {win : Int} (hw : 0 ≤ win ∧ win ≤ 4096) (hn : Q.D 0 = 1) (h : win = 0 ∨ K.D 0 ≤ win) : (attP Q K V win).s = (attP Q K V 0).s ∧ ∀ j, j < (attP Q K V 0).s → (attP Q K V win).S j = (attP Q K V 0).S j := by
  by_cases ho : AttOk Q K V
  · rw [attP_yes ⟨ho, hw⟩, attP_yes ⟨ho, by omega, by omega⟩]
    refine ⟨rfl, fun j hj => ?_⟩
    have hj : j < (Q.D 0).toNat * (V.D 1).toNat := hj
    rw [hn] at hj
    show attS Q K V win (Q.D 0).toNat (K.D 0).toNat (K.D 1).toNat (V.D 1).toNat j = attS Q K V 0 (Q.D 0).toNat (K.D 0).toNat (K.D 1).toNat (V.D 1).toNat j
    unfold attS
    have e0 : j / (V.D 1).toNat = 0 := Nat.div_eq_of_lt (by simpa using hj)
    have e1 : (Q.D 0).toNat = 1 := by rw [hn]; rfl
    rw [e0, e1, from_all (N := (K.D 0).toNat) (win := win) (by omega)]
  · rw [attP_no (fun c => ho c.1), attP_no (fun c => ho c.1)]
    exact ⟨rfl, fun _ _ => rfl⟩
/-- what both sides give -/
theorem nx_sx (n m : Nat) (L M : Nat → LV) (q k v : LV) {win : Int} (hw : 0 ≤ win ∧ win ≤ 4096) : (sxP n m L M q k v win).s = (nxP n m L M q k v win).s ∧ ∀ j, j < (nxP n m L M q k v win).s → (sxP n m L M q k v win).S j = (nxP n m L M q k v win).S j := by
  unfold sxP nxP
  by_cases h : AttOk (pt (qT q)) (pt (rowsT (nk n win) k.r (lastR (appR L n k) (stN (n + 1) win)))) (pt (rowsT (nk m win) v.r (lastR (appR M m v) (stN (m + 1) win)))) ∨ AttOk (pt (qU q)) (pt (rowsU (nk n win) k.r (lastR (appR L n k) (stN (n + 1) win)))) (pt (rowsU (nk m win) v.r (lastR (appR M m v) (stN (m + 1) win))))
  · obtain ⟨e1, e2, e3⟩ := ao_same h
    rw [e1, e2, e3]
    exact att_win hw rfl (nk_win n hw.1)
  · have h1 := attP_no (w := 0) (fun c => h (.inl c.1))
    have h2 := attP_no (w := win) (fun c => h (.inr c.1))
    rw [h1]
    unfold qU at h2
    rw [h2]
    exact ⟨rfl, fun _ _ => rfl⟩
theorem tok_att {Q K V : TV} {win : Int} (h : AttOk Q K V ∧ 0 ≤ win ∧ win ≤ 4096) : tok (attP Q K V win).r (attP Q K V win).s (attP Q K V win).D (attP Q K V win).S = true ∧ (attP Q K V win).s ≠ 0 := by
  rw [attP_yes h]
  refine ⟨tok_yes (attD_ok h.1).1 (attD_ok h.1).2.symm (fun j hj => ti_rng _ _), ?_⟩
  obtain ⟨n, m, c, e, d1, d2, d3, d4, d5, d6, n1, nm, c1, e1, _⟩ := att_sizes h.1
  show (Q.D 0).toNat * (V.D 1).toNat ≠ 0
  rw [d1, d6, Int.toNat_natCast, Int.toNat_natCast]
  exact Nat.ne_of_gt (Nat.mul_pos (by omega) (by omega))
theorem rowsA_app {n : Nat} {L : Nat → LV} {k : LV} : RowsA (n + 1) (appR L n k) ↔ RowsA n L ∧ rowB k.r k.D = true ∧ (0 < n → (L 0).r = k.r) := by
  have en : appR L n k n = k := by unfold appR; rw [if_pos rfl]
  have ei : ∀ i, i < n → appR L n k i = L i := fun i hi => by unfold appR; rw [if_neg (by omega)]
  constructor
  · intro h
    have hn := h n (by omega)
    rw [en] at hn
    refine ⟨fun i hi => ?_, hn.2, fun h0 => ?_⟩
    · have := h i (by omega)
      rw [ei i hi, ei 0 (by omega)] at this
      exact this
    · rw [ei 0 h0] at hn
      exact hn.1.symm
  · rintro ⟨h1, h2, h3⟩ i hi
    have h0 : (appR L n k 0).r = k.r := by
      by_cases z : n = 0
      · subst z; rw [en]
      · rw [ei 0 (by omega)]; exact h3 (by omega)
    by_cases e : i = n
    · subst e; rw [h0, en]; exact ⟨rfl, h2⟩
    · have hi' : i < n := by omega
      rw [h0, ei i hi']
      exact ⟨(h1 i hi').1.trans (h3 (by omega)), (h1 i hi').2⟩
theorem sx_nx {n m : Nat} {L M : Nat → LV} {q k v : LV} {win : Int} (h : SxOk n m L M q k v win) : NxOk n m L M q k v win := by
  obtain ⟨⟨h1, h2, h3, h4, h5, h6, h7, h8⟩, hs⟩ := h
  have hc := h1
  unfold cacheB at hc
  simp only [Bool.and_eq_true, decide_eq_true_eq] at hc
  have nm : n = m := hc.1.1.1
  refine ⟨⟨h1, h6, rowsA_app.2 ⟨hc.1.2, h3, fun z => (h8 z).1⟩, rowsA_app.2 ⟨hc.2, h4, fun z => (h8 (by omega)).2⟩⟩, ?_⟩
  have ao : AttOk (pt (qU q)) (pt (rowsU (nk n win) k.r (lastR (appR L n k) (stN (n + 1) win)))) (pt (rowsU (nk m win) v.r (lastR (appR M m v) (stN (m + 1) win)))) := by
    apply Decidable.byContradiction
    intro c
    apply hs
    unfold sxP
    have := attP_no (w := win) (fun z => c z.1)
    unfold qU at this
    rw [this]
    rfl
  obtain ⟨e1, e2, e3⟩ := ao_same (.inr ao)
  unfold nxP
  rw [e1, e2, e3]
  exact (tok_att ⟨ao, by omega, by omega⟩).1
theorem nx_sx_ok {n m : Nat} {L M : Nat → LV} {q k v : LV} {win : Int} (h : NxOk n m L M q k v win) : SxOk n m L M q k v win := by
  obtain ⟨⟨h1, h6, ha, hb⟩, ht⟩ := h
  have hc := h1
  unfold cacheB at hc
  simp only [Bool.and_eq_true, decide_eq_true_eq] at hc
  have nm : n = m := hc.1.1.1
  have ao : AttOk (pt (qT q)) (pt (rowsT (nk n win) k.r (lastR (appR L n k) (stN (n + 1) win)))) (pt (rowsT (nk m win) v.r (lastR (appR M m v) (stN (m + 1) win)))) := by
    apply Decidable.byContradiction
    intro c
    unfold nxP at ht
    rw [attP_no (w := 0) (fun z => c z.1)] at ht
    have := zero_ok
    unfold TV.ok pt at this
    rw [this] at ht
    cases ht
  obtain ⟨e1, e2, e3⟩ := ao_same (.inl ao)
  rw [e1, e2, e3] at ao
  obtain ⟨ra, rk, rq⟩ := rowsA_app.1 ha
  obtain ⟨rb, rv, rw'⟩ := rowsA_app.1 hb
  have tq : tok 2 q.r (two 1 q.r) q.D = true := ao.1.1
  have tk : tok 2 (nk n win * k.r) (two (nk n win) k.r) (rowsS k.r (lastR (appR L n k) (stN (n + 1) win))) = true := ao.2.1.1
  have k1 : 1 ≤ k.r := by
    unfold rowB at rk
    simp only [Bool.and_eq_true, decide_eq_true_eq] at rk
    exact rk.1.1
  have n4 : nk n win ≤ 4096 := by
    have q1 := tok_le tk
    have q2 : nk n win * 1 ≤ nk n win * k.r := Nat.mul_le_mul_left _ k1
    omega
  have qr : rowB q.r q.D = true := by
    obtain ⟨a, e, d0, d1, a1, e1, _, s4⟩ := two_len tq
    have d1 : (q.r : Int) = (e : Int) := d1
    unfold rowB
    rw [decide_eq_true (show 1 ≤ q.r by omega), decide_eq_true (show q.r ≤ 4096 by omega)]
    have := (tok_split tq).2.2
    unfold wi
    rw [decide_eq_true this]
    rfl
  have la : ∀ {n : Nat} {K : Nat → LV}, RowsA (n + 1) K → RowsA (nk n win) (lastR K (stN (n + 1) win)) := fun {n K} hK i hi => by
    have z : stN (n + 1) win + i < n + 1 := by unfold nk at hi; omega
    have z0 : stN (n + 1) win + 0 < n + 1 := by omega
    exact ⟨(hK _ z).1.trans (hK _ z0).1.symm, (hK _ z).2⟩
  refine ⟨⟨h1, qr, rk, rv, ?_, h6, ?_, fun z => ⟨rq z, rw' (by omega)⟩⟩, ?_⟩
  · have : (q.r : Int) = (k.r : Int) := ao.2.2.2.1
    omega
  · unfold cacheB
    rw [decide_eq_true (show nk n win = nk m win by rw [nm]), decide_eq_true n4, decide_eq_true (la ha), decide_eq_true (la hb)]
    rfl
  · have := (tok_att (win := win) ⟨ao, h6.1, h6.2⟩).2
    unfold qU at this
    exact this
end Vo
end Go.Proofs.Ytjlmbeachanlfaa
