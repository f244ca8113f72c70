/- Lemmas for the proof of the law. -/
import Derived.Test.YtflbhlepmjiejaaMrb
import Derived.Test.YtflbhlepmjiejaaMre
import Derived.Test.YtflbhlepmjiejaaOm
import Derived.Deep.AppendLies
import Derived.Test.YtflbhlepmjiejaaMra
import Derived.Test.YtflbhlepmjiejaaRhc
import Derived.Test.YtflbhlepmjiejaaEi
import Derived.Test.YtflbhlepmjiejaaEv
/- States that a law draws (written by tools/genbd.py). -/
namespace Go.Proofs.Ytflbhlepmjiejaa
namespace Vo
open Go.ChangeShapes Go.WideShapes Go.ChangeAt Go.RowKit Go.Joins Go.Sort
open Vl
set_option linter.unusedVariables false
set_option linter.unusedSimpArgs false
section
variable {o : Oper} {A : Act} {w : World} {x y : Operand}
theorem runBS1 {z : Int} (ho : o.op = .buildSlice 28 1 #[(0, x)]) (hx : A.eval x = .int .i64 z) : (execOp A.eval o).run Try.prog w = .ok (.value (.slice (some ⟨w.heap.size, 0, none⟩) 1 1)) (w.alloc (.cells #[.int .i64 z] 3)) := by
  unfold execOp
  rw [ho]
  simp only [List.map_toArray, List.map_cons, List.map_nil, hx]
  go_simp
theorem runSubC {z c q : Int} (ho : o.op = .binOp .sub 3 x (.const (.int .i64 c)) 3) (hx : A.eval x = .int .i64 z) (hq : IntKind.i64.wrap (z - c) = q) : (execOp A.eval o).run Try.prog w = .ok (.value (.int .i64 q)) w := by
  unfold execOp
  rw [ho]
  simp only [hx]
  go_simp
/-- a number is put behind a list that is one's own -/
theorem lands_app {K : Value → World → Prop} (ho : o.op = .call { callee := .builtin .append, args := #[x, y], argTypes := #[28, 28] }) {base k g : Nat} {v : Value} {D : Nat → Int} {z : Int} (hx : A.eval x = v) (hv : RowV base w v k D) (hy : A.eval y = .slice (some ⟨g, 0, none⟩) 1 1) (hg : w.heap[g]? = some (.cells #[.int .i64 z] 3 (0, 0))) (hz : bd z) (hk : k ≤ 4096) (hb : base ≤ w.heap.size)
    (h : ∀ g' c w', RowV base w' (.slice (some ⟨g', 0, none⟩) (k + 1) c) (k + 1) (upI D k z) → w.grownBy w' v.ownBlock → (v.ownBlock = some g' ∨ g' = w.heap.size) → K (.slice (some ⟨g', 0, none⟩) (k + 1) c) w') : Qf.lands Try.prog o A w K := by
  obtain ⟨i0, hi0, hz0, hz1, hz2⟩ := info_parts infoInt
  obtain ⟨g', c, w', hr, h2, h3, h4, h5⟩ := run_append_lies (P := Try.prog) w 28 o.type base 3 i0 _ 1 8 Try.underlying28 hi0 hz0 hz1 hz2 rfl (by decide) v k (ints k D) hv.1 ⟨g, 0, none⟩ 1 1 [.int .i64 z] (by rfl) (World.news_of_block (cs := #[.int .i64 z]) (t := 3) (fr := (0, 0)) hg) (by simp [Value.oneCell']) (by decide) (by unfold maxLen; omega) (by omega) hb _ rfl
  rw [ints_up] at h2
  unfold Qf.lands execOp
  simp only [ho, resolve, invoke, builtin, Sem.run_bind, Sem.run_pure, Result.andThen_ok, List.map_toArray, List.map_cons, List.map_nil, hx, hy, hr]
  exact h g' c w' ⟨h2, bd_up hv.2 hz⟩ h3 h4
end
theorem own_grown {B r : Nat} {w w' : World} {b : Option Nat} {v : Value} {D : Nat → Int} (h : RowV B w v r D) (g : w.grownBy w' b) (hb : ∀ k, b = some k → v.ownBlock ≠ some k) : RowV B w' v r D := by
  refine ⟨h.1.kept g ?_, h.2⟩
  cases hv : v.ownBlock with
  | none => exact .inl rfl
  | some k => exact .inr (fun e => hb k e.symm hv)
theorem heap_lt {w : World} {q : Nat} {o : Obj} (h : w.heap[q]? = some o) : q < w.heap.size := (Array.getElem?_eq_some_iff.1 h).1
theorem own_lt {B r : Nat} {w : World} {v : Value} {D : Nat → Int} (h : RowV B w v r D) : ∀ k, v.ownBlock = some k → B ≤ k ∧ k < w.heap.size := h.1.lt
theorem own_celA {B r q i : Nat} {w : World} {v u : Value} {D : Nat → Int} (h : RowV B w v r D) (hq : q < B) : RowV B (w.setCell ⟨q, i, none⟩ u) v r D := ⟨ownsRow_setCell_below h.1 (a := ⟨q, i, none⟩) hq u, h.2⟩
theorem cur_belA {B p : Nat} {a : Option Addr} {len cap : Nat} {w w' : World} (h : Base.Cur B w p a len cap) (b : Below w.heap.size w w') : Base.Cur B w' p a len cap := by
  have hl := h.lt
  obtain ⟨hp, hcode, c0, ⟨i, g, c1, c2, q⟩, f1, f2⟩ := h
  refine ⟨hp, hcode.below (b.mono (by omega)), ?_, ⟨i, g, ?_, ?_, q⟩, ?_, ?_⟩
  · rw [b.cell (p := ⟨p, 0, none⟩) hl]; exact c0
  · rw [b.cell (p := ⟨p, 1, none⟩) hl]; exact c1
  · rw [b.cell (p := ⟨p, 2, none⟩) hl]; exact c2
  · rw [b.frozen (p := ⟨p, 1, none⟩) hl]; exact f1
  · rw [b.frozen (p := ⟨p, 2, none⟩) hl]; exact f2
def OW (v0 v1 v2 : Value) (c f g : Int) (i : Nat) : Value := #[v0, v1, v2, .int .i64 c, .int .i64 f, .int .i64 g].getD i undef
def Z6 (i : Nat) : Value := #[Value.slice none 0 0, .slice none 0 0, .slice none 0 0, .int .i64 0, .int .i64 0, .int .i64 0].getD i undef
theorem DS.far {n : Nat} {w X X' : World} {B p : Nat} {a : Option Addr} {len cap vb : Nat} {V R : Nat → Value} {b : Option Nat} (h : DS n w X B p a len cap vb V R) (hB : B ≤ w.heap.size) (g : X.grownBy X' b) (hb : ∀ k, b = some k → vb < k) : DS n w X' B p a len cap vb V R := by
  have pw := h.pw
  have wV := h.wV
  have VX := h.VX
  have ne : ∀ q, q ≤ vb → q < X.heap.size → X'.heap[q]? = X.heap[q]? := fun q h1 h2 => g.block q h2 (fun e => by have := hb q e.symm; omega)
  have cl : ∀ q i, q ≤ vb → q < X.heap.size → X'.cell? ⟨q, i, none⟩ = X.cell? ⟨q, i, none⟩ := fun q i h1 h2 => World.cell?_of_block (w := X) (a := ⟨q, i, none⟩) (ne q h1 h2)
  have fz : ∀ q i, q ≤ vb → q < X.heap.size → X'.frozen? ⟨q, i, none⟩ = X.frozen? ⟨q, i, none⟩ := fun q i h1 h2 => World.frozen?_of_block (w := X) (a := ⟨q, i, none⟩) (ne q h1 h2)
  have kk : Kept (fun k => b = some k) X X' := keptO g
  refine ⟨cur_kept h.cur kk (fun e => by have := hb p e; omega) (fun q e => by have := hb q e; omega), grown_kept h.gr kk (fun q e => by have := hb q e; omega), fun i hi => (cl vb i (Nat.le_refl _) VX).trans (h.c i hi), fun i => (fz vb i (Nat.le_refl _) VX).trans (h.fz i), fun i hi => (cl _ i (by omega) (by omega)).trans (h.r i hi), fun i => (fz _ i (by omega) (by omega)).trans (h.rf i), pw, wV, Nat.lt_of_lt_of_le VX g.size⟩
/-- a state is being drawn: three lists that grow -/
structure OD (w X : World) (B p : Nat) (a : Option Addr) (len cap vb k0 k1 k2 : Nat) (v0 v1 v2 : Value) (D0 D1 D2 : Nat → Int) (c f g : Int) : Prop where
  d : DS 6 w X B p a len cap vb (OW v0 v1 v2 c f g) Z6
  r0 : RowV (vb + 1) X v0 k0 D0
  r1 : RowV (vb + 1) X v1 k1 D1
  r2 : RowV (vb + 1) X v2 k2 D2
  n01 : ∀ b, v0.ownBlock = some b → v1.ownBlock ≠ some b
  n02 : ∀ b, v0.ownBlock = some b → v2.ownBlock ≠ some b
  n12 : ∀ b, v1.ownBlock = some b → v2.ownBlock ≠ some b
section
variable {w X X' : World} {B p : Nat} {a : Option Addr} {len cap vb k0 k1 k2 : Nat} {v0 v1 v2 : Value} {D0 D1 D2 : Nat → Int} {c f g : Int}
theorem OD.np (h : OD w X B p a len cap vb k0 k1 k2 v0 v1 v2 D0 D1 D2 c f g) : p < vb := by have := h.d.pw; have := h.d.wV; omega
theorem OD.draw (h : OD w X B p a len cap vb k0 k1 k2 v0 v1 v2 D0 D1 D2 c f g) (q : X.grownBy X' (some p)) (d : Base.Cur B X' p a len cap) : OD w X' B p a len cap vb k0 k1 k2 v0 v1 v2 D0 D1 D2 c f g := by
  have np := h.np
  exact ⟨h.d.draw q d, own_grown h.r0 q (by rintro k ⟨⟩ e; have := (own_lt h.r0 _ e).1; omega), own_grown h.r1 q (by rintro k ⟨⟩ e; have := (own_lt h.r1 _ e).1; omega), own_grown h.r2 q (by rintro k ⟨⟩ e; have := (own_lt h.r2 _ e).1; omega), h.n01, h.n02, h.n12⟩
end
/-- a list that was drawn: it lies behind the variable -/
def L3 (vb : Nat) (X : World) (a : Option Addr) (n c : Nat) (D : Nat → Int) : Prop := Ints X.heap.size X a n D ∧ (a = none → n = 0 ∧ c = 0) ∧ (∀ ad, a = some ad → vb < ad.block) ∧ n ≤ 6
theorem L3.kept {vb n c : Nat} {X X' : World} {a : Option Addr} {D : Nat → Int} {S : Nat → Prop} (h : L3 vb X a n c D) (k : Kept S X X') (hs : ∀ ad, a = some ad → ¬ S ad.block) : L3 vb X' a n c D := by
  obtain ⟨h1, h2, h3, h4⟩ := h
  refine ⟨?_, h2, h3, h4⟩
  rcases h1 with h1 | ⟨b, off, e, hb, hc⟩
  · exact .inl h1
  · exact .inr ⟨b, off, e, Nat.lt_of_lt_of_le hb k.size, fun j hj => ⟨(World.cell?_of_block (w := X) (a := ⟨b, off + j, none⟩) (k.block b hb (hs _ e))).trans (hc j hj).1, (hc j hj).2⟩⟩
theorem row_L3 {vb k : Nat} {X : World} {v : Value} {D : Nat → Int} (h : RowV (vb + 1) X v k D) (hk : k ≤ 6) : ∃ a c, v = .slice a k c ∧ L3 vb X a k c D := by
  have h0 := h
  obtain ⟨⟨_, ⟨rfl, rfl⟩ | ⟨g, cap, cur, rfl, hg, rest⟩⟩, hb⟩ := h
  · exact ⟨none, 0, rfl, .inl rfl, fun _ => ⟨rfl, rfl⟩, (fun ad e => by cases e), by omega⟩
  · obtain ⟨a', c', e, o⟩ := h0.own
    injection e with e1 e2 e3
    subst e1
    subst e3
    exact ⟨_, _, rfl, o.ints, (fun e => by cases e), (fun ad e => by cases e; exact hg), hk⟩
theorem row_some {vb k : Nat} {X : World} {v : Value} {D : Nat → Int} (h : RowV (vb + 1) X v k D) (hk : 0 < k) : ∃ g c, v = .slice (some ⟨g, 0, none⟩) k c ∧ vb < g ∧ k ≤ c ∧ Rw X g k D := by
  have h0 := h
  obtain ⟨⟨_, ⟨rfl, rfl⟩ | ⟨g, cap, cur, rfl, hg, _, hkc, rest⟩⟩, hb⟩ := h
  · omega
  · obtain ⟨a', c', e, o⟩ := h0.own
    injection e with e1 e2 e3
    rcases o with o | ⟨g2, e4, _, r⟩
    · omega
    · rw [← e1] at e4
      cases e4
      exact ⟨g, cap, rfl, hg, hkc, r⟩
/-- what has been drawn of a state -/
def OpD (w X : World) (B p : Nat) (a : Option Addr) (len cap vb : Nat) : Prop :=
  ∃ (a0 a1 a2 : Option Addr) (n0 c0 n1 c1 n2 c2 : Nat) (D0 D1 D2 : Nat → Int) (c f g : Int), DS 6 w X B p a len cap vb (OW (.slice a0 n0 c0) (.slice a1 n1 c1) (.slice a2 n2 c2) c f g) Z6 ∧ (L3 vb X a0 n0 c0 D0 ∧ L3 vb X a1 n1 c1 D1 ∧ L3 vb X a2 n2 c2 D2) ∧ bd c ∧ bd f ∧ bd g
theorem OD.op {w X : World} {B p : Nat} {a : Option Addr} {len cap vb k : Nat} {v0 v1 v2 : Value} {D0 D1 D2 : Nat → Int} {c f g : Int} (h : OD w X B p a len cap vb k k k v0 v1 v2 D0 D1 D2 c f g) (hk : k ≤ 6) (hc : bd c) (hf : bd f) (hg : bd g) : OpD w X B p a len cap vb := by
  obtain ⟨a0, c0, rfl, l0⟩ := row_L3 h.r0 hk
  obtain ⟨a1, c1, rfl, l1⟩ := row_L3 h.r1 hk
  obtain ⟨a2, c2, rfl, l2⟩ := row_L3 h.r2 hk
  exact ⟨a0, a1, a2, k, c0, k, c1, k, c2, D0, D1, D2, c, f, g, h.d, ⟨l0, l1, l2⟩, hc, hf, hg⟩
theorem OD.setI {w X : World} {B p : Nat} {a : Option Addr} {len cap vb k : Nat} {v0 v1 v2 : Value} {D0 D1 D2 : Nat → Int} {c f g : Int} (h : OD w X B p a len cap vb k k k v0 v1 v2 D0 D1 D2 c f g) (hB : B ≤ w.heap.size) (x : Int) : OD w (X.setCell ⟨vb, 3, none⟩ (.int .i64 x)) B p a len cap vb k k k v0 v1 v2 D0 D1 D2 x f g ∧ OD w (X.setCell ⟨vb, 4, none⟩ (.int .i64 x)) B p a len cap vb k k k v0 v1 v2 D0 D1 D2 c x g :=
  ⟨⟨(h.d.set hB 3 _ (by omega)).same (fun i hi => by rcases (by omega : i = 0 ∨ i = 1 ∨ i = 2 ∨ i = 3 ∨ i = 4 ∨ i = 5) with rfl | rfl | rfl | rfl | rfl | rfl <;> rfl), own_celA h.r0 (Nat.lt_succ_self _), own_celA h.r1 (Nat.lt_succ_self _), own_celA h.r2 (Nat.lt_succ_self _), h.n01, h.n02, h.n12⟩,
   ⟨(h.d.set hB 4 _ (by omega)).same (fun i hi => by rcases (by omega : i = 0 ∨ i = 1 ∨ i = 2 ∨ i = 3 ∨ i = 4 ∨ i = 5) with rfl | rfl | rfl | rfl | rfl | rfl <;> rfl), own_celA h.r0 (Nat.lt_succ_self _), own_celA h.r1 (Nat.lt_succ_self _), own_celA h.r2 (Nat.lt_succ_self _), h.n01, h.n02, h.n12⟩⟩
theorem runBS3 {o : Oper} {A : Act} {w : World} {x y z : Int} (ho : o.op = .buildSlice 28 3 #[(0, .const (.int .i64 x)), (1, .const (.int .i64 y)), (2, .const (.int .i64 z))]) : (execOp A.eval o).run Try.prog w = .ok (.value (.slice (some ⟨w.heap.size, 0, none⟩) 3 3)) (w.alloc (.cells #[.int .i64 x, .int .i64 y, .int .i64 z] 3)) := by
  unfold execOp
  rw [ho]
  simp only [List.map_toArray, List.map_cons, List.map_nil, Act.eval]
  go_simp
theorem runIx0 {o : Oper} {A : Act} {w : World} {x : Operand} {g n c : Nat} (ho : o.op = .indexAddr 28 x (.const (.int .i64 0))) (hx : A.eval x = .slice (some ⟨g, 0, none⟩) n c) (hn : 0 < n) : (execOp A.eval o).run Try.prog w = .ok (.value (.pointer (some ⟨g, 0, none⟩))) w := by
  have h := runIx (o := { o with op := .indexAddr 28 x (.const (.int .i64 ((0 : Nat) : Int))) }) (A := A) (w := w) (x := x) (y := .const (.int .i64 ((0 : Nat) : Int))) (j := 0) rfl hx rfl hn
  unfold execOp at h ⊢
  rw [ho]
  exact h
/-- a number of a drawn list is put in -/
theorem OD.pick0 {w X : World} {B p : Nat} {a : Option Addr} {len cap vb k : Nat} {g0 g1 g2 c0 c1 c2 : Nat} {D0 D1 D2 : Nat → Int} {c f g x : Int} (h : OD w X B p a len cap vb k k k (.slice (some ⟨g0, 0, none⟩) k c0) (.slice (some ⟨g1, 0, none⟩) k c1) (.slice (some ⟨g2, 0, none⟩) k c2) D0 D1 D2 c f g) (hB : B ≤ w.heap.size) (hk : k ≤ 6) (k0 : 0 < k) (hc : bd c) (hf : bd f) (hg : bd g) (hx : bd x) :
    OpD w (X.setCell ⟨g0, 0, none⟩ (.int .i64 x)) B p a len cap vb ∧ OpD w (X.setCell ⟨g1, 0, none⟩ (.int .i64 x)) B p a len cap vb ∧ OpD w (X.setCell ⟨g2, 0, none⟩ (.int .i64 x)) B p a len cap vb := by
  have ne : g0 ≠ g1 ∧ g0 ≠ g2 ∧ g1 ≠ g2 := ⟨fun e => h.n01 g0 rfl (by rw [e]; rfl), fun e => h.n02 g0 rfl (by rw [e]; rfl), fun e => h.n12 g1 rfl (by rw [e]; rfl)⟩
  obtain ⟨q0, d0, e0, v0, m0, R0⟩ := row_some h.r0 k0
  obtain ⟨q1, d1, e1, v1, m1, R1⟩ := row_some h.r1 k0
  obtain ⟨q2, d2, e2, v2, m2, R2⟩ := row_some h.r2 k0
  cases e0
  cases e1
  cases e2
  have L : ∀ (q cc : Nat) (D : Nat → Int) (Y : World), vb < q → Rw Y q k D → L3 vb Y (some ⟨q, 0, none⟩) k cc D := fun q cc D Y hq r => ⟨r.ints (r.lt (by omega)), (fun e => by cases e), (fun ad e => by cases e; exact hq), hk⟩
  refine ⟨⟨_, _, _, k, c0, k, c1, k, c2, _, D1, D2, c, f, g, h.d.far hB (Lib.grownBy_setCell X g0 0 _) (by rintro q ⟨⟩; exact v0), ⟨L g0 c0 _ _ v0 (R0.set 0 x hx), L g1 c1 _ _ v1 (R1.kept (Kept.setCell X ⟨g0, 0, none⟩ _) (fun e => ne.1 e.symm)), L g2 c2 _ _ v2 (R2.kept (Kept.setCell X ⟨g0, 0, none⟩ _) (fun e => ne.2.1 e.symm))⟩, hc, hf, hg⟩,
    ⟨_, _, _, k, c0, k, c1, k, c2, D0, _, D2, c, f, g, h.d.far hB (Lib.grownBy_setCell X g1 0 _) (by rintro q ⟨⟩; exact v1), ⟨L g0 c0 _ _ v0 (R0.kept (Kept.setCell X ⟨g1, 0, none⟩ _) (fun e => ne.1 e)), L g1 c1 _ _ v1 (R1.set 0 x hx), L g2 c2 _ _ v2 (R2.kept (Kept.setCell X ⟨g1, 0, none⟩ _) (fun e => ne.2.2 e.symm))⟩, hc, hf, hg⟩,
    ⟨_, _, _, k, c0, k, c1, k, c2, D0, D1, _, c, f, g, h.d.far hB (Lib.grownBy_setCell X g2 0 _) (by rintro q ⟨⟩; exact v2), ⟨L g0 c0 _ _ v0 (R0.kept (Kept.setCell X ⟨g2, 0, none⟩ _) (fun e => ne.2.1 e)), L g1 c1 _ _ v1 (R1.kept (Kept.setCell X ⟨g2, 0, none⟩ _) (fun e => ne.2.2 e)), L g2 c2 _ _ v2 (R2.set 0 x hx)⟩, hc, hf, hg⟩⟩
/-- the second list loses its first -/
theorem OD.cut1 {w X : World} {B p : Nat} {a : Option Addr} {len cap vb k : Nat} {v0 v2 : Value} {g1 c1 : Nat} {D0 D1 D2 : Nat → Int} {c f g : Int} (h : OD w X B p a len cap vb k k k v0 (.slice (some ⟨g1, 0, none⟩) k c1) v2 D0 D1 D2 c f g) (hB : B ≤ w.heap.size) (hk : k ≤ 6) (k0 : 0 < k) (hc : bd c) (hf : bd f) (hg : bd g) :
    OpD w (X.setCell ⟨vb, 1, none⟩ (.slice (some ⟨g1, 1, none⟩) (k - 1) (c1 - 1))) B p a len cap vb := by
  obtain ⟨q1, d1, e1, v1, m1, R1⟩ := row_some h.r1 k0
  cases e1
  obtain ⟨a0, c0, rfl, l0⟩ := row_L3 h.r0 hk
  obtain ⟨a2, c2, rfl, l2⟩ := row_L3 h.r2 hk
  have kk := Kept.setCell X ⟨vb, 1, none⟩ (.slice (some ⟨g1, 1, none⟩) (k - 1) (c1 - 1))
  have R1' := R1.kept kk (by show ¬ g1 = vb; omega)
  refine ⟨a0, some ⟨g1, 1, none⟩, a2, k, c0, k - 1, c1 - 1, k, c2, D0, fun j => D1 (j + 1), D2, c, f, g, (h.d.set hB 1 _ (by omega)).same (fun i hi => by rcases (by omega : i = 0 ∨ i = 1 ∨ i = 2 ∨ i = 3 ∨ i = 4 ∨ i = 5) with rfl | rfl | rfl | rfl | rfl | rfl <;> rfl), ⟨l0.kept kk (fun ad e q => by have := l0.2.2.1 ad e; have q : ad.block = vb := q; omega), ⟨.inr ⟨g1, 1, rfl, R1'.lt (by omega), fun j hj => ?_⟩, (fun e => by cases e), (fun ad e => by cases e; exact v1), by omega⟩, l2.kept kk (fun ad e q => by have := l2.2.2.1 ad e; have q : ad.block = vb := q; omega)⟩, hc, hf, hg⟩
  have := R1' (j + 1) (by omega)
  rw [Nat.add_comm 1 j]
  exact ⟨this.1, this.2.2⟩
theorem OD.cut0 {w X : World} {B p : Nat} {a : Option Addr} {len cap vb k : Nat} {v0 v2 : Value} {g1 c1 : Nat} {D0 D1 D2 : Nat → Int} {c f g : Int} (h : OD w X B p a len cap vb k k k v0 (.slice (some ⟨g1, 0, none⟩) k c1) v2 D0 D1 D2 c f g) (hB : B ≤ w.heap.size) (hk : k ≤ 6) (k0 : 0 < k) (hc : bd c) (hf : bd f) (hg : bd g) (k1 : k = 1) :
    OpD w (X.setCell ⟨vb, 1, none⟩ (.slice (some ⟨g1, 0, none⟩) 0 0)) B p a len cap vb := by
  obtain ⟨q1, d1, e1, v1, m1, R1⟩ := row_some h.r1 k0
  cases e1
  obtain ⟨a0, c0, rfl, l0⟩ := row_L3 h.r0 hk
  obtain ⟨a2, c2, rfl, l2⟩ := row_L3 h.r2 hk
  have kk := Kept.setCell X ⟨vb, 1, none⟩ (.slice (some ⟨g1, 0, none⟩) 0 0)
  exact ⟨a0, some ⟨g1, 0, none⟩, a2, k, c0, 0, 0, k, c2, D0, D1, D2, c, f, g, (h.d.set hB 1 _ (by omega)).same (fun i hi => by rcases (by omega : i = 0 ∨ i = 1 ∨ i = 2 ∨ i = 3 ∨ i = 4 ∨ i = 5) with rfl | rfl | rfl | rfl | rfl | rfl <;> rfl), ⟨l0.kept kk (fun ad e q => by have := l0.2.2.1 ad e; have q : ad.block = vb := q; omega), ⟨.inl rfl, (fun e => by cases e), (fun ad e => by cases e; exact v1), by omega⟩, l2.kept kk (fun ad e q => by have := l2.2.2.1 ad e; have q : ad.block = vb := q; omega)⟩, hc, hf, hg⟩
/-- a state was drawn -/
def OpE (w : World) (B p : Nat) (a : Option Addr) (len cap : Nat) (e : Ending) (w' : World) : Prop :=
  ∃ (a0 a1 a2 : Option Addr) (n0 c0 n1 c1 n2 c2 : Nat) (D0 D1 D2 : Nat → Int) (c f g : Int), e = .returned (.agg #[.slice a0 n0 c0, .slice a1 n1 c1, .slice a2 n2 c2, .int .i64 c, .int .i64 f, .int .i64 g]) ∧ (n0 ≤ 6 ∧ n1 ≤ 6 ∧ n2 ≤ 6) ∧ (Ints w'.heap.size w' a0 n0 D0 ∧ Ints w'.heap.size w' a1 n1 D1 ∧ Ints w'.heap.size w' a2 n2 D2) ∧
    ((a0 = none → n0 = 0 ∧ c0 = 0) ∧ (a1 = none → n1 = 0 ∧ c1 = 0) ∧ (a2 = none → n2 = 0 ∧ c2 = 0)) ∧ (bd c ∧ bd f ∧ bd g) ∧ ((∀ ad, a0 = some ad → w.heap.size < ad.block) ∧ (∀ ad, a1 = some ad → w.heap.size < ad.block) ∧ (∀ ad, a2 = some ad → w.heap.size < ad.block)) ∧ Base.Cur B w' p a len cap ∧ w.grownBy w' (some p)
set_option maxHeartbeats 8000000 in
set_option maxRecDepth 100000 in
theorem drawOpt (B p : Nat) (a : Option Addr) (len cap : Nat) (w : World) (hc : Base.Cur B w p a len cap) (hB : B ≤ w.heap.size) :
    Calls Try.prog 19 #[.pointer (some ⟨p, 0, none⟩)] w (OpE w B p a len cap) := by
  obtain ⟨W0, hW0⟩ : ∃ W0, w.alloc (.cells #[.slice none 0 0, .slice none 0 0, .slice none 0 0, .int .i64 0, .int .i64 0, .int .i64 0] 30) = W0 := ⟨_, rfl⟩
  have pw := hc.lt
  have D0 := Base.hide (hW0 ▸ hc.alloc _ : Base.Cur B W0 p a len cap)
  have G0 := Base.hide (hW0 ▸ Lib.grownBy_allocR (Base.grown_refl w p) _ : w.grownBy W0 (some p))
  have R0 := Base.hide (show (∀ i, i < 6 → W0.cell? ⟨w.heap.size, i, none⟩ = some (Z6 i)) ∧ (∀ i, W0.frozen? ⟨w.heap.size, i, none⟩ = false) from hW0 ▸ ⟨fun i hi => by rcases (by omega : i = 0 ∨ i = 1 ∨ i = 2 ∨ i = 3 ∨ i = 4 ∨ i = 5) with rfl | rfl | rfl | rfl | rfl | rfl <;> simp [go_sem, Z6], fun i => by simp [go_sem]⟩)
  have z0 : W0.heap.size = w.heap.size + 1 := by rw [← hW0]; simp
  have Z0 := Base.hide z0
  have PW := Base.hide pw
  clear hc z0 pw
  go_enter Try.func19, Try.ntmps19
  go_wp2_with fail
  refine (Base.l1Below B p a len cap 17 _ D0.out (by decide) (by decide)).mono ?_; rintro e w1 ⟨x, x0, x1, rfl, d1, g1⟩
  have D1 := Base.hide d1
  have G1 := Base.hide g1
  clear d1 g1 hW0
  obtain ⟨xn, rfl⟩ := Int.eq_ofNat_of_zero_le x0
  have xk : xn < 17 := by omega
  clear x0 x1
  go_wp2_with fail
  refine (Base.l1Below B p a len cap 15 _ D1.out (by decide) (by decide)).mono ?_; rintro e w2 ⟨y, y0, y1, rfl, d2, g2⟩
  have D2 := Base.hide d2
  have G2 := Base.hide (G1.out.trans g2)
  clear d2 g2 D1 G1
  go_wp2_with fail
  refine (Base.l1Below B p a len cap 4 _ D2.out (by decide) (by decide)).mono ?_; rintro e w3 ⟨z, z0, z1, rfl, d3, g3⟩
  have D3 := Base.hide d3
  have G3 := Base.hide (G2.out.trans g3)
  clear d3 g3 D2 G2
  have YB := Base.hide (show bd y ∧ bd z from ⟨⟨by omega, by omega⟩, by omega, by omega⟩)
  go_wp2_with fail
  obtain ⟨F, hF, bF⟩ : ∃ F : Int, wrap64 ((2 : Int) ^ xn) = F ∧ bd F := ⟨_, rfl, Base.wrap_bd _⟩
  rw [hF]
  clear hF
  have FB := Base.hide bF
  clear bF
  obtain ⟨W6, hW6⟩ : ∃ W6, w3.alloc (.cells #[.slice none 0 0, .slice none 0 0, .slice none 0 0, .int .i64 y, .int .i64 F, .int .i64 z] 30) = W6 := ⟨_, rfl⟩
  have g6 : W0.grownBy W6 (some p) := hW6 ▸ Lib.grownBy_allocR G3.out _
  have HG := Base.hide (show OD w W6 B p a len cap w3.heap.size 0 0 0 (.slice none 0 0) (.slice none 0 0) (.slice none 0 0) (fun _ => 0) (fun _ => 0) (fun _ => 0) y F z from
      { d := { cur := hW6 ▸ D3.out.alloc _
               gr := G0.out.trans g6
               c := fun i hi => by rcases (by omega : i = 0 ∨ i = 1 ∨ i = 2 ∨ i = 3 ∨ i = 4 ∨ i = 5) with rfl | rfl | rfl | rfl | rfl | rfl <;> (rw [← hW6]; simp [go_sem, OW])
               fz := fun i => by rw [← hW6]; simp [go_sem]
               r := fun i hi => by have := Z0.out; have := PW.out; rw [(grown_keep g6 (by omega) (by omega)).1]; exact R0.out.1 i hi
               rf := fun i => by have := Z0.out; have := PW.out; rw [(grown_keep g6 (by omega) (by omega)).2]; exact R0.out.2 i
               pw := PW.out
               wV := by have := Z0.out; have := G3.out.size; omega
               VX := by rw [← hW6]; simp }
        r0 := ⟨World.ownsRow_nil _ _ _ _, fun j hj => by omega⟩
        r1 := ⟨World.ownsRow_nil _ _ _ _, fun j hj => by omega⟩
        r2 := ⟨World.ownsRow_nil _ _ _ _, fun j hj => by omega⟩
        n01 := fun b h => by cases h
        n02 := fun b h => by cases h
        n12 := fun b h => by cases h })
  clear g6 D0 D3 G0 G3 R0
  rw [hW6]
  obtain ⟨vb, hvb⟩ : ∃ vb, w3.heap.size = vb := ⟨_, rfl⟩
  rw [hvb] at HG ⊢
  clear hvb hW6 Z0 y0 y1 z0 z1
  refine (Base.l1Below B p a len cap 6 _ HG.out.d.cur (by decide) (by decide)).mono ?_; rintro e w4 ⟨q, q0, q1, rfl, d4, g4⟩
  replace HG := Base.hide (HG.out.draw g4 d4)
  clear d4 g4
  obtain ⟨qn, rfl⟩ := Int.eq_ofNat_of_zero_le q0
  have qk : qn ≤ 5 := by omega
  clear q0 q1
  go_wp2_with fail
  go_loopw [4] (fun nv wx => ∃ (m k : Nat) (v0 v1 v2 : Value) (D0 D1 D2 : Nat → Int), k + m ≤ 5 ∧ nv = .int .i64 (m : Int) ∧ OD w wx B p a len cap vb k k k v0 v1 v2 D0 D1 D2 y F z) (fun nv _ => (intOf nv).toNat)
  case atStart => exact ⟨qn, 0, _, _, _, _, _, _, by omega, rfl, HG.out⟩
  case round =>
    obtain ⟨m, k, v0, v1, v2, D0, D1, D2, hmk, rfl, hG⟩ := hrel
    replace HG := Base.hide hG
    clear hG
    have KM := Base.hide hmk
    by_cases hm : 0 < (m : Int)
    · have mN : 0 < m := by omega
      obtain ⟨wr0, hwr⟩ : ∃ X, wr = X := ⟨_, rfl⟩
      rw [hwr] at HG ⊢
      clear hwr
      go_wp2_with fail
      have NP := Base.hide HG.out.np
      have NA := Base.hide (show (∀ q, v0.ownBlock = some q → v1.ownBlock ≠ some q) ∧ (∀ q, v0.ownBlock = some q → v2.ownBlock ≠ some q) from ⟨fun q h1 h2 => HG.out.n01 q h1 h2, fun q h1 h2 => HG.out.n02 q h1 h2⟩)
      have OJ := Base.hide HG.out.r0
      have OL := Base.hide (show ∀ q, v0.ownBlock = some q → vb < q ∧ q < wr0.heap.size from fun q h => by have := own_lt HG.out.r0 q h; omega)
      have B0 := Base.hide (show (fun X => DS 6 w X B p a len cap vb (OW v0 v1 v2 y F z) Z6 ∧ RowV (vb + 1) X v1 (k) D1 ∧ RowV (vb + 1) X v2 (k) D2 ∧ ∀ q, v0.ownBlock = some q → q < X.heap.size) wr0 from ⟨HG.out.d, HG.out.r1, HG.out.r2, fun q h => (OL.out q h).2⟩)
      have BD := Base.hide (show ∀ X X', (fun X => DS 6 w X B p a len cap vb (OW v0 v1 v2 y F z) Z6 ∧ RowV (vb + 1) X v1 (k) D1 ∧ RowV (vb + 1) X v2 (k) D2 ∧ ∀ q, v0.ownBlock = some q → q < X.heap.size) X → X.grownBy X' (some p) → Base.Cur B X' p a len cap → (fun X => DS 6 w X B p a len cap vb (OW v0 v1 v2 y F z) Z6 ∧ RowV (vb + 1) X v1 (k) D1 ∧ RowV (vb + 1) X v2 (k) D2 ∧ ∀ q, v0.ownBlock = some q → q < X.heap.size) X' from fun X X' ⟨b1, b2, b3, b4⟩ q cu => ⟨b1.draw q cu, own_grown b2 q (by rintro k ⟨⟩ e; have := (own_lt b2 _ e).1; have := NP.out; omega), own_grown b3 q (by rintro k ⟨⟩ e; have := (own_lt b3 _ e).1; have := NP.out; omega), fun q' h => Nat.lt_of_lt_of_le (b4 q' h) q.size⟩)
      have OTH := Base.hide (And.intro HG.out.n01 (And.intro HG.out.n02 HG.out.n12))
      refine Qm.factsO 8 6 (fun X => DS 6 w X B p a len cap vb (OW v0 v1 v2 y F z) Z6 ∧ RowV (vb + 1) X v1 (k) D1 ∧ RowV (vb + 1) X v2 (k) D2 ∧ ∀ q, v0.ownBlock = some q → q < X.heap.size) (fun X => RowV (vb + 1) X v0 k D0) (fun t v wx => match t with | 0 => v = .pointer (some ⟨vb, 0, none⟩) | 1 => v = v0 | 2 => v = .pointer (some ⟨p, 0, none⟩) | 3 => ∃ z : Int, v = .int .i64 z ∧ 0 ≤ z ∧ z ≤ 4194303 | 4 => ∃ z : Int, v = .int .i64 z ∧ bd z | 5 => ∃ (g' : Nat) (z : Int), v = .slice (some ⟨g', 0, none⟩) 1 1 ∧ bd z ∧ g' ≠ p ∧ v0.ownBlock ≠ some g' ∧ wx.heap[g']? = some (.cells #[.int .i64 z] 3 (0, 0)) | 6 => ∃ (g' c' : Nat) (z : Int), v = .slice (some ⟨g', 0, none⟩) (k + 1) c' ∧ RowV (vb + 1) wx (.slice (some ⟨g', 0, none⟩) (k + 1) c') (k + 1) (upI D0 k z) ∧ v1.ownBlock ≠ some g' ∧ v2.ownBlock ≠ some g' | 7 => v = .pointer (some ⟨vb, 0, none⟩) | _ => True) (fun w1 w2 => w1.grownBy w2 (some p)) (fun w1 w2 => w1.grownBy w2 v0.ownBlock) (by kernel_rfl) (by kernel_rfl) ?hb0 ?ho0 ?hO ?hF1 ?hF2 ?steps ?rest
      case hb0 => exact BD.out wr0 _ B0.out (Base.grown_drew wr0 1 p) (cur_belA HG.out.d.cur (Below.refl wr0.heap.size wr0).drew)
      case ho0 => exact own_grown OJ.out (Base.grown_drew wr0 1 p) (by rintro k ⟨⟩ e; have := (OL.out _ e).1; have := NP.out; omega)
      case hO => exact fun w1 w2 h q => own_grown h q (by rintro k ⟨⟩ e; have := (OL.out _ e).1; have := NP.out; omega)
      case hF1 =>
        intro t v w1 w2 h q
        match t, h with
        | 0, h => exact h
        | 1, h => exact h
        | 2, h => exact h
        | 3, h => exact h
        | 4, h => exact h
        | 5, ⟨g', z, e, h1, h2, h3, h4⟩ => exact ⟨g', z, e, h1, h2, h3, (q.block g' (heap_lt h4) (by intro e; injection e with e; exact h2 e)).trans h4⟩
        | 6, ⟨g', c', z, e, h1, h2, h3⟩ => exact ⟨g', c', z, e, own_grown h1 q (by rintro k ⟨⟩ e; have := (own_lt h1 _ e).1; have := NP.out; omega), h2, h3⟩
        | 7, h => exact h
        | _ + 8, h => exact h
      case hF2 =>
        intro t v w1 w2 hne h q
        match t, h, hne with
        | 0, h, _ => exact h
        | 1, h, _ => exact h
        | 2, h, _ => exact h
        | 3, h, _ => exact h
        | 4, h, _ => exact h
        | 5, ⟨g', z, e, h1, h2, h3, h4⟩, _ => exact ⟨g', z, e, h1, h2, h3, (q.block g' (heap_lt h4) (fun e => h3 e.symm)).trans h4⟩
        | 6, _, hne => exact absurd rfl hne
        | 7, h, _ => exact h
        | _ + 8, h, _ => exact h
      case steps =>
        intro i o hi ho s A wS hb hold hk hA hO
        match i, hi, ho, hk, hold with
        | 0, _, ho, hk, hold =>
          cases ho
          refine Qg.landsG_free rfl ?_
          exact Qf.lands_val _ _ (runFO0 rfl ((hO 3 (by rfl)).trans rfl)) ⟨hb, fun _ => Base.grown_refl _ _, fun e => absurd e (by decide), rfl⟩
        | 1, _, ho, hk, hold =>
          cases ho
          refine Qg.landsG_free rfl ?_
          have h0 := hA 0 _ 20 (by decide) rfl rfl (by simp)
          rw [show s 0 = _ from hk 0 (by kernel_rfl)] at h0
          exact Qf.lands_val _ _ (runLL rfl h0 (hb.1.c 0 (by omega))) ⟨hb, fun _ => Base.grown_refl _ _, fun e => absurd e (by decide), rfl⟩
        | 2, _, ho, hk, hold =>
          cases ho
          refine Qg.landsG_free rfl ?_
          exact Qf.lands_move _ rfl (.pointer (some ⟨p, 0, none⟩)) ((hO 0 (by rfl)).trans rfl) ⟨hb, fun _ => Base.grown_refl _ _, fun e => absurd e (by decide), rfl⟩
        | 3, _, ho, hk, hold =>
          cases ho
          refine Qg.landsG_free rfl ?_
          have h2 := hA 2 _ 22 (by decide) rfl rfl (by simp)
          rw [show s 2 = _ from hk 2 (by kernel_rfl)] at h2
          refine Qf.lands_call 20 _ _ rfl (enters_of Try.func20 (by kernel_rfl) rfl) _ (by first | (simp [h2]; done) | (simp [h2]; rfl)) ((Base.l1Below B p a len cap 4194304 _ hb.1.cur (by decide) (by decide)).mono ?_)
          rintro e wT ⟨z, z0, z1, rfl, dT, gT⟩
          exact ⟨_, rfl, BD.out wS wT hb gT dT, fun _ => gT, fun e => absurd e (by decide), z, rfl, z0, by omega⟩
        | 4, _, ho, hk, hold =>
          cases ho
          refine Qg.landsG_free rfl ?_
          have h3 := hA 3 _ 23 (by decide) rfl rfl (by simp)
          obtain ⟨z, ez, z0, z1⟩ := hk 3 (by kernel_rfl)
          rw [ez] at h3
          exact Qf.lands_val _ _ (runSubC rfl h3 (wid (by omega))) ⟨hb, fun _ => Base.grown_refl _ _, fun e => absurd e (by decide), ⟨_, rfl, by omega, by omega⟩⟩
        | 5, _, ho, hk, hold =>
          cases ho
          refine Qg.landsG_free rfl ?_
          have h4 := hA 4 _ 24 (by decide) rfl rfl (by simp)
          obtain ⟨z, ez, zb⟩ := hk 4 (by kernel_rfl)
          rw [ez] at h4
          have gA : wS.grownBy (wS.alloc (.cells #[.int .i64 z] 3)) (some p) := Lib.grownBy_allocR (Base.grown_refl wS p) _
          exact Qf.lands_val _ _ (runBS1 rfl h4) ⟨BD.out _ _ hb gA (hb.1.cur.alloc _), fun _ => gA, fun e => absurd e (by decide), wS.heap.size, z, rfl, zb, by have := hb.1.pw; have := hb.1.wV; have := hb.1.VX; omega, fun e => by have := hb.2.2.2 _ e; omega, heap_alloc_new wS _⟩
        | 6, _, ho, hk, hold =>
          cases ho
          refine Qg.landsG_free rfl ?_
          have h1 := hA 1 _ 21 (by decide) rfl rfl (by simp)
          have h5 := hA 5 _ 25 (by decide) rfl rfl (by simp)
          rw [show s 1 = _ from hk 1 (by kernel_rfl)] at h1
          obtain ⟨g', z, eg, zb, gp, go, gh⟩ := hk 5 (by kernel_rfl)
          rw [eg] at h5
          refine lands_app rfl h1 (hold rfl) h5 gh zb (by omega) (by have := hb.1.VX; omega) (fun g2 c2 w2 r2 q2 hat => ?_)
          have fb : ∀ q, v0.ownBlock = some q → vb < q := fun q h => (OL.out q h).1
          refine ⟨⟨hb.1.far hB q2 fb, own_grown hb.2.1 q2 (fun q h e => NA.out.1 q h e), own_grown hb.2.2.1 q2 (fun q h e => NA.out.2 q h e), fun q h => Nat.lt_of_lt_of_le (hb.2.2.2 q h) q2.size⟩, fun e => absurd rfl e, fun _ => q2, g2, c2, z, rfl, r2, ?_, ?_⟩
          · rcases hat with e | e
            · exact NA.out.1 g2 e
            · intro e2; have := (own_lt hb.2.1 _ e2).2; omega
          · rcases hat with e | e
            · exact NA.out.2 g2 e
            · intro e2; have := (own_lt hb.2.2.1 _ e2).2; omega
        | 7, _, ho, hk, hold =>
          cases ho
          refine Qg.landsG_free rfl ?_
          exact Qf.lands_val _ _ (runFO0 rfl ((hO 3 (by rfl)).trans rfl)) ⟨hb, fun _ => Base.grown_refl _ _, fun e => absurd e (by decide), rfl⟩
        | _ + 8, hi, _, _, _ => exact absurd hi (by omega)
      case rest =>
      intro s' XXa hb hk
      obtain ⟨gaa, gca, gza, eq, hrow, hna, hnc⟩ := hk 6 (by decide)
      have ef : s' 7 = _ := hk 7 (by decide)
      obtain ⟨XYa, hXYa⟩ : ∃ XYa, XXa.setCell ⟨vb, 0, none⟩ (.slice (some ⟨gaa, 0, none⟩) (k + 1) gca) = XYa := ⟨_, rfl⟩
      obtain ⟨uq, eu⟩ : ∃ u, XXa.cell? ⟨vb, 0, none⟩ = some u := ⟨_, hb.1.c 0 (by omega)⟩
      have fu : XXa.frozen? ⟨vb, 0, none⟩ = false := hb.1.fz 0
      replace HG := Base.hide (show OD w XYa B p a len cap vb (k + 1) (k) (k) (.slice (some ⟨gaa, 0, none⟩) (k + 1) gca) (v1) (v2) (upI D0 k gza) D1 D2 y F z from hXYa ▸ ⟨(hb.1.set hB 0 _ (by omega)).same (fun i hi => by rcases (by omega : i = 0 ∨ i = 1 ∨ i = 2 ∨ i = 3 ∨ i = 4 ∨ i = 5) with rfl | rfl | rfl | rfl | rfl | rfl <;> rfl), own_celA hrow (Nat.lt_succ_self _), own_celA hb.2.1 (Nat.lt_succ_self _), own_celA hb.2.2.1 (Nat.lt_succ_self _), fun q h e => by cases h; exact hna e, fun q h e => by cases h; exact hnc e, OTH.out.2.2⟩)
      simp only [List.take_succ_cons, List.take_zero, List.drop_succ_cons, List.drop_zero, Qf.lay, Qf.all1, if_true, eq, ef]
      simp only [Act.put, List.setIfInBounds_toArray, List.set_cons_succ, List.set_cons_zero]
      clear hk hb hrow hna hnc eq ef B0 BD OJ OL NA OTH NP
      go_wp2_with fail
      clear hXYa eu fu
      obtain ⟨vna, hvn⟩ : ∃ z : Value, Value.slice (some ⟨gaa, 0, none⟩) (k + 1) gca = z := ⟨_, rfl⟩
      rw [hvn] at HG
      clear hvn
      have NP := Base.hide HG.out.np
      have NA := Base.hide (show (∀ q, v1.ownBlock = some q → vna.ownBlock ≠ some q) ∧ (∀ q, v1.ownBlock = some q → v2.ownBlock ≠ some q) from ⟨fun q h1 h2 => HG.out.n01 q h2 h1, fun q h1 h2 => HG.out.n12 q h1 h2⟩)
      have OJ := Base.hide HG.out.r1
      have OL := Base.hide (show ∀ q, v1.ownBlock = some q → vb < q ∧ q < XYa.heap.size from fun q h => by have := own_lt HG.out.r1 q h; omega)
      have B0 := Base.hide (show (fun X => DS 6 w X B p a len cap vb (OW vna v1 v2 y F z) Z6 ∧ RowV (vb + 1) X vna (k + 1) (upI D0 k gza) ∧ RowV (vb + 1) X v2 (k) D2 ∧ ∀ q, v1.ownBlock = some q → q < X.heap.size) XYa from ⟨HG.out.d, HG.out.r0, HG.out.r2, fun q h => (OL.out q h).2⟩)
      have BD := Base.hide (show ∀ X X', (fun X => DS 6 w X B p a len cap vb (OW vna v1 v2 y F z) Z6 ∧ RowV (vb + 1) X vna (k + 1) (upI D0 k gza) ∧ RowV (vb + 1) X v2 (k) D2 ∧ ∀ q, v1.ownBlock = some q → q < X.heap.size) X → X.grownBy X' (some p) → Base.Cur B X' p a len cap → (fun X => DS 6 w X B p a len cap vb (OW vna v1 v2 y F z) Z6 ∧ RowV (vb + 1) X vna (k + 1) (upI D0 k gza) ∧ RowV (vb + 1) X v2 (k) D2 ∧ ∀ q, v1.ownBlock = some q → q < X.heap.size) X' from fun X X' ⟨b1, b2, b3, b4⟩ q cu => ⟨b1.draw q cu, own_grown b2 q (by rintro k ⟨⟩ e; have := (own_lt b2 _ e).1; have := NP.out; omega), own_grown b3 q (by rintro k ⟨⟩ e; have := (own_lt b3 _ e).1; have := NP.out; omega), fun q' h => Nat.lt_of_lt_of_le (b4 q' h) q.size⟩)
      have OTH := Base.hide (And.intro HG.out.n01 (And.intro HG.out.n02 HG.out.n12))
      refine Qm.factsO 8 6 (fun X => DS 6 w X B p a len cap vb (OW vna v1 v2 y F z) Z6 ∧ RowV (vb + 1) X vna (k + 1) (upI D0 k gza) ∧ RowV (vb + 1) X v2 (k) D2 ∧ ∀ q, v1.ownBlock = some q → q < X.heap.size) (fun X => RowV (vb + 1) X v1 k D1) (fun t v wx => match t with | 0 => v = .pointer (some ⟨vb, 1, none⟩) | 1 => v = v1 | 2 => v = .pointer (some ⟨p, 0, none⟩) | 3 => ∃ z : Int, v = .int .i64 z ∧ 0 ≤ z ∧ z ≤ 4194303 | 4 => ∃ z : Int, v = .int .i64 z ∧ bd z | 5 => ∃ (g' : Nat) (z : Int), v = .slice (some ⟨g', 0, none⟩) 1 1 ∧ bd z ∧ g' ≠ p ∧ v1.ownBlock ≠ some g' ∧ wx.heap[g']? = some (.cells #[.int .i64 z] 3 (0, 0)) | 6 => ∃ (g' c' : Nat) (z : Int), v = .slice (some ⟨g', 0, none⟩) (k + 1) c' ∧ RowV (vb + 1) wx (.slice (some ⟨g', 0, none⟩) (k + 1) c') (k + 1) (upI D1 k z) ∧ vna.ownBlock ≠ some g' ∧ v2.ownBlock ≠ some g' | 7 => v = .pointer (some ⟨vb, 1, none⟩) | _ => True) (fun w1 w2 => w1.grownBy w2 (some p)) (fun w1 w2 => w1.grownBy w2 v1.ownBlock) (by kernel_rfl) (by kernel_rfl) ?hb0 ?ho0 ?hO ?hF1 ?hF2 ?steps ?rest
      case hb0 => exact BD.out XYa _ B0.out (Base.grown_drew XYa 1 p) (cur_belA HG.out.d.cur (Below.refl XYa.heap.size XYa).drew)
      case ho0 => exact own_grown OJ.out (Base.grown_drew XYa 1 p) (by rintro k ⟨⟩ e; have := (OL.out _ e).1; have := NP.out; omega)
      case hO => exact fun w1 w2 h q => own_grown h q (by rintro k ⟨⟩ e; have := (OL.out _ e).1; have := NP.out; omega)
      case hF1 =>
        intro t v w1 w2 h q
        match t, h with
        | 0, h => exact h
        | 1, h => exact h
        | 2, h => exact h
        | 3, h => exact h
        | 4, h => exact h
        | 5, ⟨g', z, e, h1, h2, h3, h4⟩ => exact ⟨g', z, e, h1, h2, h3, (q.block g' (heap_lt h4) (by intro e; injection e with e; exact h2 e)).trans h4⟩
        | 6, ⟨g', c', z, e, h1, h2, h3⟩ => exact ⟨g', c', z, e, own_grown h1 q (by rintro k ⟨⟩ e; have := (own_lt h1 _ e).1; have := NP.out; omega), h2, h3⟩
        | 7, h => exact h
        | _ + 8, h => exact h
      case hF2 =>
        intro t v w1 w2 hne h q
        match t, h, hne with
        | 0, h, _ => exact h
        | 1, h, _ => exact h
        | 2, h, _ => exact h
        | 3, h, _ => exact h
        | 4, h, _ => exact h
        | 5, ⟨g', z, e, h1, h2, h3, h4⟩, _ => exact ⟨g', z, e, h1, h2, h3, (q.block g' (heap_lt h4) (fun e => h3 e.symm)).trans h4⟩
        | 6, _, hne => exact absurd rfl hne
        | 7, h, _ => exact h
        | _ + 8, h, _ => exact h
      case steps =>
        intro i o hi ho s A wS hb hold hk hA hO
        match i, hi, ho, hk, hold with
        | 0, _, ho, hk, hold =>
          cases ho
          refine Qg.landsG_free rfl ?_
          exact Qf.lands_val _ _ (runFO1 rfl ((hO 3 (by rfl)).trans rfl)) ⟨hb, fun _ => Base.grown_refl _ _, fun e => absurd e (by decide), rfl⟩
        | 1, _, ho, hk, hold =>
          cases ho
          refine Qg.landsG_free rfl ?_
          have h0 := hA 0 _ 28 (by decide) rfl rfl (by simp)
          rw [show s 0 = _ from hk 0 (by kernel_rfl)] at h0
          exact Qf.lands_val _ _ (runLL rfl h0 (hb.1.c 1 (by omega))) ⟨hb, fun _ => Base.grown_refl _ _, fun e => absurd e (by decide), rfl⟩
        | 2, _, ho, hk, hold =>
          cases ho
          refine Qg.landsG_free rfl ?_
          exact Qf.lands_move _ rfl (.pointer (some ⟨p, 0, none⟩)) ((hO 0 (by rfl)).trans rfl) ⟨hb, fun _ => Base.grown_refl _ _, fun e => absurd e (by decide), rfl⟩
        | 3, _, ho, hk, hold =>
          cases ho
          refine Qg.landsG_free rfl ?_
          have h2 := hA 2 _ 30 (by decide) rfl rfl (by simp)
          rw [show s 2 = _ from hk 2 (by kernel_rfl)] at h2
          refine Qf.lands_call 20 _ _ rfl (enters_of Try.func20 (by kernel_rfl) rfl) _ (by first | (simp [h2]; done) | (simp [h2]; rfl)) ((Base.l1Below B p a len cap 262144 _ hb.1.cur (by decide) (by decide)).mono ?_)
          rintro e wT ⟨z, z0, z1, rfl, dT, gT⟩
          exact ⟨_, rfl, BD.out wS wT hb gT dT, fun _ => gT, fun e => absurd e (by decide), z, rfl, z0, by omega⟩
        | 4, _, ho, hk, hold =>
          cases ho
          refine Qg.landsG_free rfl ?_
          have h3 := hA 3 _ 31 (by decide) rfl rfl (by simp)
          obtain ⟨z, ez, z0, z1⟩ := hk 3 (by kernel_rfl)
          rw [ez] at h3
          exact Qf.lands_val _ _ (runSubC rfl h3 (wid (by omega))) ⟨hb, fun _ => Base.grown_refl _ _, fun e => absurd e (by decide), ⟨_, rfl, by omega, by omega⟩⟩
        | 5, _, ho, hk, hold =>
          cases ho
          refine Qg.landsG_free rfl ?_
          have h4 := hA 4 _ 32 (by decide) rfl rfl (by simp)
          obtain ⟨z, ez, zb⟩ := hk 4 (by kernel_rfl)
          rw [ez] at h4
          have gA : wS.grownBy (wS.alloc (.cells #[.int .i64 z] 3)) (some p) := Lib.grownBy_allocR (Base.grown_refl wS p) _
          exact Qf.lands_val _ _ (runBS1 rfl h4) ⟨BD.out _ _ hb gA (hb.1.cur.alloc _), fun _ => gA, fun e => absurd e (by decide), wS.heap.size, z, rfl, zb, by have := hb.1.pw; have := hb.1.wV; have := hb.1.VX; omega, fun e => by have := hb.2.2.2 _ e; omega, heap_alloc_new wS _⟩
        | 6, _, ho, hk, hold =>
          cases ho
          refine Qg.landsG_free rfl ?_
          have h1 := hA 1 _ 29 (by decide) rfl rfl (by simp)
          have h5 := hA 5 _ 33 (by decide) rfl rfl (by simp)
          rw [show s 1 = _ from hk 1 (by kernel_rfl)] at h1
          obtain ⟨g', z, eg, zb, gp, go, gh⟩ := hk 5 (by kernel_rfl)
          rw [eg] at h5
          refine lands_app rfl h1 (hold rfl) h5 gh zb (by omega) (by have := hb.1.VX; omega) (fun g2 c2 w2 r2 q2 hat => ?_)
          have fb : ∀ q, v1.ownBlock = some q → vb < q := fun q h => (OL.out q h).1
          refine ⟨⟨hb.1.far hB q2 fb, own_grown hb.2.1 q2 (fun q h e => NA.out.1 q h e), own_grown hb.2.2.1 q2 (fun q h e => NA.out.2 q h e), fun q h => Nat.lt_of_lt_of_le (hb.2.2.2 q h) q2.size⟩, fun e => absurd rfl e, fun _ => q2, g2, c2, z, rfl, r2, ?_, ?_⟩
          · rcases hat with e | e
            · exact NA.out.1 g2 e
            · intro e2; have := (own_lt hb.2.1 _ e2).2; omega
          · rcases hat with e | e
            · exact NA.out.2 g2 e
            · intro e2; have := (own_lt hb.2.2.1 _ e2).2; omega
        | 7, _, ho, hk, hold =>
          cases ho
          refine Qg.landsG_free rfl ?_
          exact Qf.lands_val _ _ (runFO1 rfl ((hO 3 (by rfl)).trans rfl)) ⟨hb, fun _ => Base.grown_refl _ _, fun e => absurd e (by decide), rfl⟩
        | _ + 8, hi, _, _, _ => exact absurd hi (by omega)
      case rest =>
      intro s' XXb hb hk
      obtain ⟨gab, gcb, gzb, eq, hrow, hna, hnc⟩ := hk 6 (by decide)
      have ef : s' 7 = _ := hk 7 (by decide)
      obtain ⟨XYb, hXYb⟩ : ∃ XYb, XXb.setCell ⟨vb, 1, none⟩ (.slice (some ⟨gab, 0, none⟩) (k + 1) gcb) = XYb := ⟨_, rfl⟩
      obtain ⟨uq, eu⟩ : ∃ u, XXb.cell? ⟨vb, 1, none⟩ = some u := ⟨_, hb.1.c 1 (by omega)⟩
      have fu : XXb.frozen? ⟨vb, 1, none⟩ = false := hb.1.fz 1
      replace HG := Base.hide (show OD w XYb B p a len cap vb (k + 1) (k + 1) (k) (vna) (.slice (some ⟨gab, 0, none⟩) (k + 1) gcb) (v2) (upI D0 k gza) (upI D1 k gzb) D2 y F z from hXYb ▸ ⟨(hb.1.set hB 1 _ (by omega)).same (fun i hi => by rcases (by omega : i = 0 ∨ i = 1 ∨ i = 2 ∨ i = 3 ∨ i = 4 ∨ i = 5) with rfl | rfl | rfl | rfl | rfl | rfl <;> rfl), own_celA hb.2.1 (Nat.lt_succ_self _), own_celA hrow (Nat.lt_succ_self _), own_celA hb.2.2.1 (Nat.lt_succ_self _), fun q h e => by cases e; exact hna h, OTH.out.2.1, fun q h e => by cases h; exact hnc e⟩)
      simp only [List.take_succ_cons, List.take_zero, List.drop_succ_cons, List.drop_zero, Qf.lay, Qf.all1, if_true, eq, ef]
      simp only [Act.put, List.setIfInBounds_toArray, List.set_cons_succ, List.set_cons_zero]
      clear hk hb hrow hna hnc eq ef B0 BD OJ OL NA OTH NP
      go_wp2_with fail
      clear hXYb eu fu
      obtain ⟨vnb, hvn⟩ : ∃ z : Value, Value.slice (some ⟨gab, 0, none⟩) (k + 1) gcb = z := ⟨_, rfl⟩
      rw [hvn] at HG
      clear hvn
      have NP := Base.hide HG.out.np
      have NA := Base.hide (show (∀ q, v2.ownBlock = some q → vna.ownBlock ≠ some q) ∧ (∀ q, v2.ownBlock = some q → vnb.ownBlock ≠ some q) from ⟨fun q h1 h2 => HG.out.n02 q h2 h1, fun q h1 h2 => HG.out.n12 q h2 h1⟩)
      have OJ := Base.hide HG.out.r2
      have OL := Base.hide (show ∀ q, v2.ownBlock = some q → vb < q ∧ q < XYb.heap.size from fun q h => by have := own_lt HG.out.r2 q h; omega)
      have B0 := Base.hide (show (fun X => DS 6 w X B p a len cap vb (OW vna vnb v2 y F z) Z6 ∧ RowV (vb + 1) X vna (k + 1) (upI D0 k gza) ∧ RowV (vb + 1) X vnb (k + 1) (upI D1 k gzb) ∧ ∀ q, v2.ownBlock = some q → q < X.heap.size) XYb from ⟨HG.out.d, HG.out.r0, HG.out.r1, fun q h => (OL.out q h).2⟩)
      have BD := Base.hide (show ∀ X X', (fun X => DS 6 w X B p a len cap vb (OW vna vnb v2 y F z) Z6 ∧ RowV (vb + 1) X vna (k + 1) (upI D0 k gza) ∧ RowV (vb + 1) X vnb (k + 1) (upI D1 k gzb) ∧ ∀ q, v2.ownBlock = some q → q < X.heap.size) X → X.grownBy X' (some p) → Base.Cur B X' p a len cap → (fun X => DS 6 w X B p a len cap vb (OW vna vnb v2 y F z) Z6 ∧ RowV (vb + 1) X vna (k + 1) (upI D0 k gza) ∧ RowV (vb + 1) X vnb (k + 1) (upI D1 k gzb) ∧ ∀ q, v2.ownBlock = some q → q < X.heap.size) X' from fun X X' ⟨b1, b2, b3, b4⟩ q cu => ⟨b1.draw q cu, own_grown b2 q (by rintro k ⟨⟩ e; have := (own_lt b2 _ e).1; have := NP.out; omega), own_grown b3 q (by rintro k ⟨⟩ e; have := (own_lt b3 _ e).1; have := NP.out; omega), fun q' h => Nat.lt_of_lt_of_le (b4 q' h) q.size⟩)
      have OTH := Base.hide (And.intro HG.out.n01 (And.intro HG.out.n02 HG.out.n12))
      refine Qm.factsO 7 5 (fun X => DS 6 w X B p a len cap vb (OW vna vnb v2 y F z) Z6 ∧ RowV (vb + 1) X vna (k + 1) (upI D0 k gza) ∧ RowV (vb + 1) X vnb (k + 1) (upI D1 k gzb) ∧ ∀ q, v2.ownBlock = some q → q < X.heap.size) (fun X => RowV (vb + 1) X v2 k D2) (fun t v wx => match t with | 0 => v = .pointer (some ⟨vb, 2, none⟩) | 1 => v = v2 | 2 => v = .pointer (some ⟨p, 0, none⟩) | 3 => ∃ z : Int, v = .int .i64 z ∧ 0 ≤ z ∧ z ≤ 4194303 | 4 => ∃ (g' : Nat) (z : Int), v = .slice (some ⟨g', 0, none⟩) 1 1 ∧ bd z ∧ g' ≠ p ∧ v2.ownBlock ≠ some g' ∧ wx.heap[g']? = some (.cells #[.int .i64 z] 3 (0, 0)) | 5 => ∃ (g' c' : Nat) (z : Int), v = .slice (some ⟨g', 0, none⟩) (k + 1) c' ∧ RowV (vb + 1) wx (.slice (some ⟨g', 0, none⟩) (k + 1) c') (k + 1) (upI D2 k z) ∧ vna.ownBlock ≠ some g' ∧ vnb.ownBlock ≠ some g' | 6 => v = .pointer (some ⟨vb, 2, none⟩) | _ => True) (fun w1 w2 => w1.grownBy w2 (some p)) (fun w1 w2 => w1.grownBy w2 v2.ownBlock) (by kernel_rfl) (by kernel_rfl) ?hb0 ?ho0 ?hO ?hF1 ?hF2 ?steps ?rest
      case hb0 => exact BD.out XYb _ B0.out (Base.grown_drew XYb 1 p) (cur_belA HG.out.d.cur (Below.refl XYb.heap.size XYb).drew)
      case ho0 => exact own_grown OJ.out (Base.grown_drew XYb 1 p) (by rintro k ⟨⟩ e; have := (OL.out _ e).1; have := NP.out; omega)
      case hO => exact fun w1 w2 h q => own_grown h q (by rintro k ⟨⟩ e; have := (OL.out _ e).1; have := NP.out; omega)
      case hF1 =>
        intro t v w1 w2 h q
        match t, h with
        | 0, h => exact h
        | 1, h => exact h
        | 2, h => exact h
        | 3, h => exact h
        | 4, ⟨g', z, e, h1, h2, h3, h4⟩ => exact ⟨g', z, e, h1, h2, h3, (q.block g' (heap_lt h4) (by intro e; injection e with e; exact h2 e)).trans h4⟩
        | 5, ⟨g', c', z, e, h1, h2, h3⟩ => exact ⟨g', c', z, e, own_grown h1 q (by rintro k ⟨⟩ e; have := (own_lt h1 _ e).1; have := NP.out; omega), h2, h3⟩
        | 6, h => exact h
        | _ + 7, h => exact h
      case hF2 =>
        intro t v w1 w2 hne h q
        match t, h, hne with
        | 0, h, _ => exact h
        | 1, h, _ => exact h
        | 2, h, _ => exact h
        | 3, h, _ => exact h
        | 4, ⟨g', z, e, h1, h2, h3, h4⟩, _ => exact ⟨g', z, e, h1, h2, h3, (q.block g' (heap_lt h4) (fun e => h3 e.symm)).trans h4⟩
        | 5, _, hne => exact absurd rfl hne
        | 6, h, _ => exact h
        | _ + 7, h, _ => exact h
      case steps =>
        intro i o hi ho s A wS hb hold hk hA hO
        match i, hi, ho, hk, hold with
        | 0, _, ho, hk, hold =>
          cases ho
          refine Qg.landsG_free rfl ?_
          exact Qf.lands_val _ _ (runFO2 rfl ((hO 3 (by rfl)).trans rfl)) ⟨hb, fun _ => Base.grown_refl _ _, fun e => absurd e (by decide), rfl⟩
        | 1, _, ho, hk, hold =>
          cases ho
          refine Qg.landsG_free rfl ?_
          have h0 := hA 0 _ 36 (by decide) rfl rfl (by simp)
          rw [show s 0 = _ from hk 0 (by kernel_rfl)] at h0
          exact Qf.lands_val _ _ (runLL rfl h0 (hb.1.c 2 (by omega))) ⟨hb, fun _ => Base.grown_refl _ _, fun e => absurd e (by decide), rfl⟩
        | 2, _, ho, hk, hold =>
          cases ho
          refine Qg.landsG_free rfl ?_
          exact Qf.lands_move _ rfl (.pointer (some ⟨p, 0, none⟩)) ((hO 0 (by rfl)).trans rfl) ⟨hb, fun _ => Base.grown_refl _ _, fun e => absurd e (by decide), rfl⟩
        | 3, _, ho, hk, hold =>
          cases ho
          refine Qg.landsG_free rfl ?_
          have h2 := hA 2 _ 38 (by decide) rfl rfl (by simp)
          rw [show s 2 = _ from hk 2 (by kernel_rfl)] at h2
          refine Qf.lands_call 20 _ _ rfl (enters_of Try.func20 (by kernel_rfl) rfl) _ (by first | (simp [h2]; done) | (simp [h2]; rfl)) ((Base.l1Below B p a len cap 262144 _ hb.1.cur (by decide) (by decide)).mono ?_)
          rintro e wT ⟨z, z0, z1, rfl, dT, gT⟩
          exact ⟨_, rfl, BD.out wS wT hb gT dT, fun _ => gT, fun e => absurd e (by decide), z, rfl, z0, by omega⟩
        | 4, _, ho, hk, hold =>
          cases ho
          refine Qg.landsG_free rfl ?_
          have h3 := hA 3 _ 39 (by decide) rfl rfl (by simp)
          obtain ⟨z, ez, z0, z1⟩ := hk 3 (by kernel_rfl)
          have zb : bd z := ⟨by omega, by omega⟩
          rw [ez] at h3
          have gA : wS.grownBy (wS.alloc (.cells #[.int .i64 z] 3)) (some p) := Lib.grownBy_allocR (Base.grown_refl wS p) _
          exact Qf.lands_val _ _ (runBS1 rfl h3) ⟨BD.out _ _ hb gA (hb.1.cur.alloc _), fun _ => gA, fun e => absurd e (by decide), wS.heap.size, z, rfl, zb, by have := hb.1.pw; have := hb.1.wV; have := hb.1.VX; omega, fun e => by have := hb.2.2.2 _ e; omega, heap_alloc_new wS _⟩
        | 5, _, ho, hk, hold =>
          cases ho
          refine Qg.landsG_free rfl ?_
          have h1 := hA 1 _ 37 (by decide) rfl rfl (by simp)
          have h4 := hA 4 _ 40 (by decide) rfl rfl (by simp)
          rw [show s 1 = _ from hk 1 (by kernel_rfl)] at h1
          obtain ⟨g', z, eg, zb, gp, go, gh⟩ := hk 4 (by kernel_rfl)
          rw [eg] at h4
          refine lands_app rfl h1 (hold rfl) h4 gh zb (by omega) (by have := hb.1.VX; omega) (fun g2 c2 w2 r2 q2 hat => ?_)
          have fb : ∀ q, v2.ownBlock = some q → vb < q := fun q h => (OL.out q h).1
          refine ⟨⟨hb.1.far hB q2 fb, own_grown hb.2.1 q2 (fun q h e => NA.out.1 q h e), own_grown hb.2.2.1 q2 (fun q h e => NA.out.2 q h e), fun q h => Nat.lt_of_lt_of_le (hb.2.2.2 q h) q2.size⟩, fun e => absurd rfl e, fun _ => q2, g2, c2, z, rfl, r2, ?_, ?_⟩
          · rcases hat with e | e
            · exact NA.out.1 g2 e
            · intro e2; have := (own_lt hb.2.1 _ e2).2; omega
          · rcases hat with e | e
            · exact NA.out.2 g2 e
            · intro e2; have := (own_lt hb.2.2.1 _ e2).2; omega
        | 6, _, ho, hk, hold =>
          cases ho
          refine Qg.landsG_free rfl ?_
          exact Qf.lands_val _ _ (runFO2 rfl ((hO 3 (by rfl)).trans rfl)) ⟨hb, fun _ => Base.grown_refl _ _, fun e => absurd e (by decide), rfl⟩
        | _ + 7, hi, _, _, _ => exact absurd hi (by omega)
      case rest =>
      intro s' XXc hb hk
      obtain ⟨gac, gcc, gzc, eq, hrow, hna, hnc⟩ := hk 5 (by decide)
      have ef : s' 6 = _ := hk 6 (by decide)
      obtain ⟨XYc, hXYc⟩ : ∃ XYc, XXc.setCell ⟨vb, 2, none⟩ (.slice (some ⟨gac, 0, none⟩) (k + 1) gcc) = XYc := ⟨_, rfl⟩
      obtain ⟨uq, eu⟩ : ∃ u, XXc.cell? ⟨vb, 2, none⟩ = some u := ⟨_, hb.1.c 2 (by omega)⟩
      have fu : XXc.frozen? ⟨vb, 2, none⟩ = false := hb.1.fz 2
      replace HG := Base.hide (show OD w XYc B p a len cap vb (k + 1) (k + 1) (k + 1) (vna) (vnb) (.slice (some ⟨gac, 0, none⟩) (k + 1) gcc) (upI D0 k gza) (upI D1 k gzb) (upI D2 k gzc) y F z from hXYc ▸ ⟨(hb.1.set hB 2 _ (by omega)).same (fun i hi => by rcases (by omega : i = 0 ∨ i = 1 ∨ i = 2 ∨ i = 3 ∨ i = 4 ∨ i = 5) with rfl | rfl | rfl | rfl | rfl | rfl <;> rfl), own_celA hb.2.1 (Nat.lt_succ_self _), own_celA hb.2.2.1 (Nat.lt_succ_self _), own_celA hrow (Nat.lt_succ_self _), OTH.out.1, fun q h e => by cases e; exact hna h, fun q h e => by cases e; exact hnc h⟩)
      simp only [List.take_succ_cons, List.take_zero, List.drop_succ_cons, List.drop_zero, Qf.lay, Qf.all1, if_true, eq, ef]
      simp only [Act.put, List.setIfInBounds_toArray, List.set_cons_succ, List.set_cons_zero]
      clear hk hb hrow hna hnc eq ef B0 BD OJ OL NA OTH NP
      go_wp2_with fail
      clear hXYc eu fu
      obtain ⟨vnc, hvn⟩ : ∃ z : Value, Value.slice (some ⟨gac, 0, none⟩) (k + 1) gcc = z := ⟨_, rfl⟩
      rw [hvn] at HG
      clear hvn
      go_roundw
      case rel => exact ⟨m - 1, k + 1, _, _, _, _, _, _, by omega, by go_num, HG.out⟩
      case measure => simp [intOf]; omega
    · have hm' : decide (0 < (m : Int)) = false := decide_eq_false hm
      have hm'' : decide (0 < m) = false := decide_eq_false (by omega)
      replace KM := Base.hide (show k ≤ 6 by omega)
      clear hm
      go_upto_region 8 with fail
      clear hm' hm''
      go_cut [50] (fun t wx => ∃ bb : Bool, t = .bool bb ∧ (bb = true → 0 < k) ∧ OD w wx B p a len cap vb k k k v0 v1 v2 D0 D1 D2 y F z)
      case first =>
        go_wp2_with fail
        refine (Nef.l1Once B p a len cap 8 _ HG.out.d.cur (by decide) (by decide)).mono ?_; rintro e w5 ⟨bb, rfl, d5, g5⟩
        replace HG := Base.hide (HG.out.draw g5 d5)
        clear d5 g5
        cases bb
        · go_wp2_with fail
          go_meet
          exact ⟨false, rfl, fun e => Bool.noConfusion e, HG.out⟩
        obtain ⟨a0, c0, e0, l0⟩ := row_L3 HG.out.r0 KM.out
        have p0 : w5.cell? ⟨vb, 0, none⟩ = some (.slice a0 k c0) := by rw [← e0]; exact HG.out.d.c 0 (by omega)
        clear e0 l0
        by_cases k0 : k = 0
        · subst k0
          go_wp2_with fail
          go_meet
          exact ⟨false, rfl, fun e => Bool.noConfusion e, HG.out⟩
        · have kd : decide ((0 : Int) < (k : Int)) = true := decide_eq_true (by omega)
          have kd' : decide (0 < k) = true := decide_eq_true (by omega)
          have K0 := Base.hide (show 0 < k by omega)
          clear k0
          go_wp2_with fail
          go_meet
          exact ⟨true, rfl, fun _ => K0.out, HG.out⟩
      case rest =>
      obtain ⟨bb, rfl, hk0, hD⟩ := hcut
      replace HG := Base.hide hD
      have HK0 := Base.hide hk0
      clear hD hk0
      go_upto_if 50 with fail
      go_cut [] (fun wx => OpD w wx B p a len cap vb)
      case first =>
        cases bb
        · go_wp2_with fail
          go_meet
          exact HG.out.op KM.out YB.out.1 FB.out YB.out.2
        have K0 := Base.hide (HK0.out rfl)
        obtain ⟨g0, c0, e0, x0, m0, -⟩ := row_some HG.out.r0 K0.out
        obtain ⟨g1, c1, e1, x1, m1, -⟩ := row_some HG.out.r1 K0.out
        obtain ⟨g2, c2, e2, x2, m2, -⟩ := row_some HG.out.r2 K0.out
        subst e0
        subst e1
        subst e2
        have M1 := Base.hide m1
        clear x0 x1 x2 m0 m1 m2
        go_wp2_with fail
        refine (Base.l1Below B p a len cap 6 _ HG.out.d.cur (by decide) (by decide)).mono ?_; rintro e wz ⟨j, j0, j1, rfl, dj, gj⟩
        replace HG := Base.hide (HG.out.draw gj dj)
        clear dj gj
        obtain ⟨jn, rfl⟩ := Int.eq_ofNat_of_zero_le j0
        have hj6 : jn < 6 := by omega
        clear j0 j1
        rcases (by omega : jn = 0 ∨ jn = 1 ∨ jn = 2 ∨ jn = 3 ∨ jn = 4 ∨ jn = 5) with rfl | rfl | rfl | rfl | rfl | rfl
        · go_upto_region 11 with fail
          refine Qm.factsO 6 99 (fun X => OD w X B p a len cap vb k k k (.slice (some ⟨g0, 0, none⟩) k c0) (.slice (some ⟨g1, 0, none⟩) k c1) (.slice (some ⟨g2, 0, none⟩) k c2) D0 D1 D2 y F z) (fun _ => True) (fun t v wx => match t with | 0 => v = .pointer (some ⟨vb, 0, none⟩) | 1 => v = .slice (some ⟨g0, 0, none⟩) k c0 | 2 => v = .pointer (some ⟨p, 0, none⟩) | 3 => ∃ q : Nat, v = .slice (some ⟨q, 0, none⟩) 3 3 ∧ q ≠ p ∧ ∀ i, i < 3 → ∃ z : Int, wx.cell? ⟨q, i, none⟩ = some (.int .i64 z) ∧ -9223372036854775808 ≤ z ∧ z ≤ 9223372036854775807 | 4 => ∃ z : Int, v = .int .i64 z ∧ bd z | 5 => v = .pointer (some ⟨g0, 0, none⟩) | _ => True) (fun w1 w2 => w1.grownBy w2 (some p)) (fun _ _ => False) (by kernel_rfl) (by kernel_rfl) ?hb0 trivial (fun _ _ _ _ => trivial) ?hF1 (fun _ _ _ _ _ _ h => h.elim) ?steps ?rst
          case hb0 => exact HG.out.draw (Base.grown_drew _ 1 p) (cur_belA HG.out.d.cur (Below.refl _ _).drew)
          case hF1 =>
            intro t v w1 w2 h q
            match t, h with
            | 0, h => exact h
            | 1, h => exact h
            | 2, h => exact h
            | 3, ⟨q', e, h1, h2⟩ => exact ⟨q', e, h1, fun i hi => by obtain ⟨z, hz, zb⟩ := h2 i hi; exact ⟨z, q.cell hz (by intro e; injection e with e; exact h1 e), zb⟩⟩
            | 4, h => exact h
            | 5, h => exact h
            | _ + 6, h => exact h
          case steps =>
            intro i o hi ho s A wS hb hold hk hA hO
            match i, hi, ho, hk with
            | 0, _, ho, hk =>
              cases ho
              refine Qg.landsG_free rfl ?_
              exact Qf.lands_val _ _ (runFO0 rfl ((hO 3 (by rfl)).trans rfl)) ⟨hb, fun _ => Base.grown_refl _ _, fun e => absurd e (by decide), rfl⟩
            | 1, _, ho, hk =>
              cases ho
              refine Qg.landsG_free rfl ?_
              have h0 := hA 0 _ 55 (by decide) rfl rfl (by simp)
              rw [show s 0 = _ from hk 0 (by kernel_rfl)] at h0
              exact Qf.lands_val _ _ (runLL rfl h0 (hb.d.c 0 (by omega))) ⟨hb, fun _ => Base.grown_refl _ _, fun e => absurd e (by decide), rfl⟩
            | 2, _, ho, hk =>
              cases ho
              refine Qg.landsG_free rfl ?_
              exact Qf.lands_move _ rfl (.pointer (some ⟨p, 0, none⟩)) ((hO 0 (by rfl)).trans rfl) ⟨hb, fun _ => Base.grown_refl _ _, fun e => absurd e (by decide), rfl⟩
            | 3, _, ho, hk =>
              cases ho
              refine Qg.landsG_free rfl ?_
              have gA : wS.grownBy (wS.alloc (.cells #[.int .i64 68719476736, .int .i64 (-68719476736), .int .i64 68719476737] 3)) (some p) := Lib.grownBy_allocR (Base.grown_refl wS p) _
              exact Qf.lands_val _ _ (runBS3 rfl) ⟨hb.draw gA (hb.d.cur.alloc _), fun _ => gA, fun e => absurd e (by decide), wS.heap.size, rfl, by have := hb.d.cur.lt; omega, Base.laid_ints wS [68719476736, -68719476736, 68719476737] 3 (-9223372036854775808) 9223372036854775807 (by intro q hq; simp at hq; omega)⟩
            | 4, _, ho, hk =>
              cases ho
              refine Qg.landsG_free rfl ?_
              have h2 := hA 2 _ 57 (by decide) rfl rfl (by simp)
              have h3 := hA 3 _ 58 (by decide) rfl rfl (by simp)
              rw [show s 2 = _ from hk 2 (by kernel_rfl)] at h2
              obtain ⟨q, eq, hq, hl⟩ := hk 3 (by kernel_rfl)
              rw [eq] at h3
              refine Qf.lands_call 41 _ _ rfl (enters_of Try.func41 (by kernel_rfl) rfl) _ (by first | (simp [h2, h3]; done) | (simp [h2, h3]; rfl)) ((Base.l1PickInt B p a len cap q 3 (-9223372036854775808) 9223372036854775807 _ hb.d.cur hq (by decide) (by decide) hl).mono ?_)
              rintro e wT ⟨z, z0, z1, rfl, dT, gT⟩
              exact ⟨_, rfl, hb.draw gT dT, fun _ => gT, fun e => absurd e (by decide), z, rfl, z0, z1⟩
            | 5, _, ho, hk =>
              cases ho
              refine Qg.landsG_free rfl ?_
              have h1 := hA 1 _ 56 (by decide) rfl rfl (by simp)
              rw [show s 1 = _ from hk 1 (by kernel_rfl)] at h1
              exact Qf.lands_val _ _ (runIx0 rfl h1 K0.out) ⟨hb, fun _ => Base.grown_refl _ _, fun e => absurd e (by decide), rfl⟩
            | _ + 6, hi, _, _ => exact absurd hi (by omega)
          case rst =>
          intro s' XX hb hk
          obtain ⟨zz, ez, zb⟩ := hk 4 (by decide)
          have ef : s' 5 = _ := hk 5 (by decide)
          have PU := Base.hide (hb.pick0 hB KM.out K0.out YB.out.1 FB.out YB.out.2 zb)
          obtain ⟨q0, d0, e0, vv, mm, RR⟩ := row_some hb.r0 K0.out
          cases e0
          have cc := (RR 0 K0.out).1
          have ff := (RR 0 K0.out).2.1
          simp only [List.take_succ_cons, List.take_zero, List.drop_succ_cons, List.drop_zero, Qf.lay, Qf.all1, if_true, ez, ef]
          simp only [Act.put, List.setIfInBounds_toArray, List.set_cons_succ, List.set_cons_zero]
          clear hk hb ez ef vv mm RR zb
          go_wp2_with fail
          go_meet
          exact PU.out.1
        · go_upto_region 13 with fail
          refine Qm.factsO 6 99 (fun X => OD w X B p a len cap vb k k k (.slice (some ⟨g0, 0, none⟩) k c0) (.slice (some ⟨g1, 0, none⟩) k c1) (.slice (some ⟨g2, 0, none⟩) k c2) D0 D1 D2 y F z) (fun _ => True) (fun t v wx => match t with | 0 => v = .pointer (some ⟨vb, 1, none⟩) | 1 => v = .slice (some ⟨g1, 0, none⟩) k c1 | 2 => v = .pointer (some ⟨p, 0, none⟩) | 3 => ∃ q : Nat, v = .slice (some ⟨q, 0, none⟩) 3 3 ∧ q ≠ p ∧ ∀ i, i < 3 → ∃ z : Int, wx.cell? ⟨q, i, none⟩ = some (.int .i64 z) ∧ -9223372036854775808 ≤ z ∧ z ≤ 9223372036854775807 | 4 => ∃ z : Int, v = .int .i64 z ∧ bd z | 5 => v = .pointer (some ⟨g1, 0, none⟩) | _ => True) (fun w1 w2 => w1.grownBy w2 (some p)) (fun _ _ => False) (by kernel_rfl) (by kernel_rfl) ?hb0 trivial (fun _ _ _ _ => trivial) ?hF1 (fun _ _ _ _ _ _ h => h.elim) ?steps ?rst
          case hb0 => exact HG.out.draw (Base.grown_drew _ 1 p) (cur_belA HG.out.d.cur (Below.refl _ _).drew)
          case hF1 =>
            intro t v w1 w2 h q
            match t, h with
            | 0, h => exact h
            | 1, h => exact h
            | 2, h => exact h
            | 3, ⟨q', e, h1, h2⟩ => exact ⟨q', e, h1, fun i hi => by obtain ⟨z, hz, zb⟩ := h2 i hi; exact ⟨z, q.cell hz (by intro e; injection e with e; exact h1 e), zb⟩⟩
            | 4, h => exact h
            | 5, h => exact h
            | _ + 6, h => exact h
          case steps =>
            intro i o hi ho s A wS hb hold hk hA hO
            match i, hi, ho, hk with
            | 0, _, ho, hk =>
              cases ho
              refine Qg.landsG_free rfl ?_
              exact Qf.lands_val _ _ (runFO1 rfl ((hO 3 (by rfl)).trans rfl)) ⟨hb, fun _ => Base.grown_refl _ _, fun e => absurd e (by decide), rfl⟩
            | 1, _, ho, hk =>
              cases ho
              refine Qg.landsG_free rfl ?_
              have h0 := hA 0 _ 63 (by decide) rfl rfl (by simp)
              rw [show s 0 = _ from hk 0 (by kernel_rfl)] at h0
              exact Qf.lands_val _ _ (runLL rfl h0 (hb.d.c 1 (by omega))) ⟨hb, fun _ => Base.grown_refl _ _, fun e => absurd e (by decide), rfl⟩
            | 2, _, ho, hk =>
              cases ho
              refine Qg.landsG_free rfl ?_
              exact Qf.lands_move _ rfl (.pointer (some ⟨p, 0, none⟩)) ((hO 0 (by rfl)).trans rfl) ⟨hb, fun _ => Base.grown_refl _ _, fun e => absurd e (by decide), rfl⟩
            | 3, _, ho, hk =>
              cases ho
              refine Qg.landsG_free rfl ?_
              have gA : wS.grownBy (wS.alloc (.cells #[.int .i64 4294967296, .int .i64 (-4294967296), .int .i64 4294967297] 3)) (some p) := Lib.grownBy_allocR (Base.grown_refl wS p) _
              exact Qf.lands_val _ _ (runBS3 rfl) ⟨hb.draw gA (hb.d.cur.alloc _), fun _ => gA, fun e => absurd e (by decide), wS.heap.size, rfl, by have := hb.d.cur.lt; omega, Base.laid_ints wS [4294967296, -4294967296, 4294967297] 3 (-9223372036854775808) 9223372036854775807 (by intro q hq; simp at hq; omega)⟩
            | 4, _, ho, hk =>
              cases ho
              refine Qg.landsG_free rfl ?_
              have h2 := hA 2 _ 65 (by decide) rfl rfl (by simp)
              have h3 := hA 3 _ 66 (by decide) rfl rfl (by simp)
              rw [show s 2 = _ from hk 2 (by kernel_rfl)] at h2
              obtain ⟨q, eq, hq, hl⟩ := hk 3 (by kernel_rfl)
              rw [eq] at h3
              refine Qf.lands_call 41 _ _ rfl (enters_of Try.func41 (by kernel_rfl) rfl) _ (by first | (simp [h2, h3]; done) | (simp [h2, h3]; rfl)) ((Base.l1PickInt B p a len cap q 3 (-9223372036854775808) 9223372036854775807 _ hb.d.cur hq (by decide) (by decide) hl).mono ?_)
              rintro e wT ⟨z, z0, z1, rfl, dT, gT⟩
              exact ⟨_, rfl, hb.draw gT dT, fun _ => gT, fun e => absurd e (by decide), z, rfl, z0, z1⟩
            | 5, _, ho, hk =>
              cases ho
              refine Qg.landsG_free rfl ?_
              have h1 := hA 1 _ 64 (by decide) rfl rfl (by simp)
              rw [show s 1 = _ from hk 1 (by kernel_rfl)] at h1
              exact Qf.lands_val _ _ (runIx0 rfl h1 K0.out) ⟨hb, fun _ => Base.grown_refl _ _, fun e => absurd e (by decide), rfl⟩
            | _ + 6, hi, _, _ => exact absurd hi (by omega)
          case rst =>
          intro s' XX hb hk
          obtain ⟨zz, ez, zb⟩ := hk 4 (by decide)
          have ef : s' 5 = _ := hk 5 (by decide)
          have PU := Base.hide (hb.pick0 hB KM.out K0.out YB.out.1 FB.out YB.out.2 zb)
          obtain ⟨q1, d1, e1, vv, mm, RR⟩ := row_some hb.r1 K0.out
          cases e1
          have cc := (RR 0 K0.out).1
          have ff := (RR 0 K0.out).2.1
          simp only [List.take_succ_cons, List.take_zero, List.drop_succ_cons, List.drop_zero, Qf.lay, Qf.all1, if_true, ez, ef]
          simp only [Act.put, List.setIfInBounds_toArray, List.set_cons_succ, List.set_cons_zero]
          clear hk hb ez ef vv mm RR zb
          go_wp2_with fail
          go_meet
          exact PU.out.2.1
        · go_upto_region 15 with fail
          refine Qm.factsO 6 99 (fun X => OD w X B p a len cap vb k k k (.slice (some ⟨g0, 0, none⟩) k c0) (.slice (some ⟨g1, 0, none⟩) k c1) (.slice (some ⟨g2, 0, none⟩) k c2) D0 D1 D2 y F z) (fun _ => True) (fun t v wx => match t with | 0 => v = .pointer (some ⟨vb, 2, none⟩) | 1 => v = .slice (some ⟨g2, 0, none⟩) k c2 | 2 => v = .pointer (some ⟨p, 0, none⟩) | 3 => ∃ q : Nat, v = .slice (some ⟨q, 0, none⟩) 3 3 ∧ q ≠ p ∧ ∀ i, i < 3 → ∃ z : Int, wx.cell? ⟨q, i, none⟩ = some (.int .i64 z) ∧ -9223372036854775808 ≤ z ∧ z ≤ 9223372036854775807 | 4 => ∃ z : Int, v = .int .i64 z ∧ bd z | 5 => v = .pointer (some ⟨g2, 0, none⟩) | _ => True) (fun w1 w2 => w1.grownBy w2 (some p)) (fun _ _ => False) (by kernel_rfl) (by kernel_rfl) ?hb0 trivial (fun _ _ _ _ => trivial) ?hF1 (fun _ _ _ _ _ _ h => h.elim) ?steps ?rst
          case hb0 => exact HG.out.draw (Base.grown_drew _ 1 p) (cur_belA HG.out.d.cur (Below.refl _ _).drew)
          case hF1 =>
            intro t v w1 w2 h q
            match t, h with
            | 0, h => exact h
            | 1, h => exact h
            | 2, h => exact h
            | 3, ⟨q', e, h1, h2⟩ => exact ⟨q', e, h1, fun i hi => by obtain ⟨z, hz, zb⟩ := h2 i hi; exact ⟨z, q.cell hz (by intro e; injection e with e; exact h1 e), zb⟩⟩
            | 4, h => exact h
            | 5, h => exact h
            | _ + 6, h => exact h
          case steps =>
            intro i o hi ho s A wS hb hold hk hA hO
            match i, hi, ho, hk with
            | 0, _, ho, hk =>
              cases ho
              refine Qg.landsG_free rfl ?_
              exact Qf.lands_val _ _ (runFO2 rfl ((hO 3 (by rfl)).trans rfl)) ⟨hb, fun _ => Base.grown_refl _ _, fun e => absurd e (by decide), rfl⟩
            | 1, _, ho, hk =>
              cases ho
              refine Qg.landsG_free rfl ?_
              have h0 := hA 0 _ 71 (by decide) rfl rfl (by simp)
              rw [show s 0 = _ from hk 0 (by kernel_rfl)] at h0
              exact Qf.lands_val _ _ (runLL rfl h0 (hb.d.c 2 (by omega))) ⟨hb, fun _ => Base.grown_refl _ _, fun e => absurd e (by decide), rfl⟩
            | 2, _, ho, hk =>
              cases ho
              refine Qg.landsG_free rfl ?_
              exact Qf.lands_move _ rfl (.pointer (some ⟨p, 0, none⟩)) ((hO 0 (by rfl)).trans rfl) ⟨hb, fun _ => Base.grown_refl _ _, fun e => absurd e (by decide), rfl⟩
            | 3, _, ho, hk =>
              cases ho
              refine Qg.landsG_free rfl ?_
              have gA : wS.grownBy (wS.alloc (.cells #[.int .i64 17179869184, .int .i64 17179869185, .int .i64 (-1)] 3)) (some p) := Lib.grownBy_allocR (Base.grown_refl wS p) _
              exact Qf.lands_val _ _ (runBS3 rfl) ⟨hb.draw gA (hb.d.cur.alloc _), fun _ => gA, fun e => absurd e (by decide), wS.heap.size, rfl, by have := hb.d.cur.lt; omega, Base.laid_ints wS [17179869184, 17179869185, -1] 3 (-9223372036854775808) 9223372036854775807 (by intro q hq; simp at hq; omega)⟩
            | 4, _, ho, hk =>
              cases ho
              refine Qg.landsG_free rfl ?_
              have h2 := hA 2 _ 73 (by decide) rfl rfl (by simp)
              have h3 := hA 3 _ 74 (by decide) rfl rfl (by simp)
              rw [show s 2 = _ from hk 2 (by kernel_rfl)] at h2
              obtain ⟨q, eq, hq, hl⟩ := hk 3 (by kernel_rfl)
              rw [eq] at h3
              refine Qf.lands_call 41 _ _ rfl (enters_of Try.func41 (by kernel_rfl) rfl) _ (by first | (simp [h2, h3]; done) | (simp [h2, h3]; rfl)) ((Base.l1PickInt B p a len cap q 3 (-9223372036854775808) 9223372036854775807 _ hb.d.cur hq (by decide) (by decide) hl).mono ?_)
              rintro e wT ⟨z, z0, z1, rfl, dT, gT⟩
              exact ⟨_, rfl, hb.draw gT dT, fun _ => gT, fun e => absurd e (by decide), z, rfl, z0, z1⟩
            | 5, _, ho, hk =>
              cases ho
              refine Qg.landsG_free rfl ?_
              have h1 := hA 1 _ 72 (by decide) rfl rfl (by simp)
              rw [show s 1 = _ from hk 1 (by kernel_rfl)] at h1
              exact Qf.lands_val _ _ (runIx0 rfl h1 K0.out) ⟨hb, fun _ => Base.grown_refl _ _, fun e => absurd e (by decide), rfl⟩
            | _ + 6, hi, _, _ => exact absurd hi (by omega)
          case rst =>
          intro s' XX hb hk
          obtain ⟨zz, ez, zb⟩ := hk 4 (by decide)
          have ef : s' 5 = _ := hk 5 (by decide)
          have PU := Base.hide (hb.pick0 hB KM.out K0.out YB.out.1 FB.out YB.out.2 zb)
          obtain ⟨q2, d2, e2, vv, mm, RR⟩ := row_some hb.r2 K0.out
          cases e2
          have cc := (RR 0 K0.out).1
          have ff := (RR 0 K0.out).2.1
          simp only [List.take_succ_cons, List.take_zero, List.drop_succ_cons, List.drop_zero, Qf.lay, Qf.all1, if_true, ez, ef]
          simp only [Act.put, List.setIfInBounds_toArray, List.set_cons_succ, List.set_cons_zero]
          clear hk hb ez ef vv mm RR zb
          go_wp2_with fail
          go_meet
          exact PU.out.2.2
        · have hl := Base.laid_ints wz [3, 0, 131072] 3 (-9223372036854775808) 9223372036854775807 (by intro q hq; simp at hq; omega)
          have HA := Base.hide (HG.out.draw (Lib.grownBy_allocR (Base.grown_refl wz p) (.cells (([3, 0, 131072] : List Int).map (Value.int .i64)).toArray 3)) (HG.out.d.cur.alloc _))
          have vp := HG.out.d.cur.lt
          clear HG
          go_wp2_with fail
          refine (Base.l1PickInt B p a len cap wz.heap.size 3 (-9223372036854775808) 9223372036854775807 _ HA.out.d.cur (by omega) (by omega) (by omega) hl).mono ?_; rintro e wy ⟨q, q0, q1, rfl, dq, gq⟩
          have HG := Base.hide (HA.out.draw gq dq)
          clear dq gq hl vp HA
          have QB := Base.hide (show bd q from ⟨q0, q1⟩)
          clear q0 q1
          obtain ⟨uc, ec⟩ : ∃ u, wy.cell? ⟨vb, 4, none⟩ = some u := ⟨_, HG.out.d.c 4 (by omega)⟩
          have fc : wy.frozen? ⟨vb, 4, none⟩ = false := HG.out.d.fz 4
          have PU := Base.hide (HG.out.setI hB q)
          go_wp2_with fail
          go_meet
          exact PU.out.2.op KM.out YB.out.1 QB.out YB.out.2
        · have hl := Base.laid_ints wz [1000000, 999999, -1] 3 (-9223372036854775808) 9223372036854775807 (by intro q hq; simp at hq; omega)
          have HA := Base.hide (HG.out.draw (Lib.grownBy_allocR (Base.grown_refl wz p) (.cells (([1000000, 999999, -1] : List Int).map (Value.int .i64)).toArray 3)) (HG.out.d.cur.alloc _))
          have vp := HG.out.d.cur.lt
          clear HG
          go_wp2_with fail
          refine (Base.l1PickInt B p a len cap wz.heap.size 3 (-9223372036854775808) 9223372036854775807 _ HA.out.d.cur (by omega) (by omega) (by omega) hl).mono ?_; rintro e wy ⟨q, q0, q1, rfl, dq, gq⟩
          have HG := Base.hide (HA.out.draw gq dq)
          clear dq gq hl vp HA
          have QB := Base.hide (show bd q from ⟨q0, q1⟩)
          clear q0 q1
          obtain ⟨uc, ec⟩ : ∃ u, wy.cell? ⟨vb, 3, none⟩ = some u := ⟨_, HG.out.d.c 3 (by omega)⟩
          have fc : wy.frozen? ⟨vb, 3, none⟩ = false := HG.out.d.fz 3
          have PU := Base.hide (HG.out.setI hB q)
          go_wp2_with fail
          go_meet
          exact PU.out.1.op KM.out QB.out FB.out YB.out.2
        · have p1 : wz.cell? ⟨vb, 1, none⟩ = some (.slice (some ⟨g1, 0, none⟩) k c1) := HG.out.d.c 1 (by omega)
          have fc : wz.frozen? ⟨vb, 1, none⟩ = false := HG.out.d.fz 1
          have PU := Base.hide (HG.out.cut1 hB KM.out K0.out YB.out.1 FB.out YB.out.2)
          have PV := Base.hide (HG.out.cut0 hB KM.out K0.out YB.out.1 FB.out YB.out.2)
          have K1 := K0.out
          have M1' := M1.out
          by_cases hc1 : c1 = 1
          · obtain rfl : k = 1 := by omega
            subst hc1
            go_wp2_with fail
            go_meet
            first | exact PV.out rfl | exact PV.out trivial
          · have hc2 : ¬ c1 - 1 = 0 := by omega
            have hc3 : 1 < c1 := by omega
            go_wp2_with fail
            all_goals first
              | omega
              | (go_meet; exact PU.out)
      case rest =>
      obtain ⟨a0, a1, a2, n0, c0, n1, c1, n2, c2, E0, E1, E2, cc, ff, gg, hD, ⟨l0, l1, l2⟩, bc, bf, bg⟩ := hcut
      have HX := Base.hide hD
      have LL := Base.hide (And.intro l0 (And.intro l1 l2))
      have BB := Base.hide (And.intro bc (And.intro bf bg))
      have NV := Base.hide (show w.heap.size < vb from hD.wV)
      clear hD l0 l1 l2 bc bf bg HG
      have o0 : wc.cell? ⟨vb, 0, none⟩ = some (.slice a0 n0 c0) := HX.out.c 0 (by omega)
      have o1 : wc.cell? ⟨vb, 1, none⟩ = some (.slice a1 n1 c1) := HX.out.c 1 (by omega)
      have o2 : wc.cell? ⟨vb, 2, none⟩ = some (.slice a2 n2 c2) := HX.out.c 2 (by omega)
      have o3 : wc.cell? ⟨vb, 3, none⟩ = some (.int .i64 cc) := HX.out.c 3 (by omega)
      have o4 : wc.cell? ⟨vb, 4, none⟩ = some (.int .i64 ff) := HX.out.c 4 (by omega)
      have o5 : wc.cell? ⟨vb, 5, none⟩ = some (.int .i64 gg) := HX.out.c 5 (by omega)
      obtain ⟨Y0, hY0⟩ : ∃ Y, wc.setCell ⟨w.heap.size, 0, none⟩ (.slice a0 n0 c0) = Y := ⟨_, rfl⟩
      obtain ⟨uY0, eY0⟩ : ∃ u, wc.cell? ⟨w.heap.size, 0, none⟩ = some u := ⟨_, HX.out.r 0 (by omega)⟩
      have gY0 : wc.frozen? ⟨w.heap.size, 0, none⟩ = false := HX.out.rf 0
      replace HX := Base.hide (show DS 6 w Y0 B p a len cap vb _ _ from hY0 ▸ HX.out.setR hB 0 (.slice a0 n0 c0) (by omega))
      replace LL := Base.hide (show L3 vb Y0 a0 n0 c0 E0 ∧ L3 vb Y0 a1 n1 c1 E1 ∧ L3 vb Y0 a2 n2 c2 E2 from hY0 ▸ ⟨LL.out.1.kept (Kept.setCell _ ⟨w.heap.size, 0, none⟩ _) (fun ad e q => by have := LL.out.1.2.2.1 ad e; have := NV.out; have q : ad.block = w.heap.size := q; omega), LL.out.2.1.kept (Kept.setCell _ ⟨w.heap.size, 0, none⟩ _) (fun ad e q => by have := LL.out.2.1.2.2.1 ad e; have := NV.out; have q : ad.block = w.heap.size := q; omega), LL.out.2.2.kept (Kept.setCell _ ⟨w.heap.size, 0, none⟩ _) (fun ad e q => by have := LL.out.2.2.2.2.1 ad e; have := NV.out; have q : ad.block = w.heap.size := q; omega)⟩)
      obtain ⟨Y1, hY1⟩ : ∃ Y, Y0.setCell ⟨w.heap.size, 1, none⟩ (.slice a1 n1 c1) = Y := ⟨_, rfl⟩
      obtain ⟨uY1, eY1⟩ : ∃ u, Y0.cell? ⟨w.heap.size, 1, none⟩ = some u := ⟨_, HX.out.r 1 (by omega)⟩
      have gY1 : Y0.frozen? ⟨w.heap.size, 1, none⟩ = false := HX.out.rf 1
      replace HX := Base.hide (show DS 6 w Y1 B p a len cap vb _ _ from hY1 ▸ HX.out.setR hB 1 (.slice a1 n1 c1) (by omega))
      replace LL := Base.hide (show L3 vb Y1 a0 n0 c0 E0 ∧ L3 vb Y1 a1 n1 c1 E1 ∧ L3 vb Y1 a2 n2 c2 E2 from hY1 ▸ ⟨LL.out.1.kept (Kept.setCell _ ⟨w.heap.size, 1, none⟩ _) (fun ad e q => by have := LL.out.1.2.2.1 ad e; have := NV.out; have q : ad.block = w.heap.size := q; omega), LL.out.2.1.kept (Kept.setCell _ ⟨w.heap.size, 1, none⟩ _) (fun ad e q => by have := LL.out.2.1.2.2.1 ad e; have := NV.out; have q : ad.block = w.heap.size := q; omega), LL.out.2.2.kept (Kept.setCell _ ⟨w.heap.size, 1, none⟩ _) (fun ad e q => by have := LL.out.2.2.2.2.1 ad e; have := NV.out; have q : ad.block = w.heap.size := q; omega)⟩)
      obtain ⟨Y2, hY2⟩ : ∃ Y, Y1.setCell ⟨w.heap.size, 2, none⟩ (.slice a2 n2 c2) = Y := ⟨_, rfl⟩
      obtain ⟨uY2, eY2⟩ : ∃ u, Y1.cell? ⟨w.heap.size, 2, none⟩ = some u := ⟨_, HX.out.r 2 (by omega)⟩
      have gY2 : Y1.frozen? ⟨w.heap.size, 2, none⟩ = false := HX.out.rf 2
      replace HX := Base.hide (show DS 6 w Y2 B p a len cap vb _ _ from hY2 ▸ HX.out.setR hB 2 (.slice a2 n2 c2) (by omega))
      replace LL := Base.hide (show L3 vb Y2 a0 n0 c0 E0 ∧ L3 vb Y2 a1 n1 c1 E1 ∧ L3 vb Y2 a2 n2 c2 E2 from hY2 ▸ ⟨LL.out.1.kept (Kept.setCell _ ⟨w.heap.size, 2, none⟩ _) (fun ad e q => by have := LL.out.1.2.2.1 ad e; have := NV.out; have q : ad.block = w.heap.size := q; omega), LL.out.2.1.kept (Kept.setCell _ ⟨w.heap.size, 2, none⟩ _) (fun ad e q => by have := LL.out.2.1.2.2.1 ad e; have := NV.out; have q : ad.block = w.heap.size := q; omega), LL.out.2.2.kept (Kept.setCell _ ⟨w.heap.size, 2, none⟩ _) (fun ad e q => by have := LL.out.2.2.2.2.1 ad e; have := NV.out; have q : ad.block = w.heap.size := q; omega)⟩)
      obtain ⟨Y3, hY3⟩ : ∃ Y, Y2.setCell ⟨w.heap.size, 3, none⟩ (.int .i64 cc) = Y := ⟨_, rfl⟩
      obtain ⟨uY3, eY3⟩ : ∃ u, Y2.cell? ⟨w.heap.size, 3, none⟩ = some u := ⟨_, HX.out.r 3 (by omega)⟩
      have gY3 : Y2.frozen? ⟨w.heap.size, 3, none⟩ = false := HX.out.rf 3
      replace HX := Base.hide (show DS 6 w Y3 B p a len cap vb _ _ from hY3 ▸ HX.out.setR hB 3 (.int .i64 cc) (by omega))
      replace LL := Base.hide (show L3 vb Y3 a0 n0 c0 E0 ∧ L3 vb Y3 a1 n1 c1 E1 ∧ L3 vb Y3 a2 n2 c2 E2 from hY3 ▸ ⟨LL.out.1.kept (Kept.setCell _ ⟨w.heap.size, 3, none⟩ _) (fun ad e q => by have := LL.out.1.2.2.1 ad e; have := NV.out; have q : ad.block = w.heap.size := q; omega), LL.out.2.1.kept (Kept.setCell _ ⟨w.heap.size, 3, none⟩ _) (fun ad e q => by have := LL.out.2.1.2.2.1 ad e; have := NV.out; have q : ad.block = w.heap.size := q; omega), LL.out.2.2.kept (Kept.setCell _ ⟨w.heap.size, 3, none⟩ _) (fun ad e q => by have := LL.out.2.2.2.2.1 ad e; have := NV.out; have q : ad.block = w.heap.size := q; omega)⟩)
      obtain ⟨Y4, hY4⟩ : ∃ Y, Y3.setCell ⟨w.heap.size, 4, none⟩ (.int .i64 ff) = Y := ⟨_, rfl⟩
      obtain ⟨uY4, eY4⟩ : ∃ u, Y3.cell? ⟨w.heap.size, 4, none⟩ = some u := ⟨_, HX.out.r 4 (by omega)⟩
      have gY4 : Y3.frozen? ⟨w.heap.size, 4, none⟩ = false := HX.out.rf 4
      replace HX := Base.hide (show DS 6 w Y4 B p a len cap vb _ _ from hY4 ▸ HX.out.setR hB 4 (.int .i64 ff) (by omega))
      replace LL := Base.hide (show L3 vb Y4 a0 n0 c0 E0 ∧ L3 vb Y4 a1 n1 c1 E1 ∧ L3 vb Y4 a2 n2 c2 E2 from hY4 ▸ ⟨LL.out.1.kept (Kept.setCell _ ⟨w.heap.size, 4, none⟩ _) (fun ad e q => by have := LL.out.1.2.2.1 ad e; have := NV.out; have q : ad.block = w.heap.size := q; omega), LL.out.2.1.kept (Kept.setCell _ ⟨w.heap.size, 4, none⟩ _) (fun ad e q => by have := LL.out.2.1.2.2.1 ad e; have := NV.out; have q : ad.block = w.heap.size := q; omega), LL.out.2.2.kept (Kept.setCell _ ⟨w.heap.size, 4, none⟩ _) (fun ad e q => by have := LL.out.2.2.2.2.1 ad e; have := NV.out; have q : ad.block = w.heap.size := q; omega)⟩)
      obtain ⟨Y5, hY5⟩ : ∃ Y, Y4.setCell ⟨w.heap.size, 5, none⟩ (.int .i64 gg) = Y := ⟨_, rfl⟩
      obtain ⟨uY5, eY5⟩ : ∃ u, Y4.cell? ⟨w.heap.size, 5, none⟩ = some u := ⟨_, HX.out.r 5 (by omega)⟩
      have gY5 : Y4.frozen? ⟨w.heap.size, 5, none⟩ = false := HX.out.rf 5
      replace HX := Base.hide (show DS 6 w Y5 B p a len cap vb _ _ from hY5 ▸ HX.out.setR hB 5 (.int .i64 gg) (by omega))
      replace LL := Base.hide (show L3 vb Y5 a0 n0 c0 E0 ∧ L3 vb Y5 a1 n1 c1 E1 ∧ L3 vb Y5 a2 n2 c2 E2 from hY5 ▸ ⟨LL.out.1.kept (Kept.setCell _ ⟨w.heap.size, 5, none⟩ _) (fun ad e q => by have := LL.out.1.2.2.1 ad e; have := NV.out; have q : ad.block = w.heap.size := q; omega), LL.out.2.1.kept (Kept.setCell _ ⟨w.heap.size, 5, none⟩ _) (fun ad e q => by have := LL.out.2.1.2.2.1 ad e; have := NV.out; have q : ad.block = w.heap.size := q; omega), LL.out.2.2.kept (Kept.setCell _ ⟨w.heap.size, 5, none⟩ _) (fun ad e q => by have := LL.out.2.2.2.2.1 ad e; have := NV.out; have q : ad.block = w.heap.size := q; omega)⟩)
      have r0 : Y5.cell? ⟨w.heap.size, 0, none⟩ = some (.slice a0 n0 c0) := HX.out.r 0 (by omega)
      have r1 : Y5.cell? ⟨w.heap.size, 1, none⟩ = some (.slice a1 n1 c1) := HX.out.r 1 (by omega)
      have r2 : Y5.cell? ⟨w.heap.size, 2, none⟩ = some (.slice a2 n2 c2) := HX.out.r 2 (by omega)
      have r3 : Y5.cell? ⟨w.heap.size, 3, none⟩ = some (.int .i64 cc) := HX.out.r 3 (by omega)
      have r4 : Y5.cell? ⟨w.heap.size, 4, none⟩ = some (.int .i64 ff) := HX.out.r 4 (by omega)
      have r5 : Y5.cell? ⟨w.heap.size, 5, none⟩ = some (.int .i64 gg) := HX.out.r 5 (by omega)
      go_wp2_with fail
      exact bodyPost_ret (v := .agg #[.slice a0 n0 c0, .slice a1 n1 c1, .slice a2 n2 c2, .int .i64 cc, .int .i64 ff, .int .i64 gg]) (by simp [results, Try.results19, go_sem, r0, r1, r2, r3, r4, r5]) rfl ⟨a0, a1, a2, n0, c0, n1, c1, n2, c2, E0, E1, E2, cc, ff, gg, rfl, ⟨LL.out.1.2.2.2, LL.out.2.1.2.2.2, LL.out.2.2.2.2.2⟩, ⟨LL.out.1.1, LL.out.2.1.1, LL.out.2.2.1⟩, ⟨LL.out.1.2.1, LL.out.2.1.2.1, LL.out.2.2.2.1⟩, BB.out, ⟨fun ad e => Nat.lt_trans NV.out (LL.out.1.2.2.1 ad e), fun ad e => Nat.lt_trans NV.out (LL.out.2.1.2.2.1 ad e), fun ad e => Nat.lt_trans NV.out (LL.out.2.2.2.2.1 ad e)⟩, HX.out.cur, HX.out.gr⟩
end Vo
end Go.Proofs.Ytflbhlepmjiejaa

/- A rule, a state and gradients that a law draws (written by tools/genbe.py). -/
namespace Go.Proofs.Ytflbhlepmjiejaa
namespace Vo
open Go.ChangeShapes Go.WideShapes Go.ChangeAt Go.RowKit Go.Joins Go.Sort
open Vl
set_option linter.unusedVariables false
set_option linter.unusedSimpArgs false
/-- a rule in block br, a state in block bo, its lists; the answer's two variables are the first blocks -/
structure SB (w : World) (p br bo : Nat) (a : Option Addr) (len cap : Nat) (R : Rl) (a0 a1 a2 : Option Addr) (n0 c0 n1 c1 n2 c2 : Nat) (D0 D1 D2 : Nat → Int) (c f g : Int) (X : World) : Prop where
  cur : Base.Cur p X p a len cap
  hr : ∀ i, i < 11 → X.cell? ⟨br, i, none⟩ = some (RVf R i)
  ho : ∀ i, i < 6 → X.cell? ⟨bo, i, none⟩ = some ((OW (.slice a0 n0 c0) (.slice a1 n1 c1) (.slice a2 n2 c2) c f g) i)
  l0 : Ints X.heap.size X a0 n0 D0 ∧ ∀ ad, a0 = some ad → p < ad.block
  l1 : Ints X.heap.size X a1 n1 D1 ∧ ∀ ad, a1 = some ad → p < ad.block
  l2 : Ints X.heap.size X a2 n2 D2 ∧ ∀ ad, a2 = some ad → p < ad.block
  rO : (∀ i, i < 6 → X.cell? ⟨w.heap.size + 1, i, none⟩ = some (Z6 i)) ∧ ∀ i, X.frozen? ⟨w.heap.size + 1, i, none⟩ = false
  b : Below w.heap.size w X
  z : w.heap.size + 1 < p ∧ p < br ∧ p < bo ∧ br < X.heap.size ∧ bo < X.heap.size
theorem ints_far {n p : Nat} {X X' : World} {a : Option Addr} {D : Nat → Int} {S : Nat → Prop} (h : Ints X.heap.size X a n D) (hp : ∀ ad, a = some ad → p < ad.block) (k : Kept S X X') (hs : ∀ b, S b → b ≤ p) : Ints X'.heap.size X' a n D := by
  rcases h with h1 | ⟨b, off, e, hb, hc⟩
  · exact .inl h1
  · exact .inr ⟨b, off, e, Nat.lt_of_lt_of_le hb k.size, fun j hj => ⟨(World.cell?_of_block (w := X) (a := ⟨b, off + j, none⟩) (k.block b hb (fun q => by have := hs b q; have := hp _ e; have q2 : p < b := this; omega))).trans (hc j hj).1, (hc j hj).2⟩⟩
theorem cur_kept2 {B p : Nat} {a : Option Addr} {len cap : Nat} {X Y : World} {T : Nat → Prop} (h : Base.Cur B X p a len cap) (k : Kept T X Y) (hp : ¬ T p) (hcd : Base.Code B Y a len) : Base.Cur B Y p a len cap := by
  have hl := h.lt
  obtain ⟨hB, -, c0, ⟨i, g, c1, c2, z⟩, f1, f2⟩ := h
  have o : ∀ j, Y.cell? ⟨p, j, none⟩ = X.cell? ⟨p, j, none⟩ := fun j => World.cell?_of_block (w := X) (a := ⟨p, j, none⟩) (k.block p hl hp)
  have q : ∀ j, Y.frozen? ⟨p, j, none⟩ = X.frozen? ⟨p, j, none⟩ := fun j => World.frozen?_of_block (w := X) (a := ⟨p, j, none⟩) (k.block p hl hp)
  exact ⟨hB, hcd, (o 0).trans c0, ⟨i, g, (o 1).trans c1, (o 2).trans c2, z⟩, (q 1).trans f1, (q 2).trans f2⟩
section
variable {w X X' : World} {p br bo : Nat} {a : Option Addr} {len cap : Nat} {R : Rl} {a0 a1 a2 : Option Addr} {n0 c0 n1 c1 n2 c2 : Nat} {D0 D1 D2 : Nat → Int} {c f g : Int}
theorem SB.kept {S : Nat → Prop} (h : SB w p br bo a len cap R a0 a1 a2 n0 c0 n1 c1 n2 c2 D0 D1 D2 c f g X) (k : Kept S X X') (cu : Base.Cur p X' p a len cap) (hs : ∀ b, S b → b ≤ p) (h0 : ¬ S (w.heap.size + 1)) (hw : ∀ b, S b → w.heap.size ≤ b) : SB w p br bo a len cap R a0 a1 a2 n0 c0 n1 c1 n2 c2 D0 D1 D2 c f g X' := by
  obtain ⟨z1, z2, z3, z4, z5⟩ := h.z
  have cl : ∀ q i, q < X.heap.size → ¬ S q → X'.cell? ⟨q, i, none⟩ = X.cell? ⟨q, i, none⟩ := fun q i hq hn => World.cell?_of_block (w := X) (a := ⟨q, i, none⟩) (k.block q hq hn)
  have fz : ∀ q i, q < X.heap.size → ¬ S q → X'.frozen? ⟨q, i, none⟩ = X.frozen? ⟨q, i, none⟩ := fun q i hq hn => World.frozen?_of_block (w := X) (a := ⟨q, i, none⟩) (k.block q hq hn)
  refine ⟨cu, fun i hi => (cl br i z4 (fun e => by have := hs _ e; omega)).trans (h.hr i hi), fun i hi => (cl bo i z5 (fun e => by have := hs _ e; omega)).trans (h.ho i hi), ⟨ints_far h.l0.1 h.l0.2 k hs, h.l0.2⟩, ⟨ints_far h.l1.1 h.l1.2 k hs, h.l1.2⟩, ⟨ints_far h.l2.1 h.l2.2 k hs, h.l2.2⟩, ⟨fun i hi => (cl _ i (by omega) h0).trans (h.rO.1 i hi), fun i => (fz _ i (by omega) h0).trans (h.rO.2 i)⟩, h.b.trans (k.below h.b.size hw), z1, z2, z3, Nat.lt_of_lt_of_le z4 k.size, Nat.lt_of_lt_of_le z5 k.size⟩
theorem SB.draw (h : SB w p br bo a len cap R a0 a1 a2 n0 c0 n1 c1 n2 c2 D0 D1 D2 c f g X) (q : X.grownBy X' (some p)) (cu : Base.Cur p X' p a len cap) : SB w p br bo a len cap R a0 a1 a2 n0 c0 n1 c1 n2 c2 D0 D1 D2 c f g X' := by
  have z := h.z
  exact h.kept (keptP q) cu (fun b e => by have e : b = p := e; omega) (fun e => by have e : w.heap.size + 1 = p := e; omega) (fun b e => by have e : b = p := e; omega)
end
section
variable {o : Oper} {A : Act} {w : World} {x y : Operand}
theorem runQuoC {z c q : Int} (ho : o.op = .binOp .quo 3 x (.const (.int .i64 39)) 3) (hx : A.eval x = .int .i64 z) (h0 : 0 ≤ z) (h1 : z ≤ 39) : (execOp A.eval o).run Try.prog w = .ok (.value (.int .i64 (z.tdiv 39))) w := by
  have hw : IntKind.i64.wrap (z.tdiv 39) = z.tdiv 39 := by rw [Int.tdiv_eq_ediv_of_nonneg h0]; exact wid (by omega)
  unfold execOp
  rw [ho]
  simp only [hx]
  go_simp
theorem runAddI {z c q : Int} (ho : o.op = .binOp .add 3 x y 3) (hx : A.eval x = .int .i64 z) (hy : A.eval y = .int .i64 c) (hq : IntKind.i64.wrap (z + c) = q) : (execOp A.eval o).run Try.prog w = .ok (.value (.int .i64 q)) w := by
  unfold execOp
  rw [ho]
  simp only [hx, hy]
  go_simp
theorem runStoreR {R : Rl} {b : Nat} (ho : o.op = .store 27 x y) (hx : A.eval x = .pointer (some ⟨b, 0, none⟩)) (hy : A.eval y = .agg #[.int .i64 R.d, .int .i64 R.r1, .int .i64 R.r2, .int .i64 R.r3, .int .i64 R.r4, .int .i64 R.k, .int .i64 R.z, .int .i64 R.o, .int .i64 R.y, .int .i64 R.mo, .int .i64 R.gr]) (h : ∀ i, i < 11 → w.cell? ⟨b, i, none⟩ = some (.int .i64 0)) (hf : ∀ i, w.frozen? ⟨b, i, none⟩ = false) :
    ∃ w', (execOp A.eval o).run Try.prog w = .ok .skip w' ∧ (∀ i, i < 11 → w'.cell? ⟨b, i, none⟩ = some (RVf R i)) ∧ Kept (· = b) w w' := by
  have f0 := h 0 (by omega)
  have g0 := hf 0
  have f1 := h 1 (by omega)
  have g1 := hf 1
  have f2 := h 2 (by omega)
  have g2 := hf 2
  have f3 := h 3 (by omega)
  have g3 := hf 3
  have f4 := h 4 (by omega)
  have g4 := hf 4
  have f5 := h 5 (by omega)
  have g5 := hf 5
  have f6 := h 6 (by omega)
  have g6 := hf 6
  have f7 := h 7 (by omega)
  have g7 := hf 7
  have f8 := h 8 (by omega)
  have g8 := hf 8
  have f9 := h 9 (by omega)
  have g9 := hf 9
  have f10 := h 10 (by omega)
  have g10 := hf 10
  refine ⟨(((((((((((w.setCell ⟨b, 0, none⟩ (.int .i64 R.d)).setCell ⟨b, 1, none⟩ (.int .i64 R.r1)).setCell ⟨b, 2, none⟩ (.int .i64 R.r2)).setCell ⟨b, 3, none⟩ (.int .i64 R.r3)).setCell ⟨b, 4, none⟩ (.int .i64 R.r4)).setCell ⟨b, 5, none⟩ (.int .i64 R.k)).setCell ⟨b, 6, none⟩ (.int .i64 R.z)).setCell ⟨b, 7, none⟩ (.int .i64 R.o)).setCell ⟨b, 8, none⟩ (.int .i64 R.y)).setCell ⟨b, 9, none⟩ (.int .i64 R.mo)).setCell ⟨b, 10, none⟩ (.int .i64 R.gr)), ?_, ?_, ?_⟩
  · unfold execOp
    rw [ho]
    simp only [hx, hy]
    go_simp
  · intro i hi
    rcases (by omega : i = 0 ∨ i = 1 ∨ i = 2 ∨ i = 3 ∨ i = 4 ∨ i = 5 ∨ i = 6 ∨ i = 7 ∨ i = 8 ∨ i = 9 ∨ i = 10) with rfl | rfl | rfl | rfl | rfl | rfl | rfl | rfl | rfl | rfl | rfl <;> simp [go_sem, RVf, f0, f1, f2, f3, f4, f5, f6, f7, f8, f9, f10]
  · exact ((((((((((Kept.setCell w ⟨b, 0, none⟩ _).trans (Kept.setCell _ ⟨b, 1, none⟩ _)).trans (Kept.setCell _ ⟨b, 2, none⟩ _)).trans (Kept.setCell _ ⟨b, 3, none⟩ _)).trans (Kept.setCell _ ⟨b, 4, none⟩ _)).trans (Kept.setCell _ ⟨b, 5, none⟩ _)).trans (Kept.setCell _ ⟨b, 6, none⟩ _)).trans (Kept.setCell _ ⟨b, 7, none⟩ _)).trans (Kept.setCell _ ⟨b, 8, none⟩ _)).trans (Kept.setCell _ ⟨b, 9, none⟩ _)).trans (Kept.setCell _ ⟨b, 10, none⟩ _)
end
/-- what was drawn -/
def DSE (w : World) (e : Ending) (w' : World) : Prop :=
  ∃ (R : Rl) (a0 a1 a2 : Option Addr) (n0 c0 n1 c1 n2 c2 : Nat) (D0 D1 D2 : Nat → Int) (c f g : Int) (b : Option Addr) (k cc : Nat), e = .returned (.tuple #[.agg #[.int .i64 R.d, .int .i64 R.r1, .int .i64 R.r2, .int .i64 R.r3, .int .i64 R.r4, .int .i64 R.k, .int .i64 R.z, .int .i64 R.o, .int .i64 R.y, .int .i64 R.mo, .int .i64 R.gr], .agg #[.slice a0 n0 c0, .slice a1 n1 c1, .slice a2 n2 c2, .int .i64 c, .int .i64 f, .int .i64 g], .slice b k cc]) ∧ R.bds ∧ (n0 ≤ 6 ∧ n1 ≤ 6 ∧ n2 ≤ 6) ∧ (Ints w'.heap.size w' a0 n0 D0 ∧ Ints w'.heap.size w' a1 n1 D1 ∧ Ints w'.heap.size w' a2 n2 D2) ∧ ((a0 = none → n0 = 0 ∧ c0 = 0) ∧ (a1 = none → n1 = 0 ∧ c1 = 0) ∧ (a2 = none → n2 = 0 ∧ c2 = 0)) ∧ (bd c ∧ bd f ∧ bd g) ∧ Below w.heap.size w w'
set_option maxHeartbeats 8000000 in
set_option maxRecDepth 100000 in
theorem drawStepOpt (a : Option Addr) (len cap : Nat) (w : World) (hc : Base.Code w.heap.size w a len) (hlen : len ≤ 1048576) :
    Calls Try.prog 16 #[.slice a len cap] w (DSE w) := by
  obtain ⟨W0, hW0⟩ : ∃ W0, w.alloc (.cells #[.int .i64 0, .int .i64 0, .int .i64 0, .int .i64 0, .int .i64 0, .int .i64 0, .int .i64 0, .int .i64 0, .int .i64 0, .int .i64 0, .int .i64 0] 27) = W0 := ⟨_, rfl⟩
  obtain ⟨W1, hW1⟩ : ∃ W1, W0.alloc (.cells #[.slice none 0 0, .slice none 0 0, .slice none 0 0, .int .i64 0, .int .i64 0, .int .i64 0] 30) = W1 := ⟨_, rfl⟩
  have z0 : W0.heap.size = w.heap.size + 1 := by rw [← hW0]; simp
  have z1 : W1.heap.size = w.heap.size + 1 + 1 := by rw [← hW1, ← z0]; simp
  have b0 : Below w.heap.size w W0 := hW0 ▸ (Below.refl _ _).alloc (Nat.le_refl _) _
  have b1 : Below W0.heap.size W0 W1 := hW1 ▸ (Below.refl _ _).alloc (Nat.le_refl _) _
  have RR := Base.hide (show (∀ i, i < 11 → W1.cell? ⟨w.heap.size, i, none⟩ = some (.int .i64 0)) ∧ (∀ i, W1.frozen? ⟨w.heap.size, i, none⟩ = false) from ⟨fun i hi => (b1.cell (p := ⟨w.heap.size, i, none⟩) (by show w.heap.size < _; omega)).trans (by rw [← hW0]; rcases (by omega : i = 0 ∨ i = 1 ∨ i = 2 ∨ i = 3 ∨ i = 4 ∨ i = 5 ∨ i = 6 ∨ i = 7 ∨ i = 8 ∨ i = 9 ∨ i = 10) with rfl | rfl | rfl | rfl | rfl | rfl | rfl | rfl | rfl | rfl | rfl <;> simp [go_sem]), fun i => (b1.frozen (p := ⟨w.heap.size, i, none⟩) (by show w.heap.size < _; omega)).trans (by rw [← hW0]; simp [go_sem])⟩)
  have RO := Base.hide (show (∀ i, i < 6 → W1.cell? ⟨w.heap.size + 1, i, none⟩ = some (Z6 i)) ∧ (∀ i, W1.frozen? ⟨w.heap.size + 1, i, none⟩ = false) from ⟨fun i hi => by rw [← z0, ← hW1]; rcases (by omega : i = 0 ∨ i = 1 ∨ i = 2 ∨ i = 3 ∨ i = 4 ∨ i = 5) with rfl | rfl | rfl | rfl | rfl | rfl <;> simp [go_sem, Z6], fun i => by rw [← z0, ← hW1]; simp [go_sem]⟩)
  have B1 := Base.hide (b0.trans (b1.mono b0.size))
  have Z1 := Base.hide z1
  have HC := Base.hide ((hc.below B1.out).mono B1.out.size)
  have CW := Base.hide (fun (Y : World) (h : Below w.heap.size w Y) => hc.below h)
  clear hc b0 b1 z1
  go_enter Try.func16, Try.ntmps16
  go_wp2_with fail
  refine (Base.l1New a len cap _ HC.out hlen).mono ?_; rintro e w1 ⟨rfl, d1, n1⟩
  have BR := Base.hide n1
  have D1 := Base.hide d1
  have S1 := Base.hide d1.lt
  clear d1 n1 hW0 hW1 z0
  obtain ⟨p, hp⟩ : ∃ p, W1.heap.size = p := ⟨_, rfl⟩
  rw [hp] at D1 S1 BR Z1 ⊢
  go_wp2_with fail
  refine (drawRule p p a len cap _ D1.out (Nat.le_of_lt S1.out)).mono ?_; rintro e w2 ⟨R, rfl, hR, d2, g2⟩
  have RB := Base.hide hR
  have D2 := Base.hide d2
  have G2 := Base.hide g2
  have S2 := Base.hide d2.lt
  clear hR d2 g2
  go_wp2_with fail
  obtain ⟨W3, hW3⟩ : ∃ W3, w2.alloc (.cells #[.int .i64 R.d, .int .i64 R.r1, .int .i64 R.r2, .int .i64 R.r3, .int .i64 R.r4, .int .i64 R.k, .int .i64 R.z, .int .i64 R.o, .int .i64 R.y, .int .i64 R.mo, .int .i64 R.gr] 27) = W3 := ⟨_, rfl⟩
  rw [hW3]
  have KR := Base.hide (show ∀ i, i < 11 → W3.cell? ⟨w2.heap.size, i, none⟩ = some (RVf R i) from fun i hi => by rw [← hW3]; rcases (by omega : i = 0 ∨ i = 1 ∨ i = 2 ∨ i = 3 ∨ i = 4 ∨ i = 5 ∨ i = 6 ∨ i = 7 ∨ i = 8 ∨ i = 9 ∨ i = 10) with rfl | rfl | rfl | rfl | rfl | rfl | rfl | rfl | rfl | rfl | rfl <;> simp [go_sem, RVf])
  have g3 : w2.grownBy W3 (some p) := hW3 ▸ Lib.grownBy_allocR (Base.grown_refl w2 p) _
  have D3 := Base.hide (show Base.Cur p W3 p a len cap from hW3 ▸ D2.out.alloc _)
  have z3 : W3.heap.size = w2.heap.size + 1 := by rw [← hW3]; simp
  have Z3 := Base.hide z3
  have G3 := Base.hide (G2.out.trans g3)
  clear g3 z3 hW3 D2 G2
  obtain ⟨br, hbr⟩ : ∃ br, w2.heap.size = br := ⟨_, rfl⟩
  rw [hbr] at KR Z3 S2 ⊢
  clear hbr
  refine (drawOpt p p a len cap _ D3.out (by have := Z3.out; have := S2.out; omega)).mono ?_; rintro e w4 ⟨a0, a1, a2, n0, c0, n1, c1, n2, c2, D0, D1', D2, c, f, g, rfl, hn, ⟨i0, i1, i2⟩, hz, hb, ⟨k0, k1, k2⟩, d4, g4⟩
  have NN := Base.hide hn
  have NZ := Base.hide hz
  have HB := Base.hide hb
  clear hn hz hb
  go_wp2_with fail
  obtain ⟨W5, hW5⟩ : ∃ W5, w4.alloc (.cells #[.slice a0 n0 c0, .slice a1 n1 c1, .slice a2 n2 c2, .int .i64 c, .int .i64 f, .int .i64 g] 30) = W5 := ⟨_, rfl⟩
  rw [hW5]
  have g5 : w4.grownBy W5 (some p) := hW5 ▸ Lib.grownBy_allocR (Base.grown_refl w4 p) _
  have k5 := keptP g5
  have s4 := g4.size
  have G5 := Base.hide (G3.out.trans (g4.trans g5))
  have GA := Base.hide (g4.trans g5)
  have HS := Base.hide (show SB w p br w4.heap.size a len cap R a0 a1 a2 n0 c0 n1 c1 n2 c2 D0 D1' D2 c f g W5 from
      { cur := hW5 ▸ d4.alloc _
        hr := fun i hi => by have := S2.out; have := Z3.out; rw [(grown_keep GA.out (by omega) (by omega)).1]; exact KR.out i hi
        ho := fun i hi => by rw [← hW5]; rcases (by omega : i = 0 ∨ i = 1 ∨ i = 2 ∨ i = 3 ∨ i = 4 ∨ i = 5) with rfl | rfl | rfl | rfl | rfl | rfl <;> simp [go_sem, OW]
        l0 := ⟨ints_far i0 (p := p) (fun ad e => by have := k0 ad e; have := S2.out; have := Z3.out; omega) k5 (fun q e => by have e : q = p := e; omega), fun ad e => by have := k0 ad e; have := S2.out; have := Z3.out; omega⟩
        l1 := ⟨ints_far i1 (p := p) (fun ad e => by have := k1 ad e; have := S2.out; have := Z3.out; omega) k5 (fun q e => by have e : q = p := e; omega), fun ad e => by have := k1 ad e; have := S2.out; have := Z3.out; omega⟩
        l2 := ⟨ints_far i2 (p := p) (fun ad e => by have := k2 ad e; have := S2.out; have := Z3.out; omega) k5 (fun q e => by have e : q = p := e; omega), fun ad e => by have := k2 ad e; have := S2.out; have := Z3.out; omega⟩
        rO := ⟨fun i hi => by have := Z1.out; have := BR.out.size; rw [(grown_keep G5.out (by omega) (by omega)).1, BR.out.cell (p := ⟨w.heap.size + 1, i, none⟩) (by show w.heap.size + 1 < p; omega)]; exact RO.out.1 i hi, fun i => by have := Z1.out; have := BR.out.size; rw [(grown_keep G5.out (by omega) (by omega)).2, BR.out.frozen (p := ⟨w.heap.size + 1, i, none⟩) (by show w.heap.size + 1 < p; omega)]; exact RO.out.2 i⟩
        b := B1.out.trans (((BR.out).trans (D1.out.below G5.out)).mono (by have := Z1.out; omega))
        z := by have := Z1.out; have := S2.out; have := Z3.out; have : w4.heap.size < W5.heap.size := (by rw [← hW5]; simp); omega })
  have RQ := Base.hide (show (∀ i, i < 11 → W5.cell? ⟨w.heap.size, i, none⟩ = some (.int .i64 0)) ∧ (∀ i, W5.frozen? ⟨w.heap.size, i, none⟩ = false) from ⟨fun i hi => by have := Z1.out; have := BR.out.size; rw [(grown_keep G5.out (by omega) (by omega)).1, BR.out.cell (p := ⟨w.heap.size, i, none⟩) (by show w.heap.size < p; omega)]; exact RR.out.1 i hi, fun i => by have := Z1.out; have := BR.out.size; rw [(grown_keep G5.out (by omega) (by omega)).2, BR.out.frozen (p := ⟨w.heap.size, i, none⟩) (by show w.heap.size < p; omega)]; exact RR.out.2 i⟩)
  clear i0 i1 i2 k0 k1 k2 d4 g4 g5 k5 s4 GA G5 hW5 D3 G3 KR RR RO BR B1 D1 S1 S2 Z3
  obtain ⟨bo, hbo⟩ : ∃ bo, w4.heap.size = bo := ⟨_, rfl⟩
  rw [hbo] at HS ⊢
  clear hbo
  have NP := Base.hide (show ¬ w.heap.size = p by have := HS.out.z; omega)
  refine Qm.factsO 12 11 (fun X => SB w p br bo a len cap R a0 a1 a2 n0 c0 n1 c1 n2 c2 D0 D1' D2 c f g X) (fun X => (∀ i, i < 11 → X.cell? ⟨w.heap.size, i, none⟩ = some (.int .i64 0)) ∧ (∀ i, X.frozen? ⟨w.heap.size, i, none⟩ = false) ∧ w.heap.size < X.heap.size) (fun t v wx => match t with | 0 => v = .agg #[.int .i64 R.d, .int .i64 R.r1, .int .i64 R.r2, .int .i64 R.r3, .int .i64 R.r4, .int .i64 R.k, .int .i64 R.z, .int .i64 R.o, .int .i64 R.y, .int .i64 R.mo, .int .i64 R.gr] | 1 => v = .agg #[.slice a0 n0 c0, .slice a1 n1 c1, .slice a2 n2 c2, .int .i64 c, .int .i64 f, .int .i64 g] | 2 => v = .pointer (some ⟨p, 0, none⟩) | 3 => v = .pointer (some ⟨bo, 0, none⟩) | 4 => v = .slice a0 n0 c0 | 5 => v = .int .i64 (n0 : Int) | 6 => v = .pointer (some ⟨p, 0, none⟩) | 7 => ∃ z : Int, v = .int .i64 z ∧ 0 ≤ z ∧ z ≤ 39 | 8 => ∃ z : Nat, v = .int .i64 (z : Int) ∧ z ≤ 1 | 9 => ∃ z : Nat, v = .int .i64 (z : Int) ∧ z ≤ 7 | 10 => ∃ (b : Option Addr) (k cc : Nat), v = .slice b k cc | 11 => ∀ i, i < 11 → wx.cell? ⟨w.heap.size, i, none⟩ = some (RVf R i) | _ => True) (fun w1 w2 => w1.grownBy w2 (some p) ∧ w.heap.size < w1.heap.size) (fun w1 w2 => Kept (· = w.heap.size) w1 w2) (by kernel_rfl) (by kernel_rfl) ?hb0 ?ho0 ?hO ?hF1 ?hF2 ?steps ?rest
  case hb0 => exact HS.out.draw (Base.grown_drew _ 1 p) (cur_belA HS.out.cur (Below.refl _ _).drew)
  case ho0 => exact ⟨RQ.out.1, RQ.out.2, by have := HS.out.z; show w.heap.size < W5.heap.size; omega⟩
  case hO => exact fun w1 w2 ⟨h1, h2, h3⟩ ⟨q, _⟩ => ⟨fun i hi => (grown_keep q h3 NP.out).1.trans (h1 i hi), fun i => (grown_keep q h3 NP.out).2.trans (h2 i), Nat.lt_of_lt_of_le h3 q.size⟩
  case hF1 =>
    intro t v w1 w2 h q
    match t, h with
    | 0, h => exact h
    | 1, h => exact h
    | 2, h => exact h
    | 3, h => exact h
    | 4, h => exact h
    | 5, h => exact h
    | 6, h => exact h
    | 7, h => exact h
    | 8, h => exact h
    | 9, h => exact h
    | 10, h => exact h
    | 11, h => exact fun i hi => (grown_keep q.1 q.2 NP.out).1.trans (h i hi)
    | _ + 12, h => exact h
  case hF2 =>
    intro t v w1 w2 hne h q
    match t, h, hne with
    | 0, h, _ => exact h
    | 1, h, _ => exact h
    | 2, h, _ => exact h
    | 3, h, _ => exact h
    | 4, h, _ => exact h
    | 5, h, _ => exact h
    | 6, h, _ => exact h
    | 7, h, _ => exact h
    | 8, h, _ => exact h
    | 9, h, _ => exact h
    | 10, h, _ => exact h
    | 11, _, hne => exact absurd rfl hne
    | _ + 12, h, _ => exact h
  case steps =>
    intro i o hi ho s A wS hb hold hk hA hO
    match i, hi, ho, hk, hold with
    | 0, _, ho, hk, hold =>
      cases ho
      refine Qg.landsG_free rfl ?_
      exact Qf.lands_val _ _ (runLR rfl ((hO 6 (by rfl)).trans rfl) (hb.hr 0 (by omega)) (hb.hr 1 (by omega)) (hb.hr 2 (by omega)) (hb.hr 3 (by omega)) (hb.hr 4 (by omega)) (hb.hr 5 (by omega)) (hb.hr 6 (by omega)) (hb.hr 7 (by omega)) (hb.hr 8 (by omega)) (hb.hr 9 (by omega)) (hb.hr 10 (by omega))) ⟨hb, fun _ => ⟨Base.grown_refl _ _, (by have := hb.z; omega)⟩, fun e => absurd e (by decide), rfl⟩
    | 1, _, ho, hk, hold =>
      cases ho
      refine Qg.landsG_free rfl ?_
      exact Qf.lands_val _ _ (runLoadOI rfl ((hO 7 (by rfl)).trans rfl) ⟨hb.z.2.2.2.2, hb.ho 0 (by omega), hb.ho 1 (by omega), hb.ho 2 (by omega), hb.ho 3 (by omega), hb.ho 4 (by omega), hb.ho 5 (by omega)⟩) ⟨hb, fun _ => ⟨Base.grown_refl _ _, (by have := hb.z; omega)⟩, fun e => absurd e (by decide), rfl⟩
    | 2, _, ho, hk, hold =>
      cases ho
      refine Qg.landsG_free rfl ?_
      exact Qf.lands_move _ rfl (.pointer (some ⟨p, 0, none⟩)) ((hO 5 (by rfl)).trans rfl) ⟨hb, fun _ => ⟨Base.grown_refl _ _, (by have := hb.z; omega)⟩, fun e => absurd e (by decide), rfl⟩
    | 3, _, ho, hk, hold =>
      cases ho
      refine Qg.landsG_free rfl ?_
      exact Qf.lands_val _ _ (runFO0 rfl ((hO 7 (by rfl)).trans rfl)) ⟨hb, fun _ => ⟨Base.grown_refl _ _, (by have := hb.z; omega)⟩, fun e => absurd e (by decide), rfl⟩
    | 4, _, ho, hk, hold =>
      cases ho
      refine Qg.landsG_free rfl ?_
      have h3 := hA 3 _ 17 (by decide) rfl rfl (by simp)
      rw [show s 3 = _ from hk 3 (by kernel_rfl)] at h3
      exact Qf.lands_val _ _ (runLL rfl h3 (hb.ho 0 (by omega))) ⟨hb, fun _ => ⟨Base.grown_refl _ _, (by have := hb.z; omega)⟩, fun e => absurd e (by decide), rfl⟩
    | 5, _, ho, hk, hold =>
      cases ho
      refine Qg.landsG_free rfl ?_
      have h4 := hA 4 _ 18 (by decide) rfl rfl (by simp)
      rw [show s 4 = _ from hk 4 (by kernel_rfl)] at h4
      exact Qf.lands_val _ _ (runLn rfl h4) ⟨hb, fun _ => ⟨Base.grown_refl _ _, (by have := hb.z; omega)⟩, fun e => absurd e (by decide), rfl⟩
    | 6, _, ho, hk, hold =>
      cases ho
      refine Qg.landsG_free rfl ?_
      exact Qf.lands_move _ rfl (.pointer (some ⟨p, 0, none⟩)) ((hO 5 (by rfl)).trans rfl) ⟨hb, fun _ => ⟨Base.grown_refl _ _, (by have := hb.z; omega)⟩, fun e => absurd e (by decide), rfl⟩
    | 7, _, ho, hk, hold =>
      cases ho
      refine Qg.landsG_free rfl ?_
      have h6 := hA 6 _ 20 (by decide) rfl rfl (by simp)
      rw [show s 6 = _ from hk 6 (by kernel_rfl)] at h6
      refine Qf.lands_call 20 _ _ rfl (enters_of Try.func20 (by kernel_rfl) rfl) _ (by first | (simp [h6]; done) | (simp [h6]; rfl)) ((Base.l1Below p p a len cap 40 _ hb.cur (by decide) (by decide)).mono ?_)
      rintro e wT ⟨z, z0, z1, rfl, dT, gT⟩
      exact ⟨_, rfl, hb.draw gT dT, fun _ => ⟨gT, (by have := hb.z; omega)⟩, fun e => absurd e (by decide), z, rfl, z0, by omega⟩
    | 8, _, ho, hk, hold =>
      cases ho
      refine Qg.landsG_free rfl ?_
      have h7 := hA 7 _ 21 (by decide) rfl rfl (by simp)
      obtain ⟨z, ez, z0, z1⟩ := hk 7 (by kernel_rfl)
      rw [ez] at h7
      have eq : z.tdiv 39 = ((z.tdiv 39).toNat : Int) := by rw [Int.tdiv_eq_ediv_of_nonneg z0]; omega
      have q1 : (z.tdiv 39).toNat ≤ 1 := by rw [Int.tdiv_eq_ediv_of_nonneg z0]; omega
      exact Qf.lands_val _ _ (runQuoC (c := 0) (q := 0) rfl h7 z0 z1) ⟨hb, fun _ => ⟨Base.grown_refl _ _, (by have := hb.z; omega)⟩, fun e => absurd e (by decide), (z.tdiv 39).toNat, by rw [← eq], q1⟩
    | 9, _, ho, hk, hold =>
      cases ho
      refine Qg.landsG_free rfl ?_
      have h5 := hA 5 _ 19 (by decide) rfl rfl (by simp)
      rw [show s 5 = _ from hk 5 (by kernel_rfl)] at h5
      have h8 := hA 8 _ 22 (by decide) rfl rfl (by simp)
      obtain ⟨z, ez, z1⟩ := hk 8 (by kernel_rfl)
      rw [ez] at h8
      have n6 := NN.out.1
      exact Qf.lands_val _ _ (runAddI rfl h5 h8 (wid (by omega))) ⟨hb, fun _ => ⟨Base.grown_refl _ _, (by have := hb.z; omega)⟩, fun e => absurd e (by decide), n0 + z, by simp, by omega⟩
    | 10, _, ho, hk, hold =>
      cases ho
      refine Qg.landsG_free rfl ?_
      have h2 := hA 2 _ 16 (by decide) rfl rfl (by simp)
      rw [show s 2 = _ from hk 2 (by kernel_rfl)] at h2
      have h9 := hA 9 _ 23 (by decide) rfl rfl (by simp)
      obtain ⟨z, ez, z1⟩ := hk 9 (by kernel_rfl)
      rw [ez] at h9
      refine Qf.lands_call 21 _ _ rfl (enters_of Try.func21 (by kernel_rfl) rfl) _ (by first | (simp [h2, h9]; done) | (simp [h2, h9]; rfl)) ((drawGrad p p a len cap z _ hb.cur (by have := hb.z; omega) (by omega)).mono ?_)
      rintro e wT ⟨bb, kb, cb, DD, rfl, -, -, -, dT, gT⟩
      exact ⟨_, rfl, hb.draw gT dT, fun _ => ⟨gT, (by have := hb.z; omega)⟩, fun e => absurd e (by decide), bb, kb, cb, rfl⟩
    | 11, _, ho, hk, hold =>
      have ho' : o.op = Op.store 27 (.tmp 2) (.tmp 14) := by cases ho; rfl
      refine Qg.landsG_free (show o.guard = none by cases ho; rfl) ?_
      have h0 := hA 0 _ 14 (by decide) rfl rfl (by simp)
      rw [show s 0 = _ from hk 0 (by kernel_rfl)] at h0
      obtain ⟨q1, q2, q3⟩ := hold rfl
      obtain ⟨w', run, hc', kk⟩ := runStoreR ho' ((hO 2 (by rfl)).trans rfl) h0 q1 q2
      exact Qf.lands_skip w' run ⟨hb.kept kk (cur_kept2 hb.cur kk (fun e => NP.out e.symm) ((CW.out w' (hb.b.trans (kk.below hb.b.size (fun q e => by have e : q = w.heap.size := e; omega)))).mono (by have := hb.z; omega))) (fun q e => by have e : q = w.heap.size := e; have := hb.z; omega) (fun e => by have e : w.heap.size + 1 = w.heap.size := e; omega) (fun q e => by have e : q = w.heap.size := e; omega), fun e => absurd rfl e, fun _ => kk, hc'⟩
    | _ + 12, hi, _, _, _ => exact absurd hi (by omega)
  case rest =>
  intro s' X hb hk
  have e1 : s' 1 = .agg #[.slice a0 n0 c0, .slice a1 n1 c1, .slice a2 n2 c2, .int .i64 c, .int .i64 f, .int .i64 g] := hk 1 (by decide)
  obtain ⟨b, k, cc, e10⟩ := hk 10 (by decide)
  have hr : ∀ i, i < 11 → X.cell? ⟨w.heap.size, i, none⟩ = some (RVf R i) := hk 11 (by decide)
  have HX := Base.hide hb
  have HR := Base.hide hr
  simp only [List.take_succ_cons, List.take_zero, List.drop_succ_cons, List.drop_zero, Qf.lay, Qf.all1, if_true, e1, e10]
  simp only [Act.put, List.setIfInBounds_toArray, List.set_cons_succ, List.set_cons_zero]
  clear hb hk hr e1 e10
  obtain ⟨CO, hCO⟩ : ∃ C : C6 X (w.heap.size + 1) Z6, C = C := ⟨⟨HX.out.rO.1, HX.out.rO.2, by have := HX.out.z; omega⟩, rfl⟩
  clear hCO
  have CC := Base.hide CO
  clear CO
  have KK := Base.hide (Kept.refl (· = w.heap.size + 1) X)
  obtain ⟨T0, hT0⟩ : ∃ T, X.setCell ⟨w.heap.size + 1, 0, none⟩ (.slice a0 n0 c0) = T := ⟨_, rfl⟩
  obtain ⟨vT0, eT0⟩ : ∃ u, X.cell? ⟨w.heap.size + 1, 0, none⟩ = some u := ⟨_, CC.out.c 0 (by omega)⟩
  have fT0 := CC.out.f 0
  replace CC := Base.hide (show C6 T0 (w.heap.size + 1) _ from hT0 ▸ CC.out.set 0 (.slice a0 n0 c0) (by omega))
  replace KK := Base.hide (show Kept (· = w.heap.size + 1) X T0 from hT0 ▸ KK.out.trans (Kept.setCell _ ⟨w.heap.size + 1, 0, none⟩ _))
  obtain ⟨T1, hT1⟩ : ∃ T, T0.setCell ⟨w.heap.size + 1, 1, none⟩ (.slice a1 n1 c1) = T := ⟨_, rfl⟩
  obtain ⟨vT1, eT1⟩ : ∃ u, T0.cell? ⟨w.heap.size + 1, 1, none⟩ = some u := ⟨_, CC.out.c 1 (by omega)⟩
  have fT1 := CC.out.f 1
  replace CC := Base.hide (show C6 T1 (w.heap.size + 1) _ from hT1 ▸ CC.out.set 1 (.slice a1 n1 c1) (by omega))
  replace KK := Base.hide (show Kept (· = w.heap.size + 1) X T1 from hT1 ▸ KK.out.trans (Kept.setCell _ ⟨w.heap.size + 1, 1, none⟩ _))
  obtain ⟨T2, hT2⟩ : ∃ T, T1.setCell ⟨w.heap.size + 1, 2, none⟩ (.slice a2 n2 c2) = T := ⟨_, rfl⟩
  obtain ⟨vT2, eT2⟩ : ∃ u, T1.cell? ⟨w.heap.size + 1, 2, none⟩ = some u := ⟨_, CC.out.c 2 (by omega)⟩
  have fT2 := CC.out.f 2
  replace CC := Base.hide (show C6 T2 (w.heap.size + 1) _ from hT2 ▸ CC.out.set 2 (.slice a2 n2 c2) (by omega))
  replace KK := Base.hide (show Kept (· = w.heap.size + 1) X T2 from hT2 ▸ KK.out.trans (Kept.setCell _ ⟨w.heap.size + 1, 2, none⟩ _))
  obtain ⟨T3, hT3⟩ : ∃ T, T2.setCell ⟨w.heap.size + 1, 3, none⟩ (.int .i64 c) = T := ⟨_, rfl⟩
  obtain ⟨vT3, eT3⟩ : ∃ u, T2.cell? ⟨w.heap.size + 1, 3, none⟩ = some u := ⟨_, CC.out.c 3 (by omega)⟩
  have fT3 := CC.out.f 3
  replace CC := Base.hide (show C6 T3 (w.heap.size + 1) _ from hT3 ▸ CC.out.set 3 (.int .i64 c) (by omega))
  replace KK := Base.hide (show Kept (· = w.heap.size + 1) X T3 from hT3 ▸ KK.out.trans (Kept.setCell _ ⟨w.heap.size + 1, 3, none⟩ _))
  obtain ⟨T4, hT4⟩ : ∃ T, T3.setCell ⟨w.heap.size + 1, 4, none⟩ (.int .i64 f) = T := ⟨_, rfl⟩
  obtain ⟨vT4, eT4⟩ : ∃ u, T3.cell? ⟨w.heap.size + 1, 4, none⟩ = some u := ⟨_, CC.out.c 4 (by omega)⟩
  have fT4 := CC.out.f 4
  replace CC := Base.hide (show C6 T4 (w.heap.size + 1) _ from hT4 ▸ CC.out.set 4 (.int .i64 f) (by omega))
  replace KK := Base.hide (show Kept (· = w.heap.size + 1) X T4 from hT4 ▸ KK.out.trans (Kept.setCell _ ⟨w.heap.size + 1, 4, none⟩ _))
  obtain ⟨T5, hT5⟩ : ∃ T, T4.setCell ⟨w.heap.size + 1, 5, none⟩ (.int .i64 g) = T := ⟨_, rfl⟩
  obtain ⟨vT5, eT5⟩ : ∃ u, T4.cell? ⟨w.heap.size + 1, 5, none⟩ = some u := ⟨_, CC.out.c 5 (by omega)⟩
  have fT5 := CC.out.f 5
  replace CC := Base.hide (show C6 T5 (w.heap.size + 1) _ from hT5 ▸ CC.out.set 5 (.int .i64 g) (by omega))
  replace KK := Base.hide (show Kept (· = w.heap.size + 1) X T5 from hT5 ▸ KK.out.trans (Kept.setCell _ ⟨w.heap.size + 1, 5, none⟩ _))
  have o0 : T5.cell? ⟨w.heap.size + 1, 0, none⟩ = some (.slice a0 n0 c0) := CC.out.c 0 (by omega)
  have o1 : T5.cell? ⟨w.heap.size + 1, 1, none⟩ = some (.slice a1 n1 c1) := CC.out.c 1 (by omega)
  have o2 : T5.cell? ⟨w.heap.size + 1, 2, none⟩ = some (.slice a2 n2 c2) := CC.out.c 2 (by omega)
  have o3 : T5.cell? ⟨w.heap.size + 1, 3, none⟩ = some (.int .i64 c) := CC.out.c 3 (by omega)
  have o4 : T5.cell? ⟨w.heap.size + 1, 4, none⟩ = some (.int .i64 f) := CC.out.c 4 (by omega)
  have o5 : T5.cell? ⟨w.heap.size + 1, 5, none⟩ = some (.int .i64 g) := CC.out.c 5 (by omega)
  have r0 : T5.cell? ⟨w.heap.size, 0, none⟩ = some (.int .i64 R.d) := (World.cell?_of_block (w := X) (a := ⟨w.heap.size, 0, none⟩) (KK.out.block _ (by show w.heap.size < _; have := HX.out.z; omega) (by show ¬ w.heap.size = w.heap.size + 1; omega))).trans (HR.out 0 (by omega))
  have r1 : T5.cell? ⟨w.heap.size, 1, none⟩ = some (.int .i64 R.r1) := (World.cell?_of_block (w := X) (a := ⟨w.heap.size, 1, none⟩) (KK.out.block _ (by show w.heap.size < _; have := HX.out.z; omega) (by show ¬ w.heap.size = w.heap.size + 1; omega))).trans (HR.out 1 (by omega))
  have r2 : T5.cell? ⟨w.heap.size, 2, none⟩ = some (.int .i64 R.r2) := (World.cell?_of_block (w := X) (a := ⟨w.heap.size, 2, none⟩) (KK.out.block _ (by show w.heap.size < _; have := HX.out.z; omega) (by show ¬ w.heap.size = w.heap.size + 1; omega))).trans (HR.out 2 (by omega))
  have r3 : T5.cell? ⟨w.heap.size, 3, none⟩ = some (.int .i64 R.r3) := (World.cell?_of_block (w := X) (a := ⟨w.heap.size, 3, none⟩) (KK.out.block _ (by show w.heap.size < _; have := HX.out.z; omega) (by show ¬ w.heap.size = w.heap.size + 1; omega))).trans (HR.out 3 (by omega))
  have r4 : T5.cell? ⟨w.heap.size, 4, none⟩ = some (.int .i64 R.r4) := (World.cell?_of_block (w := X) (a := ⟨w.heap.size, 4, none⟩) (KK.out.block _ (by show w.heap.size < _; have := HX.out.z; omega) (by show ¬ w.heap.size = w.heap.size + 1; omega))).trans (HR.out 4 (by omega))
  have r5 : T5.cell? ⟨w.heap.size, 5, none⟩ = some (.int .i64 R.k) := (World.cell?_of_block (w := X) (a := ⟨w.heap.size, 5, none⟩) (KK.out.block _ (by show w.heap.size < _; have := HX.out.z; omega) (by show ¬ w.heap.size = w.heap.size + 1; omega))).trans (HR.out 5 (by omega))
  have r6 : T5.cell? ⟨w.heap.size, 6, none⟩ = some (.int .i64 R.z) := (World.cell?_of_block (w := X) (a := ⟨w.heap.size, 6, none⟩) (KK.out.block _ (by show w.heap.size < _; have := HX.out.z; omega) (by show ¬ w.heap.size = w.heap.size + 1; omega))).trans (HR.out 6 (by omega))
  have r7 : T5.cell? ⟨w.heap.size, 7, none⟩ = some (.int .i64 R.o) := (World.cell?_of_block (w := X) (a := ⟨w.heap.size, 7, none⟩) (KK.out.block _ (by show w.heap.size < _; have := HX.out.z; omega) (by show ¬ w.heap.size = w.heap.size + 1; omega))).trans (HR.out 7 (by omega))
  have r8 : T5.cell? ⟨w.heap.size, 8, none⟩ = some (.int .i64 R.y) := (World.cell?_of_block (w := X) (a := ⟨w.heap.size, 8, none⟩) (KK.out.block _ (by show w.heap.size < _; have := HX.out.z; omega) (by show ¬ w.heap.size = w.heap.size + 1; omega))).trans (HR.out 8 (by omega))
  have r9 : T5.cell? ⟨w.heap.size, 9, none⟩ = some (.int .i64 R.mo) := (World.cell?_of_block (w := X) (a := ⟨w.heap.size, 9, none⟩) (KK.out.block _ (by show w.heap.size < _; have := HX.out.z; omega) (by show ¬ w.heap.size = w.heap.size + 1; omega))).trans (HR.out 9 (by omega))
  have r10 : T5.cell? ⟨w.heap.size, 10, none⟩ = some (.int .i64 R.gr) := (World.cell?_of_block (w := X) (a := ⟨w.heap.size, 10, none⟩) (KK.out.block _ (by show w.heap.size < _; have := HX.out.z; omega) (by show ¬ w.heap.size = w.heap.size + 1; omega))).trans (HR.out 10 (by omega))
  have LL := Base.hide (show Ints T5.heap.size T5 a0 n0 D0 ∧ Ints T5.heap.size T5 a1 n1 D1' ∧ Ints T5.heap.size T5 a2 n2 D2 from ⟨ints_far HX.out.l0.1 HX.out.l0.2 KK.out (fun q e => by have e : q = w.heap.size + 1 := e; have := HX.out.z; omega), ints_far HX.out.l1.1 HX.out.l1.2 KK.out (fun q e => by have e : q = w.heap.size + 1 := e; have := HX.out.z; omega), ints_far HX.out.l2.1 HX.out.l2.2 KK.out (fun q e => by have e : q = w.heap.size + 1 := e; have := HX.out.z; omega)⟩)
  have BT := Base.hide (HX.out.b.trans (KK.out.below HX.out.b.size (fun q e => by have e : q = w.heap.size + 1 := e; omega)))
  clear RQ HS NP
  go_wp2_with fail
  exact bodyPost_ret (v := .tuple #[.agg #[.int .i64 R.d, .int .i64 R.r1, .int .i64 R.r2, .int .i64 R.r3, .int .i64 R.r4, .int .i64 R.k, .int .i64 R.z, .int .i64 R.o, .int .i64 R.y, .int .i64 R.mo, .int .i64 R.gr], .agg #[.slice a0 n0 c0, .slice a1 n1 c1, .slice a2 n2 c2, .int .i64 c, .int .i64 f, .int .i64 g], .slice b k cc]) (by simp [results, Try.results16, go_sem, o0, o1, o2, o3, o4, o5, r0, r1, r2, r3, r4, r5, r6, r7, r8, r9, r10]) rfl ⟨R, a0, a1, a2, n0, c0, n1, c1, n2, c2, D0, D1', D2, c, f, g, b, k, cc, rfl, RB.out, NN.out, LL.out, NZ.out, HB.out, BT.out⟩
end Vo
end Go.Proofs.Ytflbhlepmjiejaa

/- RunOpt of the model (written by tools/genrn.py). -/
namespace Go.Proofs.Ytflbhlepmjiejaa
namespace Vo
open Go.ChangeShapes Go.WideShapes Go.ChangeAt Go.RowKit Go.Joins Go.Sort
open Vl
set_option linter.unusedVariables false
set_option linter.unusedSimpArgs false
theorem nil_ints {B n : Nat} {w : World} {a : Option Addr} {D : Nat → Int} (h : Ints B w a n D) : a = none → n = 0 ∧ True := by
  rintro rfl
  rcases h with h | ⟨b, off, e, _⟩
  · exact ⟨h, trivial⟩
  · cases e
theorem runIxS {o : Oper} {A : Act} {w : World} {x y : Operand} {b f n c j : Nat} (ho : o.op = .indexAddr 31 x y) (hx : A.eval x = .slice (some ⟨b, f, none⟩) n c) (hy : A.eval y = .int .i64 ((j : Nat) : Int)) (hj : j < n) : (execOp A.eval o).run Try.prog w = .ok (.value (.pointer (some ⟨b, f + j, none⟩))) w := by
  unfold execOp
  rw [ho]
  simp only [hx, hy]
  go_simp
set_option maxHeartbeats 4000000 in
set_option maxRecDepth 100000 in
theorem sRun (R : Rl) (n m cP cF cS cl : Nat) (S : Nat → St) (X : Nat → Prop) (aP aF aS ls : Option Addr) (L : Nat → LV) (w : World) (h1 : Ints w.heap.size w aP n (S 0).P) (h2 : Ints w.heap.size w aF n (S 0).F) (h3 : Ints w.heap.size w aS n (S 0).S) (hb : bd (S 0).c ∧ bd (S 0).f ∧ bd (S 0).g) (hok : ∀ t, t ≤ m → (∀ u, u < t → ¬ X u) → (S t).ok n) (hL : LL w.heap.size w ls m L) (hm : (m : Int) ≤ 1048576)
    (hC : ∀ t, t < m → (∀ u, u < t → ¬ X u) → ∃ (m' : Nat) (N : St) (bo : Bool), (X t → bo = false) ∧ (¬ X t → m' = n ∧ N = S (t + 1) ∧ bo = true) ∧ ∀ (cP cF cS : Nat) (aP aF aS : Option Addr) (w : World), Ints w.heap.size w aP n (S t).P → Ints w.heap.size w aF n (S t).F → Ints w.heap.size w aS n (S t).S → Ints w.heap.size w (L t).a (L t).r (L t).D → Calls Try.prog 14 #[.agg #[.int .i64 R.d, .int .i64 R.r1, .int .i64 R.r2, .int .i64 R.r3, .int .i64 R.r4, .int .i64 R.k, .int .i64 R.z, .int .i64 R.o, .int .i64 R.y, .int .i64 R.mo, .int .i64 R.gr], .agg #[.slice aP n cP, .slice aF n cF, .slice aS n cS, .int .i64 (S t).c, .int .i64 (S t).f, .int .i64 (S t).g], .slice (L t).a (L t).r (L t).cap] w (StepU m' N bo w)) :
    Calls Try.prog 10 #[.agg #[.int .i64 R.d, .int .i64 R.r1, .int .i64 R.r2, .int .i64 R.r3, .int .i64 R.r4, .int .i64 R.k, .int .i64 R.z, .int .i64 R.o, .int .i64 R.y, .int .i64 R.mo, .int .i64 R.gr], .agg #[.slice aP n cP, .slice aF n cF, .slice aS n cS, .int .i64 (S 0).c, .int .i64 (S 0).f, .int .i64 (S 0).g], .slice ls m cl] w (RunR n m S X w) := by
  obtain ⟨W1, hW1⟩ : ∃ W1, w.alloc (.cells #[.int .i64 R.d, .int .i64 R.r1, .int .i64 R.r2, .int .i64 R.r3, .int .i64 R.r4, .int .i64 R.k, .int .i64 R.z, .int .i64 R.o, .int .i64 R.y, .int .i64 R.mo, .int .i64 R.gr] 27) = W1 := ⟨_, rfl⟩
  have n1 : Below w.heap.size w W1 := hW1 ▸ (Below.refl _ _).alloc (Nat.le_refl _) _
  have y1 : w.heap.size < W1.heap.size := by rw [← hW1]; simp
  obtain ⟨W2, hW2⟩ : ∃ W2, W1.alloc (.cells #[.slice aP n cP, .slice aF n cF, .slice aS n cS, .int .i64 (S 0).c, .int .i64 (S 0).f, .int .i64 (S 0).g] 30) = W2 := ⟨_, rfl⟩
  have n2 : Below W1.heap.size W1 W2 := hW2 ▸ (Below.refl _ _).alloc (Nat.le_refl _) _
  have y2 : W1.heap.size < W2.heap.size := by rw [← hW2]; simp
  obtain ⟨W3, hW3⟩ : ∃ W3, W2.alloc (.cells #[.slice none 0 0, .slice none 0 0, .slice none 0 0, .int .i64 0, .int .i64 0, .int .i64 0] 30) = W3 := ⟨_, rfl⟩
  have n3 : Below W2.heap.size W2 W3 := hW3 ▸ (Below.refl _ _).alloc (Nat.le_refl _) _
  have y3 : W2.heap.size < W3.heap.size := by rw [← hW3]; simp
  have LR := hide (show Lis [(⟨w.heap.size, 0, none⟩, .int .i64 R.d), (⟨w.heap.size, 1, none⟩, .int .i64 R.r1), (⟨w.heap.size, 2, none⟩, .int .i64 R.r2), (⟨w.heap.size, 3, none⟩, .int .i64 R.r3), (⟨w.heap.size, 4, none⟩, .int .i64 R.r4), (⟨w.heap.size, 5, none⟩, .int .i64 R.k), (⟨w.heap.size, 6, none⟩, .int .i64 R.z), (⟨w.heap.size, 7, none⟩, .int .i64 R.o), (⟨w.heap.size, 8, none⟩, .int .i64 R.y), (⟨w.heap.size, 9, none⟩, .int .i64 R.mo), (⟨w.heap.size, 10, none⟩, .int .i64 R.gr)] W3 from (show Lis _ W1 from fun x hx => by
      simp only [List.mem_cons, List.not_mem_nil, or_false] at hx
      rcases hx with rfl | rfl | rfl | rfl | rfl | rfl | rfl | rfl | rfl | rfl | rfl <;> (rw [← hW1]; simp [go_sem])).below n2 |>.below n3)
  have O1 := hide ((show C6 W2 W1.heap.size (OV aP aF aS n cP cF cS (S 0).c (S 0).f (S 0).g) from ⟨fun i hi => by rcases (by omega : i = 0 ∨ i = 1 ∨ i = 2 ∨ i = 3 ∨ i = 4 ∨ i = 5) with rfl | rfl | rfl | rfl | rfl | rfl <;> (rw [← hW2]; simp [go_sem, OV]), fun i => by rw [← hW2]; simp [go_sem], y2⟩).kept (Kept.of_below (S := fun _ => False) n3) id)
  have R1 := hide (show C6 W3 W2.heap.size (OV none none none 0 0 0 0 0 0 0) from ⟨fun i hi => by rcases (by omega : i = 0 ∨ i = 1 ∨ i = 2 ∨ i = 3 ∨ i = 4 ∨ i = 5) with rfl | rfl | rfl | rfl | rfl | rfl <;> (rw [← hW3]; simp [go_sem, OV]), fun i => by rw [← hW3]; simp [go_sem], y3⟩)
  have B3 := hide ((n1.trans (n2.mono n1.size)).trans (n3.mono (Nat.le_trans n1.size n2.size)))
  have Y := hide (And.intro y1 (And.intro y2 y3))
  have hs : (S 0).ok n := hok 0 (Nat.zero_le _) (fun u hu => absurd hu (by omega))
  have n4 : (n : Int) ≤ 4096 := hs.1
  have hyes : ook n n n (S 0).P (S 0).F (S 0).S (S 0).c (S 0).f (S 0).g = true := decide_eq_true hs
  have CO := hide (specOpt aP aF aS n n n cP cF cS (S 0).P (S 0).F (S 0).S (S 0).c (S 0).f (S 0).g W3 ((h1.below B3.out).mono B3.out.size) ((h2.below B3.out).mono B3.out.size) ((h3.below B3.out).mono B3.out.size) (by omega) hb.1 hb.2.1 hb.2.2 (by omega) (by omega))
  rw [hyes] at CO
  have HL := hide (hL.below B3.out)
  have H1 := hide ((h1.below B3.out).mono B3.out.size)
  have H2 := hide ((h2.below B3.out).mono B3.out.size)
  have H3 := hide ((h3.below B3.out).mono B3.out.size)
  have HC := hide hC
  have HK0 := hide hok
  have N4 := hide n4
  have o0 : W3.cell? ⟨W1.heap.size, 0, none⟩ = some (.slice aP n cP) := O1.out.c 0 (by omega)
  have o1 : W3.cell? ⟨W1.heap.size, 1, none⟩ = some (.slice aF n cF) := O1.out.c 1 (by omega)
  have o2 : W3.cell? ⟨W1.heap.size, 2, none⟩ = some (.slice aS n cS) := O1.out.c 2 (by omega)
  have o3 : W3.cell? ⟨W1.heap.size, 3, none⟩ = some (.int .i64 (S 0).c) := O1.out.c 3 (by omega)
  have o4 : W3.cell? ⟨W1.heap.size, 4, none⟩ = some (.int .i64 (S 0).f) := O1.out.c 4 (by omega)
  have o5 : W3.cell? ⟨W1.heap.size, 5, none⟩ = some (.int .i64 (S 0).g) := O1.out.c 5 (by omega)
  clear h1 h2 h3 hL hC hok hs hyes n4 hb n1 n2 n3 y1 y2 y3
  go_enter Try.func10, Try.ntmps10
  go_wp2_with fail
  refine CO.out.mono ?_; rintro e W4 ⟨rfl, bx⟩
  replace O1 := hide (O1.out.kept (Kept.of_below (S := fun _ => False) bx) id)
  replace R1 := hide (R1.out.kept (Kept.of_below (S := fun _ => False) bx) id)
  replace LR := hide (LR.out.below bx)
  have S4 := hide bx.size
  replace HL := hide (HL.out.below (bx.mono B3.out.size))
  replace H1 := hide ((H1.out.below bx).mono bx.size)
  replace H2 := hide ((H2.out.below bx).mono bx.size)
  replace H3 := hide ((H3.out.below bx).mono bx.size)
  replace B3 := hide (B3.out.trans (bx.mono B3.out.size))
  clear bx CO hW1 hW2 hW3 o0 o1 o2 o3 o4 o5
  go_wp2_with fail
  go_loopw [8] (fun i wx => ∃ (k : Nat) (p f q : Option Addr) (c d g : Nat), k ≤ m ∧ i = .int .i64 k ∧ (∀ t, t < k → ¬ X t) ∧ C6 wx W1.heap.size (OV p f q n c d g (S k).c (S k).f (S k).g) ∧ (Ints wx.heap.size wx p n (S k).P ∧ Ints wx.heap.size wx f n (S k).F ∧ Ints wx.heap.size wx q n (S k).S) ∧ Kept (· = W1.heap.size) W4 wx) (fun i _ => m - (intOf i).toNat)
  case atStart => exact ⟨0, aP, aF, aS, cP, cF, cS, Nat.zero_le _, rfl, fun t ht => by omega, O1.out, ⟨H1.out, H2.out, H3.out⟩, Kept.refl _ _⟩
  case round =>
    obtain ⟨k, p, f, q, c, d, g, hk, rfl, hnst, hc6, ⟨q1, q2, q3⟩, hK⟩ := hrel
    have HN := hide hnst
    have HO := hide (HK0.out k hk hnst)
    have HC6 := hide hc6
    have HP := hide q1
    have HF := hide q2
    have HS := hide q3
    have HK := hide hK
    clear hnst hc6 q1 q2 q3 hK
    have BK := hide (B3.out.trans (HK.out.below (Nat.le_trans (Nat.le_of_lt Y.out.1) (Nat.le_trans (Nat.le_of_lt Y.out.2.1) (Nat.le_trans (Nat.le_of_lt Y.out.2.2) S4.out))) (fun b e => by have := Y.out; have e : b = W1.heap.size := e; omega)) : Below w.heap.size w wr)
    have RW := hide (R1.out.kept HK.out (by have := Y.out; show ¬ W2.heap.size = W1.heap.size; omega))
    obtain ⟨cc, hcc⟩ : ∃ cc, (S k).c = cc := ⟨_, rfl⟩
    obtain ⟨ff, hff⟩ : ∃ ff, (S k).f = ff := ⟨_, rfl⟩
    obtain ⟨gg, hgg⟩ : ∃ gg, (S k).g = gg := ⟨_, rfl⟩
    have EC := hide (And.intro hcc (And.intro hff hgg))
    rw [hcc, hff, hgg] at HC6
    clear hcc hff hgg
    have s0 : wr.cell? ⟨W1.heap.size, 0, none⟩ = some (.slice p n c) := HC6.out.c 0 (by omega)
    have s1 : wr.cell? ⟨W1.heap.size, 1, none⟩ = some (.slice f n d) := HC6.out.c 1 (by omega)
    have s2 : wr.cell? ⟨W1.heap.size, 2, none⟩ = some (.slice q n g) := HC6.out.c 2 (by omega)
    have s3 : wr.cell? ⟨W1.heap.size, 3, none⟩ = some (.int .i64 cc) := HC6.out.c 3 (by omega)
    have s4 : wr.cell? ⟨W1.heap.size, 4, none⟩ = some (.int .i64 ff) := HC6.out.c 4 (by omega)
    have s5 : wr.cell? ⟨W1.heap.size, 5, none⟩ = some (.int .i64 gg) := HC6.out.c 5 (by omega)
    by_cases hkm : k < m
    · have ZW := hide (HC6.out.z)
      have kI : (k : Int) < (m : Int) := by omega
      have HKM := hide hkm
      have wk : IntKind.i64.wrap ((k : Int) + 1) = (k : Int) + 1 := by rw [IntKind.wrap_i64]; omega
      rcases (HL.out.below (HK.out.below (Nat.le_trans (Nat.le_of_lt Y.out.1) (Nat.le_trans (Nat.le_of_lt Y.out.2.1) (Nat.le_trans (Nat.le_of_lt Y.out.2.2) S4.out))) (fun b e => by have := Y.out; have e : b = W1.heap.size := e; omega) : Below w.heap.size W4 wr)) with h0 | ⟨blk, off, rfl, hblk, hcl⟩
      · omega
      obtain ⟨cl0, il0⟩ := hcl k hkm
      obtain ⟨m', N, bo, hX, hN, hS⟩ := HC.out k hkm HN.out
      have HX := hide hX
      have HNX := hide hN
      clear hX hN
      obtain ⟨la, hla⟩ : ∃ la, (L k).a = la := ⟨_, rfl⟩
      obtain ⟨lr, hlr⟩ : ∃ lr, (L k).r = lr := ⟨_, rfl⟩
      obtain ⟨lc, hlc⟩ : ∃ lc, (L k).cap = lc := ⟨_, rfl⟩
      rw [hla, hlr, hlc] at cl0 hS
      rw [hla, hlr] at il0
      rw [EC.out.1, EC.out.2.1, EC.out.2.2] at hS
      have IL := hide il0
      have CS := hide hS
      have CL := hide cl0
      have ZB := hide (show blk < wr.heap.size from Nat.lt_of_lt_of_le hblk BK.out.size)
      clear hla hlr hlc hcl il0 cl0 hS hblk
      have FA := hide (fun (Q : World) (hQ : Below wr.heap.size wr Q) => (show Q.cell? ⟨w.heap.size, 0, none⟩ = some (.int .i64 R.d) ∧ Q.cell? ⟨w.heap.size, 1, none⟩ = some (.int .i64 R.r1) ∧ Q.cell? ⟨w.heap.size, 2, none⟩ = some (.int .i64 R.r2) ∧ Q.cell? ⟨w.heap.size, 3, none⟩ = some (.int .i64 R.r3) ∧ Q.cell? ⟨w.heap.size, 4, none⟩ = some (.int .i64 R.r4) ∧ Q.cell? ⟨w.heap.size, 5, none⟩ = some (.int .i64 R.k) ∧ Q.cell? ⟨w.heap.size, 6, none⟩ = some (.int .i64 R.z) ∧ Q.cell? ⟨w.heap.size, 7, none⟩ = some (.int .i64 R.o) ∧ Q.cell? ⟨w.heap.size, 8, none⟩ = some (.int .i64 R.y) ∧ Q.cell? ⟨w.heap.size, 9, none⟩ = some (.int .i64 R.mo) ∧ Q.cell? ⟨w.heap.size, 10, none⟩ = some (.int .i64 R.gr) from ⟨(hQ.cell (p := ⟨w.heap.size, 0, none⟩) (Nat.lt_of_lt_of_le (Nat.lt_trans Y.out.1 (Nat.lt_trans Y.out.2.1 Y.out.2.2)) (Nat.le_trans S4.out HK.out.size))).trans ((World.cell?_of_block (w := W4) (a := ⟨w.heap.size, 0, none⟩) (HK.out.block _ (Nat.lt_of_lt_of_le (Nat.lt_trans Y.out.1 (Nat.lt_trans Y.out.2.1 Y.out.2.2)) S4.out) (Nat.ne_of_lt Y.out.1))).trans (LR.out (⟨w.heap.size, 0, none⟩, .int .i64 R.d) (.head _))), (hQ.cell (p := ⟨w.heap.size, 1, none⟩) (Nat.lt_of_lt_of_le (Nat.lt_trans Y.out.1 (Nat.lt_trans Y.out.2.1 Y.out.2.2)) (Nat.le_trans S4.out HK.out.size))).trans ((World.cell?_of_block (w := W4) (a := ⟨w.heap.size, 1, none⟩) (HK.out.block _ (Nat.lt_of_lt_of_le (Nat.lt_trans Y.out.1 (Nat.lt_trans Y.out.2.1 Y.out.2.2)) S4.out) (Nat.ne_of_lt Y.out.1))).trans (LR.out (⟨w.heap.size, 1, none⟩, .int .i64 R.r1) (.tail _ (.head _)))), (hQ.cell (p := ⟨w.heap.size, 2, none⟩) (Nat.lt_of_lt_of_le (Nat.lt_trans Y.out.1 (Nat.lt_trans Y.out.2.1 Y.out.2.2)) (Nat.le_trans S4.out HK.out.size))).trans ((World.cell?_of_block (w := W4) (a := ⟨w.heap.size, 2, none⟩) (HK.out.block _ (Nat.lt_of_lt_of_le (Nat.lt_trans Y.out.1 (Nat.lt_trans Y.out.2.1 Y.out.2.2)) S4.out) (Nat.ne_of_lt Y.out.1))).trans (LR.out (⟨w.heap.size, 2, none⟩, .int .i64 R.r2) (.tail _ (.tail _ (.head _))))), (hQ.cell (p := ⟨w.heap.size, 3, none⟩) (Nat.lt_of_lt_of_le (Nat.lt_trans Y.out.1 (Nat.lt_trans Y.out.2.1 Y.out.2.2)) (Nat.le_trans S4.out HK.out.size))).trans ((World.cell?_of_block (w := W4) (a := ⟨w.heap.size, 3, none⟩) (HK.out.block _ (Nat.lt_of_lt_of_le (Nat.lt_trans Y.out.1 (Nat.lt_trans Y.out.2.1 Y.out.2.2)) S4.out) (Nat.ne_of_lt Y.out.1))).trans (LR.out (⟨w.heap.size, 3, none⟩, .int .i64 R.r3) (.tail _ (.tail _ (.tail _ (.head _)))))), (hQ.cell (p := ⟨w.heap.size, 4, none⟩) (Nat.lt_of_lt_of_le (Nat.lt_trans Y.out.1 (Nat.lt_trans Y.out.2.1 Y.out.2.2)) (Nat.le_trans S4.out HK.out.size))).trans ((World.cell?_of_block (w := W4) (a := ⟨w.heap.size, 4, none⟩) (HK.out.block _ (Nat.lt_of_lt_of_le (Nat.lt_trans Y.out.1 (Nat.lt_trans Y.out.2.1 Y.out.2.2)) S4.out) (Nat.ne_of_lt Y.out.1))).trans (LR.out (⟨w.heap.size, 4, none⟩, .int .i64 R.r4) (.tail _ (.tail _ (.tail _ (.tail _ (.head _))))))), (hQ.cell (p := ⟨w.heap.size, 5, none⟩) (Nat.lt_of_lt_of_le (Nat.lt_trans Y.out.1 (Nat.lt_trans Y.out.2.1 Y.out.2.2)) (Nat.le_trans S4.out HK.out.size))).trans ((World.cell?_of_block (w := W4) (a := ⟨w.heap.size, 5, none⟩) (HK.out.block _ (Nat.lt_of_lt_of_le (Nat.lt_trans Y.out.1 (Nat.lt_trans Y.out.2.1 Y.out.2.2)) S4.out) (Nat.ne_of_lt Y.out.1))).trans (LR.out (⟨w.heap.size, 5, none⟩, .int .i64 R.k) (.tail _ (.tail _ (.tail _ (.tail _ (.tail _ (.head _)))))))), (hQ.cell (p := ⟨w.heap.size, 6, none⟩) (Nat.lt_of_lt_of_le (Nat.lt_trans Y.out.1 (Nat.lt_trans Y.out.2.1 Y.out.2.2)) (Nat.le_trans S4.out HK.out.size))).trans ((World.cell?_of_block (w := W4) (a := ⟨w.heap.size, 6, none⟩) (HK.out.block _ (Nat.lt_of_lt_of_le (Nat.lt_trans Y.out.1 (Nat.lt_trans Y.out.2.1 Y.out.2.2)) S4.out) (Nat.ne_of_lt Y.out.1))).trans (LR.out (⟨w.heap.size, 6, none⟩, .int .i64 R.z) (.tail _ (.tail _ (.tail _ (.tail _ (.tail _ (.tail _ (.head _))))))))), (hQ.cell (p := ⟨w.heap.size, 7, none⟩) (Nat.lt_of_lt_of_le (Nat.lt_trans Y.out.1 (Nat.lt_trans Y.out.2.1 Y.out.2.2)) (Nat.le_trans S4.out HK.out.size))).trans ((World.cell?_of_block (w := W4) (a := ⟨w.heap.size, 7, none⟩) (HK.out.block _ (Nat.lt_of_lt_of_le (Nat.lt_trans Y.out.1 (Nat.lt_trans Y.out.2.1 Y.out.2.2)) S4.out) (Nat.ne_of_lt Y.out.1))).trans (LR.out (⟨w.heap.size, 7, none⟩, .int .i64 R.o) (.tail _ (.tail _ (.tail _ (.tail _ (.tail _ (.tail _ (.tail _ (.head _)))))))))), (hQ.cell (p := ⟨w.heap.size, 8, none⟩) (Nat.lt_of_lt_of_le (Nat.lt_trans Y.out.1 (Nat.lt_trans Y.out.2.1 Y.out.2.2)) (Nat.le_trans S4.out HK.out.size))).trans ((World.cell?_of_block (w := W4) (a := ⟨w.heap.size, 8, none⟩) (HK.out.block _ (Nat.lt_of_lt_of_le (Nat.lt_trans Y.out.1 (Nat.lt_trans Y.out.2.1 Y.out.2.2)) S4.out) (Nat.ne_of_lt Y.out.1))).trans (LR.out (⟨w.heap.size, 8, none⟩, .int .i64 R.y) (.tail _ (.tail _ (.tail _ (.tail _ (.tail _ (.tail _ (.tail _ (.tail _ (.head _))))))))))), (hQ.cell (p := ⟨w.heap.size, 9, none⟩) (Nat.lt_of_lt_of_le (Nat.lt_trans Y.out.1 (Nat.lt_trans Y.out.2.1 Y.out.2.2)) (Nat.le_trans S4.out HK.out.size))).trans ((World.cell?_of_block (w := W4) (a := ⟨w.heap.size, 9, none⟩) (HK.out.block _ (Nat.lt_of_lt_of_le (Nat.lt_trans Y.out.1 (Nat.lt_trans Y.out.2.1 Y.out.2.2)) S4.out) (Nat.ne_of_lt Y.out.1))).trans (LR.out (⟨w.heap.size, 9, none⟩, .int .i64 R.mo) (.tail _ (.tail _ (.tail _ (.tail _ (.tail _ (.tail _ (.tail _ (.tail _ (.tail _ (.head _)))))))))))), (hQ.cell (p := ⟨w.heap.size, 10, none⟩) (Nat.lt_of_lt_of_le (Nat.lt_trans Y.out.1 (Nat.lt_trans Y.out.2.1 Y.out.2.2)) (Nat.le_trans S4.out HK.out.size))).trans ((World.cell?_of_block (w := W4) (a := ⟨w.heap.size, 10, none⟩) (HK.out.block _ (Nat.lt_of_lt_of_le (Nat.lt_trans Y.out.1 (Nat.lt_trans Y.out.2.1 Y.out.2.2)) S4.out) (Nat.ne_of_lt Y.out.1))).trans (LR.out (⟨w.heap.size, 10, none⟩, .int .i64 R.gr) (.tail _ (.tail _ (.tail _ (.tail _ (.tail _ (.tail _ (.tail _ (.tail _ (.tail _ (.tail _ (.head _)))))))))))))⟩))
      have FB := hide (fun (Q : World) (hQ : Below wr.heap.size wr Q) => (show BoxV6 Q W1.heap.size (.slice p n c) (.slice f n d) (.slice q n g) (.int .i64 cc) (.int .i64 ff) (.int .i64 gg) from boxV6_at ⟨HC6.out.z, HC6.out.c 0 (by omega), HC6.out.c 1 (by omega), HC6.out.c 2 (by omega), HC6.out.c 3 (by omega), HC6.out.c 4 (by omega), HC6.out.c 5 (by omega)⟩ hQ HC6.out.z))
      have FE := hide (fun (Q : World) (hQ : Below wr.heap.size wr Q) => (hQ.cell (p := ⟨blk, off + k, none⟩) ZB.out).trans CL.out)
      have CT := hide (fun (Q : World) (hQ : Below wr.heap.size wr Q) => CS.out c d g p f q Q ((HP.out.below hQ).mono hQ.size) ((HF.out.below hQ).mono hQ.size) ((HS.out.below hQ).mono hQ.size) ((IL.out.below (hQ.mono BK.out.size)).mono (Nat.le_trans BK.out.size hQ.size)))
      go_wp2_with fail
      refine Qk.factsG2 (Below wr.heap.size) (fun _ _ _ => Below.trans) 12 (Below.refl _ _).drew (by kernel_rfl) (by kernel_rfl) (GG 11) (fun i s0 wx => match i with | 0 => s0 0 = .agg #[.int .i64 R.d, .int .i64 R.r1, .int .i64 R.r2, .int .i64 R.r3, .int .i64 R.r4, .int .i64 R.k, .int .i64 R.z, .int .i64 R.o, .int .i64 R.y, .int .i64 R.mo, .int .i64 R.gr] | 1 => s0 1 = .agg #[.slice p n c, .slice f n d, .slice q n g, .int .i64 cc, .int .i64 ff, .int .i64 gg] | 2 => s0 2 = .slice (some ⟨blk, off, none⟩) m cl | 3 => s0 3 = .int .i64 (k : Int) | 4 => s0 4 = .pointer (some ⟨blk, off + k, none⟩) | 5 => s0 5 = .slice la lr lc | 6 => ∃ (p f q : Option Addr) (c d g : Nat), s0 6 = .tuple #[.agg #[.slice p m' c, .slice f m' d, .slice q m' g, .int .i64 N.c, .int .i64 N.f, .int .i64 N.g], .bool bo] ∧ (OwnL wr.heap.size wx p m' N.P ∧ OwnL wr.heap.size wx f m' N.F ∧ OwnL wr.heap.size wx q m' N.S) ∧ ((∀ k k', Blk p m' k → Blk f m' k' → k < k') ∧ (∀ k k', Blk f m' k → Blk q m' k' → k < k')) | 7 => (∃ (p f q : Option Addr) (c d g : Nat), s0 7 = .tuple #[.agg #[.slice p m' c, .slice f m' d, .slice q m' g, .int .i64 N.c, .int .i64 N.f, .int .i64 N.g], .bool bo]) ∧ s0 7 = s0 6 | 8 => (∃ (p f q : Option Addr) (c d g : Nat), s0 8 = .agg #[.slice p m' c, .slice f m' d, .slice q m' g, .int .i64 N.c, .int .i64 N.f, .int .i64 N.g]) ∧ ∀ u v, s0 7 = .tuple #[u, v] → s0 8 = u | 9 => ∀ u v, s0 7 = .tuple #[u, v] → s0 9 = v | 10 => ∃ (g : Nat) (V : Nat → Value), s0 10 = .pointer (some ⟨g, 0, none⟩) ∧ wr.heap.size ≤ g ∧ C6 wx g V ∧ Ls V | 11 => ∀ (gg : Nat) (p f q : Option Addr) (c d g : Nat), s0 10 = .pointer (some ⟨gg, 0, none⟩) → s0 8 = .agg #[.slice p m' c, .slice f m' d, .slice q m' g, .int .i64 N.c, .int .i64 N.f, .int .i64 N.g] → C6 wx gg (OV p f q m' c d g N.c N.f N.g) | _ => True) ?loc ?stable ?steps ?rest
      case loc =>
        intro i s s' w1 hs h
        match i, h with
        | 0, h => exact (hs 0 (.inl rfl)).symm.trans h
        | 1, h => exact (hs 1 (.inl rfl)).symm.trans h
        | 2, h => exact (hs 2 (.inl rfl)).symm.trans h
        | 3, h => exact (hs 3 (.inl rfl)).symm.trans h
        | 4, h => exact (hs 4 (.inl rfl)).symm.trans h
        | 5, h => exact (hs 5 (.inl rfl)).symm.trans h
        | 6, ⟨p, f, q, c, d, g, h1, h2⟩ => exact ⟨p, f, q, c, d, g, (hs 6 (.inl rfl)).symm.trans h1, h2⟩
        | 7, ⟨⟨p, f, q, c, d, g, h0⟩, h⟩ => exact ⟨⟨p, f, q, c, d, g, (hs 7 (.inl rfl)).symm.trans h0⟩, (hs 7 (.inl rfl)).symm.trans (h.trans (hs 6 (.inr (by kernel_rfl))))⟩
        | 8, ⟨⟨p, f, q, c, d, g, h0⟩, h⟩ => exact ⟨⟨p, f, q, c, d, g, (hs 8 (.inl rfl)).symm.trans h0⟩, fun u v e => (hs 8 (.inl rfl)).symm.trans (h u v ((hs 7 (.inr (by kernel_rfl))).trans e))⟩
        | 9, h => exact fun u v e => (hs 9 (.inl rfl)).symm.trans (h u v ((hs 7 (.inr (by kernel_rfl))).trans e))
        | 10, ⟨g, V, h1, h2⟩ => exact ⟨g, V, (hs 10 (.inl rfl)).symm.trans h1, h2⟩
        | 11, h => exact fun gg p f q c d g e1 e2 => h gg p f q c d g ((hs 10 (.inr (by kernel_rfl))).trans e1) ((hs 8 (.inr (by kernel_rfl))).trans e2)
        | _ + 12, h => exact h
      case stable =>
        intro i k s w1 w2 hne hkn h hb hg
        match i, h, hne with
        | 0, h, _ => exact h
        | 1, h, _ => exact h
        | 2, h, _ => exact h
        | 3, h, _ => exact h
        | 4, h, _ => exact h
        | 5, h, _ => exact h
        | 6, ⟨p, f, q, c, d, g, h1, ⟨q1, q2, q3⟩, h3⟩, _ => exact ⟨p, f, q, c, d, g, h1, ⟨hg.own q1, hg.own q2, hg.own q3⟩, h3⟩
        | 7, h, _ => exact h
        | 8, h, _ => exact h
        | 9, h, _ => exact h
        | 10, ⟨g, V, h1, h2, h3, h4⟩, _ => obtain ⟨V', h3, h4⟩ := hg.six h3 h4; exact ⟨g, V', h1, h2, h3, h4⟩
        | 11, h, hne => exact fun gg p f q c d g e1 e2 => hg.six0 hne (h gg p f q c d g e1 e2)
        | _ + 12, h, _ => exact h
      case steps =>
        intro i o hi ho s0 A wS hb hk hA hO
        match i, hi, ho, hk with
        | 0, _, ho, hk =>
          cases ho
          refine Qg.landsG_free rfl ?_
          obtain ⟨l0, l1, l2, l3, l4, l5, l6, l7, l8, l9, l10⟩ := FA.out wS hb
          exact Qf.lands_val _ _ (runLR rfl ((hO 3 (by rfl)).trans rfl) l0 l1 l2 l3 l4 l5 l6 l7 l8 l9 l10) (gp (by decide) hb.size (Below.refl _ _) (by simp [Qf.upd]))
        | 1, _, ho, hk =>
          cases ho
          refine Qg.landsG_free rfl ?_
          exact Qf.lands_val _ _ (runLoadOI rfl ((hO 4 (by rfl)).trans rfl) (FB.out wS hb)) (gp (by decide) hb.size (Below.refl _ _) (by simp [Qf.upd]))
        | 2, _, ho, hk =>
          cases ho
          refine Qg.landsG_free rfl ?_
          exact Qf.lands_move _ rfl (.slice (some ⟨blk, off, none⟩) m cl) ((hO 2 (by rfl)).trans rfl) (gp (by decide) hb.size (Below.refl _ _) (by simp [Qf.upd]))
        | 3, _, ho, hk =>
          cases ho
          refine Qg.landsG_free rfl ?_
          exact Qf.lands_move _ rfl (.int .i64 (k : Int)) ((hO 8 (by rfl)).trans rfl) (gp (by decide) hb.size (Below.refl _ _) (by simp [Qf.upd]))
        | 4, _, ho, hk =>
          cases ho
          refine Qg.landsG_free rfl ?_
          have h2 := hA 2 _ 22 (by decide) rfl rfl (by simp)
          have e2 := hk 2 (by kernel_rfl)
          rw [e2] at h2
          have h3 := hA 3 _ 23 (by decide) rfl rfl (by simp)
          have e3 := hk 3 (by kernel_rfl)
          rw [e3] at h3
          exact Qf.lands_val _ _ (runIxS rfl h2 h3 HKM.out) (gp (by decide) hb.size (Below.refl _ _) (by simp [Qf.upd]))
        | 5, _, ho, hk =>
          cases ho
          refine Qg.landsG_free rfl ?_
          have h4 := hA 4 _ 24 (by decide) rfl rfl (by simp)
          have e4 := hk 4 (by kernel_rfl)
          rw [e4] at h4
          exact Qf.lands_val _ _ (runLL rfl h4 (FE.out wS hb)) (gp (by decide) hb.size (Below.refl _ _) (by simp [Qf.upd]))
        | 6, _, ho, hk =>
          cases ho
          refine Qg.landsG_free rfl ?_
          have h0 := hA 0 _ 20 (by decide) rfl rfl (by simp)
          have e0 := hk 0 (by kernel_rfl)
          rw [e0] at h0
          have h1 := hA 1 _ 21 (by decide) rfl rfl (by simp)
          have e1 := hk 1 (by kernel_rfl)
          rw [e1] at h1
          have h5 := hA 5 _ 25 (by decide) rfl rfl (by simp)
          have e5 := hk 5 (by kernel_rfl)
          rw [e5] at h5
          refine Qf.lands_call 14 _ _ rfl (enters_of Try.func14 (by kernel_rfl) rfl) _ (by first | (simp [h0, h1, h5]; done) | (simp [h0, h1, h5]; rfl)) ((CT.out wS hb).mono ?_)
          rintro e wT ⟨p, f, q, c, d, g, rfl, ⟨o1', o2', o3'⟩, od, bT⟩
          exact ⟨_, rfl, gp (by decide) hb.size bT ⟨p, f, q, c, d, g, by simp [Qf.upd], ⟨o1'.mono hb.size, o2'.mono hb.size, o3'.mono hb.size⟩, od⟩⟩
        | 7, _, ho, hk =>
          cases ho
          refine Qg.landsG_free rfl ?_
          have h6 := hA 6 _ 26 (by decide) rfl rfl (by simp)
          obtain ⟨p, f, q, c, d, g, e6, -⟩ := hk 6 (by kernel_rfl)
          exact Qf.lands_move _ rfl _ h6 (gp (by decide) hb.size (Below.refl _ _) ⟨⟨p, f, q, c, d, g, by simp [Qf.upd, e6]⟩, by simp [Qf.upd]⟩)
        | 8, _, ho, hk =>
          cases ho
          refine Qg.landsG_free rfl ?_
          have h7 := hA 7 _ 19 (by decide) rfl rfl (by simp)
          obtain ⟨⟨p, f, q, c, d, g, e7⟩, -⟩ := hk 7 (by kernel_rfl)
          rw [e7] at h7
          exact Qf.lands_val _ _ (runExt0 rfl h7) (gp (by decide) hb.size (Below.refl _ _) ⟨⟨p, f, q, c, d, g, by simp [Qf.upd]⟩, (fun u v e => by
            have e2 : s0 7 = .tuple #[u, v] := by simpa [Qf.upd] using e
            rw [e7] at e2
            cases e2
            simp [Qf.upd])⟩)
        | 9, _, ho, hk =>
          cases ho
          refine Qg.landsG_free rfl ?_
          have h7 := hA 7 _ 19 (by decide) rfl rfl (by simp)
          obtain ⟨⟨p, f, q, c, d, g, e7⟩, -⟩ := hk 7 (by kernel_rfl)
          rw [e7] at h7
          exact Qf.lands_val _ _ (runExt1 rfl h7) (gp (by decide) hb.size (Below.refl _ _) (fun u v e => by
            have e2 : s0 7 = .tuple #[u, v] := by simpa [Qf.upd] using e
            rw [e7] at e2
            cases e2
            simp [Qf.upd]))
        | 10, _, ho, hk =>
          cases ho
          refine Qg.landsG_free rfl ?_
          exact Qf.lands_val _ _ (runAllocO rfl) (gp (by decide) hb.size ((Below.refl _ _).alloc (Nat.le_refl _) _) ⟨_, _, by simp [Qf.upd], hb.size, ⟨fun i hi => by rcases (by omega : i = 0 ∨ i = 1 ∨ i = 2 ∨ i = 3 ∨ i = 4 ∨ i = 5) with rfl | rfl | rfl | rfl | rfl | rfl <;> simp [go_sem, OV], fun i => by simp [go_sem], by simp⟩, ls_OV none none none 0 0 0 0 0 0 0⟩)
        | 11, _, ho, hk =>
          have ho' : o.op = Op.store 30 (.tmp 9) (.tmp 27) := by cases ho; rfl
          refine Qg.landsG_free (show o.guard = none by cases ho; rfl) ?_
          have hp := hA 10 _ 9 (by decide) rfl rfl (by simp)
          obtain ⟨gg, V, ep, hgg, c6, lv⟩ := hk 10 (by kernel_rfl)
          rw [ep] at hp
          have hv := hA 8 _ 27 (by decide) rfl rfl (by simp)
          obtain ⟨⟨p, f, q, c, d, g, e8⟩, -⟩ := hk 8 (by kernel_rfl)
          rw [e8] at hv
          obtain ⟨w', run, c6', kk⟩ := runStoreO ho' hp hv c6
          refine Qf.lands_skip w' run (gs (kk.below hb.size (fun k e => by subst e; exact hgg)) ⟨gg, V, _, c6, lv, kk, c6', ls_OV ..⟩ (fun gg' p' f' q' c' d' g' a1 a2 => ?_))
          have a1 : s0 10 = .pointer (some ⟨gg', 0, none⟩) := by simpa [Qf.upd] using a1
          have a2 : s0 8 = .agg #[.slice p' m' c', .slice f' m' d', .slice q' m' g', .int .i64 N.c, .int .i64 N.f, .int .i64 N.g] := by simpa [Qf.upd] using a2
          rw [ep] at a1
          cases a1
          rw [e8] at a2
          cases a2
          exact c6'
        | _ + 12, hi, _, _ => exact absurd hi (by omega)
      case rest =>
      intro s' Z bz hk9
      have e0 := hk9 0 (by decide)
      have e1 := hk9 1 (by decide)
      have e2 := hk9 2 (by decide)
      have e3 := hk9 3 (by decide)
      have e4 := hk9 4 (by decide)
      have e5 := hk9 5 (by decide)
      obtain ⟨p1, f1, q1, c1, d1, g1, e6, ⟨oP, oF, oS⟩, od1, od2⟩ := hk9 6 (by decide)
      have e7 := (hk9 7 (by decide)).2
      have e8 := (hk9 8 (by decide)).2 _ _ (Eq.trans e7 e6)
      have e9 := hk9 9 (by decide) _ _ (Eq.trans e7 e6)
      rw [e6] at e7
      obtain ⟨vb, -, e10, hgg, -⟩ := hk9 10 (by decide)
      have c6 := hk9 11 (by decide) _ _ _ _ _ _ _ e10 e8
      have NA := hide (show Ans wr.heap.size vb p1 f1 q1 m' c1 d1 g1 N.P N.F N.S N.c N.f N.g Z from ⟨c6, hgg, oP, oF, oS, od1, od2⟩)
      have BZ0 := hide bz
      clear bz c6 oP oF oS od1 od2 hgg
      simp only [List.take_succ_cons, List.take_zero, List.drop_succ_cons, List.drop_zero, Qf.lay, Qf.all1, if_true, e0, e1, e2, e3, e4, e5, e6, e7, e8, e9, e10]
      simp only [Act.put, List.setIfInBounds_toArray, List.set_cons_succ, List.set_cons_zero]
      clear hk9 e0 e1 e2 e3 e4 e5 e6 e7 e8 e9 e10
      replace HP := hide ((HP.out.below BZ0.out).mono BZ0.out.size)
      replace HF := hide ((HF.out.below BZ0.out).mono BZ0.out.size)
      replace HS := hide ((HS.out.below BZ0.out).mono BZ0.out.size)
      replace HC6 := hide (HC6.out.kept (Kept.of_below (S := fun _ => False) BZ0.out) id)
      replace RW := hide (RW.out.kept (Kept.of_below (S := fun _ => False) BZ0.out) id)
      replace BK := hide (BK.out.trans (BZ0.out.mono BK.out.size))
      replace HK := hide (HK.out.trans (Kept.of_below BZ0.out))
      clear FA FB FE CT CS IL CL s0 s1 s2 s3 s4 s5
      have s0 : Z.cell? ⟨W1.heap.size, 0, none⟩ = some (.slice p n c) := HC6.out.c 0 (by omega)
      have s1 : Z.cell? ⟨W1.heap.size, 1, none⟩ = some (.slice f n d) := HC6.out.c 1 (by omega)
      have s2 : Z.cell? ⟨W1.heap.size, 2, none⟩ = some (.slice q n g) := HC6.out.c 2 (by omega)
      have s3 : Z.cell? ⟨W1.heap.size, 3, none⟩ = some (.int .i64 cc) := HC6.out.c 3 (by omega)
      have s4 : Z.cell? ⟨W1.heap.size, 4, none⟩ = some (.int .i64 ff) := HC6.out.c 4 (by omega)
      have s5 : Z.cell? ⟨W1.heap.size, 5, none⟩ = some (.int .i64 gg) := HC6.out.c 5 (by omega)
      cases bo
      case false =>
        have STOP := hide (show X k from Classical.byContradiction (fun h => by have := (HNX.out h).2.2; cases this))
        clear HX HNX NA
        have CC := hide (specCopyO p f q n c d g (S k).P (S k).F (S k).S cc ff gg Z HP.out HF.out HS.out (nil_ints HP.out) (nil_ints HF.out) (nil_ints HS.out) N4.out)
        go_wp2_with fail
        refine CC.out.mono ?_; rintro e V ⟨p', f', q', c', d', g', rfl, ⟨w1, w2, w3⟩, ⟨v1, v2⟩, bx⟩
        have RZ := hide (RW.out.kept (Kept.of_below (S := fun _ => False) bx) id)
        have BZ := hide (BK.out.trans (bx.mono BK.out.size))
        have LZ := hide (show W3.heap.size ≤ Z.heap.size from Nat.le_trans S4.out HK.out.size)
        have HP2 := hide w1
        have HF2 := hide w2
        have HS2 := hide w3
        have AP := hide (And.intro v1 v2)
        clear w1 w2 w3 v1 v2 bx CC
        obtain ⟨T0, hT0⟩ : ∃ T0, V.setCell ⟨W2.heap.size, 0, none⟩ (.slice p' n c') = T0 := ⟨_, rfl⟩
        have RT0 := hide (hT0 ▸ RZ.out.set 0 (.slice p' n c') (by omega) : C6 T0 W2.heap.size _)
        obtain ⟨vT0, eT0⟩ : ∃ u, V.cell? ⟨W2.heap.size, 0, none⟩ = some u := ⟨_, RZ.out.c 0 (by omega)⟩
        have fT0 := RZ.out.f 0
        have kT0 : Kept (· = W2.heap.size) V T0 := hT0 ▸ Kept.setCell V ⟨W2.heap.size, 0, none⟩ _
        have BT0 := hide (hT0 ▸ BZ.out.setCell (p := ⟨W2.heap.size, 0, none⟩) (by have := Y.out; show w.heap.size ≤ W2.heap.size; omega) _ : Below w.heap.size w T0)
        obtain ⟨T1, hT1⟩ : ∃ T1, T0.setCell ⟨W2.heap.size, 1, none⟩ (.slice f' n d') = T1 := ⟨_, rfl⟩
        have RT1 := hide (hT1 ▸ RT0.out.set 1 (.slice f' n d') (by omega) : C6 T1 W2.heap.size _)
        obtain ⟨vT1, eT1⟩ : ∃ u, T0.cell? ⟨W2.heap.size, 1, none⟩ = some u := ⟨_, RT0.out.c 1 (by omega)⟩
        have fT1 := RT0.out.f 1
        have kT1 : Kept (· = W2.heap.size) T0 T1 := hT1 ▸ Kept.setCell T0 ⟨W2.heap.size, 1, none⟩ _
        have BT1 := hide (hT1 ▸ BT0.out.setCell (p := ⟨W2.heap.size, 1, none⟩) (by have := Y.out; show w.heap.size ≤ W2.heap.size; omega) _ : Below w.heap.size w T1)
        obtain ⟨T2, hT2⟩ : ∃ T2, T1.setCell ⟨W2.heap.size, 2, none⟩ (.slice q' n g') = T2 := ⟨_, rfl⟩
        have RT2 := hide (hT2 ▸ RT1.out.set 2 (.slice q' n g') (by omega) : C6 T2 W2.heap.size _)
        obtain ⟨vT2, eT2⟩ : ∃ u, T1.cell? ⟨W2.heap.size, 2, none⟩ = some u := ⟨_, RT1.out.c 2 (by omega)⟩
        have fT2 := RT1.out.f 2
        have kT2 : Kept (· = W2.heap.size) T1 T2 := hT2 ▸ Kept.setCell T1 ⟨W2.heap.size, 2, none⟩ _
        have BT2 := hide (hT2 ▸ BT1.out.setCell (p := ⟨W2.heap.size, 2, none⟩) (by have := Y.out; show w.heap.size ≤ W2.heap.size; omega) _ : Below w.heap.size w T2)
        obtain ⟨T3, hT3⟩ : ∃ T3, T2.setCell ⟨W2.heap.size, 3, none⟩ (.int .i64 cc) = T3 := ⟨_, rfl⟩
        have RT3 := hide (hT3 ▸ RT2.out.set 3 (.int .i64 cc) (by omega) : C6 T3 W2.heap.size _)
        obtain ⟨vT3, eT3⟩ : ∃ u, T2.cell? ⟨W2.heap.size, 3, none⟩ = some u := ⟨_, RT2.out.c 3 (by omega)⟩
        have fT3 := RT2.out.f 3
        have kT3 : Kept (· = W2.heap.size) T2 T3 := hT3 ▸ Kept.setCell T2 ⟨W2.heap.size, 3, none⟩ _
        have BT3 := hide (hT3 ▸ BT2.out.setCell (p := ⟨W2.heap.size, 3, none⟩) (by have := Y.out; show w.heap.size ≤ W2.heap.size; omega) _ : Below w.heap.size w T3)
        obtain ⟨T4, hT4⟩ : ∃ T4, T3.setCell ⟨W2.heap.size, 4, none⟩ (.int .i64 ff) = T4 := ⟨_, rfl⟩
        have RT4 := hide (hT4 ▸ RT3.out.set 4 (.int .i64 ff) (by omega) : C6 T4 W2.heap.size _)
        obtain ⟨vT4, eT4⟩ : ∃ u, T3.cell? ⟨W2.heap.size, 4, none⟩ = some u := ⟨_, RT3.out.c 4 (by omega)⟩
        have fT4 := RT3.out.f 4
        have kT4 : Kept (· = W2.heap.size) T3 T4 := hT4 ▸ Kept.setCell T3 ⟨W2.heap.size, 4, none⟩ _
        have BT4 := hide (hT4 ▸ BT3.out.setCell (p := ⟨W2.heap.size, 4, none⟩) (by have := Y.out; show w.heap.size ≤ W2.heap.size; omega) _ : Below w.heap.size w T4)
        obtain ⟨T5, hT5⟩ : ∃ T5, T4.setCell ⟨W2.heap.size, 5, none⟩ (.int .i64 gg) = T5 := ⟨_, rfl⟩
        have RT5 := hide (hT5 ▸ RT4.out.set 5 (.int .i64 gg) (by omega) : C6 T5 W2.heap.size _)
        obtain ⟨vT5, eT5⟩ : ∃ u, T4.cell? ⟨W2.heap.size, 5, none⟩ = some u := ⟨_, RT4.out.c 5 (by omega)⟩
        have fT5 := RT4.out.f 5
        have kT5 : Kept (· = W2.heap.size) T4 T5 := hT5 ▸ Kept.setCell T4 ⟨W2.heap.size, 5, none⟩ _
        have BT5 := hide (hT5 ▸ BT4.out.setCell (p := ⟨W2.heap.size, 5, none⟩) (by have := Y.out; show w.heap.size ≤ W2.heap.size; omega) _ : Below w.heap.size w T5)
        have kk : Kept (· = W2.heap.size) V T5 := ((((kT0.trans kT1).trans kT2).trans kT3).trans kT4).trans kT5
        have ZP := hide ((HP2.out.kept kk (fun b hb e => by have := (HP2.out.blk hb).1; have := LZ.out; have := Y.out; have e : b = W2.heap.size := e; omega)).mono BK.out.size)
        have ZF := hide ((HF2.out.kept kk (fun b hb e => by have := (HF2.out.blk hb).1; have := LZ.out; have := Y.out; have e : b = W2.heap.size := e; omega)).mono BK.out.size)
        have ZS := hide ((HS2.out.kept kk (fun b hb e => by have := (HS2.out.blk hb).1; have := LZ.out; have := Y.out; have e : b = W2.heap.size := e; omega)).mono BK.out.size)
        have r0 : T5.cell? ⟨W2.heap.size, 0, none⟩ = some (.slice p' n c') := RT5.out.c 0 (by omega)
        have r1 : T5.cell? ⟨W2.heap.size, 1, none⟩ = some (.slice f' n d') := RT5.out.c 1 (by omega)
        have r2 : T5.cell? ⟨W2.heap.size, 2, none⟩ = some (.slice q' n g') := RT5.out.c 2 (by omega)
        have r3 : T5.cell? ⟨W2.heap.size, 3, none⟩ = some (.int .i64 cc) := RT5.out.c 3 (by omega)
        have r4 : T5.cell? ⟨W2.heap.size, 4, none⟩ = some (.int .i64 ff) := RT5.out.c 4 (by omega)
        have r5 : T5.cell? ⟨W2.heap.size, 5, none⟩ = some (.int .i64 gg) := RT5.out.c 5 (by omega)
        clear kk kT0 kT1 kT2 kT3 kT4 kT5
        go_wp2_with fail
        refine bodyPost_ret (v := .tuple #[.agg #[.slice p' n c', .slice f' n d', .slice q' n g', .int .i64 cc, .int .i64 ff, .int .i64 gg], .int .i64 (k : Int)]) (by simp [results, Try.results10, go_sem, r0, r1, r2, r3, r4, r5]) rfl ?_
        exact ⟨k, p', f', q', c', d', g', ⟨by omega, HN.out, .inr STOP.out⟩, by rw [EC.out.1, EC.out.2.1, EC.out.2.2], ⟨ZP.out, ZF.out, ZS.out⟩, AP.out, HO.out, BT5.out⟩
      case true =>
        have NX := hide (show ¬ X k from fun h => by have := HX.out h; cases this)
        obtain ⟨em, eN, -⟩ := HNX.out NX.out
        have EN := hide eN
        clear eN
        subst em
        obtain ⟨-, n0, n1, n2, n3, n4, n5⟩ := NA.out.box
        have NE := hide (show vb ≠ W1.heap.size from by have := NA.out.hB; have := ZW.out; omega)
        have UP := hide (own_na NA.out.P HC6.out (ls_OV ..))
        have UF := hide (own_na NA.out.F HC6.out (ls_OV ..))
        have US := hide (own_na NA.out.S HC6.out (ls_OV ..))
        obtain ⟨U0, hU0⟩ : ∃ U0, Z.setCell ⟨W1.heap.size, 0, none⟩ (.slice p1 m' c1) = U0 := ⟨_, rfl⟩
        have RU0 := hide (hU0 ▸ HC6.out.set 0 (.slice p1 m' c1) (by omega) : C6 U0 W1.heap.size _)
        obtain ⟨vU0, eU0⟩ : ∃ u, Z.cell? ⟨W1.heap.size, 0, none⟩ = some u := ⟨_, HC6.out.c 0 (by omega)⟩
        have fU0 := HC6.out.f 0
        have kU0 : Kept (· = W1.heap.size) Z U0 := hU0 ▸ Kept.setCell Z ⟨W1.heap.size, 0, none⟩ _
        have BU0 := hide (hU0 ▸ BK.out.setCell (p := ⟨W1.heap.size, 0, none⟩) (Nat.le_of_lt Y.out.1) _ : Below w.heap.size w U0)
        obtain ⟨U1, hU1⟩ : ∃ U1, U0.setCell ⟨W1.heap.size, 1, none⟩ (.slice f1 m' d1) = U1 := ⟨_, rfl⟩
        have RU1 := hide (hU1 ▸ RU0.out.set 1 (.slice f1 m' d1) (by omega) : C6 U1 W1.heap.size _)
        obtain ⟨vU1, eU1⟩ : ∃ u, U0.cell? ⟨W1.heap.size, 1, none⟩ = some u := ⟨_, RU0.out.c 1 (by omega)⟩
        have fU1 := RU0.out.f 1
        have kU1 : Kept (· = W1.heap.size) U0 U1 := hU1 ▸ Kept.setCell U0 ⟨W1.heap.size, 1, none⟩ _
        have BU1 := hide (hU1 ▸ BU0.out.setCell (p := ⟨W1.heap.size, 1, none⟩) (Nat.le_of_lt Y.out.1) _ : Below w.heap.size w U1)
        obtain ⟨U2, hU2⟩ : ∃ U2, U1.setCell ⟨W1.heap.size, 2, none⟩ (.slice q1 m' g1) = U2 := ⟨_, rfl⟩
        have RU2 := hide (hU2 ▸ RU1.out.set 2 (.slice q1 m' g1) (by omega) : C6 U2 W1.heap.size _)
        obtain ⟨vU2, eU2⟩ : ∃ u, U1.cell? ⟨W1.heap.size, 2, none⟩ = some u := ⟨_, RU1.out.c 2 (by omega)⟩
        have fU2 := RU1.out.f 2
        have kU2 : Kept (· = W1.heap.size) U1 U2 := hU2 ▸ Kept.setCell U1 ⟨W1.heap.size, 2, none⟩ _
        have BU2 := hide (hU2 ▸ BU1.out.setCell (p := ⟨W1.heap.size, 2, none⟩) (Nat.le_of_lt Y.out.1) _ : Below w.heap.size w U2)
        obtain ⟨U3, hU3⟩ : ∃ U3, U2.setCell ⟨W1.heap.size, 3, none⟩ (.int .i64 N.c) = U3 := ⟨_, rfl⟩
        have RU3 := hide (hU3 ▸ RU2.out.set 3 (.int .i64 N.c) (by omega) : C6 U3 W1.heap.size _)
        obtain ⟨vU3, eU3⟩ : ∃ u, U2.cell? ⟨W1.heap.size, 3, none⟩ = some u := ⟨_, RU2.out.c 3 (by omega)⟩
        have fU3 := RU2.out.f 3
        have kU3 : Kept (· = W1.heap.size) U2 U3 := hU3 ▸ Kept.setCell U2 ⟨W1.heap.size, 3, none⟩ _
        have BU3 := hide (hU3 ▸ BU2.out.setCell (p := ⟨W1.heap.size, 3, none⟩) (Nat.le_of_lt Y.out.1) _ : Below w.heap.size w U3)
        obtain ⟨U4, hU4⟩ : ∃ U4, U3.setCell ⟨W1.heap.size, 4, none⟩ (.int .i64 N.f) = U4 := ⟨_, rfl⟩
        have RU4 := hide (hU4 ▸ RU3.out.set 4 (.int .i64 N.f) (by omega) : C6 U4 W1.heap.size _)
        obtain ⟨vU4, eU4⟩ : ∃ u, U3.cell? ⟨W1.heap.size, 4, none⟩ = some u := ⟨_, RU3.out.c 4 (by omega)⟩
        have fU4 := RU3.out.f 4
        have kU4 : Kept (· = W1.heap.size) U3 U4 := hU4 ▸ Kept.setCell U3 ⟨W1.heap.size, 4, none⟩ _
        have BU4 := hide (hU4 ▸ BU3.out.setCell (p := ⟨W1.heap.size, 4, none⟩) (Nat.le_of_lt Y.out.1) _ : Below w.heap.size w U4)
        obtain ⟨U5, hU5⟩ : ∃ U5, U4.setCell ⟨W1.heap.size, 5, none⟩ (.int .i64 N.g) = U5 := ⟨_, rfl⟩
        have RU5 := hide (hU5 ▸ RU4.out.set 5 (.int .i64 N.g) (by omega) : C6 U5 W1.heap.size _)
        obtain ⟨vU5, eU5⟩ : ∃ u, U4.cell? ⟨W1.heap.size, 5, none⟩ = some u := ⟨_, RU4.out.c 5 (by omega)⟩
        have fU5 := RU4.out.f 5
        have kU5 : Kept (· = W1.heap.size) U4 U5 := hU5 ▸ Kept.setCell U4 ⟨W1.heap.size, 5, none⟩ _
        have BU5 := hide (hU5 ▸ BU4.out.setCell (p := ⟨W1.heap.size, 5, none⟩) (Nat.le_of_lt Y.out.1) _ : Below w.heap.size w U5)
        have kk : Kept (· = W1.heap.size) Z U5 := ((((kU0.trans kU1).trans kU2).trans kU3).trans kU4).trans kU5
        have OU := hide (RU5.out.same (fun i hi => by rcases (by omega : i = 0 ∨ i = 1 ∨ i = 2 ∨ i = 3 ∨ i = 4 ∨ i = 5) with rfl | rfl | rfl | rfl | rfl | rfl <;> rfl) : C6 U5 W1.heap.size (OV p1 f1 q1 m' c1 d1 g1 N.c N.f N.g))
        have IP := hide ((NA.out.P.kept kk (fun b hb e => UP.out b hb e)).ints)
        have IF := hide ((NA.out.F.kept kk (fun b hb e => UF.out b hb e)).ints)
        have IS := hide ((NA.out.S.kept kk (fun b hb e => US.out b hb e)).ints)
        have KU := hide (HK.out.trans kk)
        clear kk kU0 kU1 kU2 kU3 kU4 kU5
        go_wp2_with fail
        go_roundw
        case rel =>
          refine ⟨k + 1, p1, f1, q1, c1, d1, g1, by omega, by go_num, fun t ht => ?_, ?_, ?_, KU.out⟩
          · by_cases e : t < k
            · exact HN.out t e
            · obtain rfl : t = k := by omega
              exact NX.out
          · rw [← EN.out]; exact OU.out
          · rw [← EN.out]; exact ⟨IP.out, IF.out, IS.out⟩
        case measure => simp [intOf]; omega
    · have lk : decide ((k : Int) < (m : Int)) = false := decide_eq_false (by omega)
      have lk' : decide (k < m) = false := decide_eq_false (by omega)
      obtain rfl : k = m := by omega
      have CC := hide (specCopyO p f q n c d g (S k).P (S k).F (S k).S cc ff gg wr HP.out HF.out HS.out (nil_ints HP.out) (nil_ints HF.out) (nil_ints HS.out) N4.out)
      go_wp2_with fail
      refine CC.out.mono ?_; rintro e V ⟨p', f', q', c', d', g', rfl, ⟨w1, w2, w3⟩, ⟨v1, v2⟩, bx⟩
      have RZ := hide (RW.out.kept (Kept.of_below (S := fun _ => False) bx) id)
      have BZ := hide (BK.out.trans (bx.mono BK.out.size))
      have LZ := hide (show W3.heap.size ≤ wr.heap.size from Nat.le_trans S4.out HK.out.size)
      have HP2 := hide w1
      have HF2 := hide w2
      have HS2 := hide w3
      have AP := hide (And.intro v1 v2)
      clear w1 w2 w3 v1 v2 bx CC
      obtain ⟨T0, hT0⟩ : ∃ T0, V.setCell ⟨W2.heap.size, 0, none⟩ (.slice p' n c') = T0 := ⟨_, rfl⟩
      have RT0 := hide (hT0 ▸ RZ.out.set 0 (.slice p' n c') (by omega) : C6 T0 W2.heap.size _)
      obtain ⟨vT0, eT0⟩ : ∃ u, V.cell? ⟨W2.heap.size, 0, none⟩ = some u := ⟨_, RZ.out.c 0 (by omega)⟩
      have fT0 := RZ.out.f 0
      have kT0 : Kept (· = W2.heap.size) V T0 := hT0 ▸ Kept.setCell V ⟨W2.heap.size, 0, none⟩ _
      have BT0 := hide (hT0 ▸ BZ.out.setCell (p := ⟨W2.heap.size, 0, none⟩) (by have := Y.out; show w.heap.size ≤ W2.heap.size; omega) _ : Below w.heap.size w T0)
      obtain ⟨T1, hT1⟩ : ∃ T1, T0.setCell ⟨W2.heap.size, 1, none⟩ (.slice f' n d') = T1 := ⟨_, rfl⟩
      have RT1 := hide (hT1 ▸ RT0.out.set 1 (.slice f' n d') (by omega) : C6 T1 W2.heap.size _)
      obtain ⟨vT1, eT1⟩ : ∃ u, T0.cell? ⟨W2.heap.size, 1, none⟩ = some u := ⟨_, RT0.out.c 1 (by omega)⟩
      have fT1 := RT0.out.f 1
      have kT1 : Kept (· = W2.heap.size) T0 T1 := hT1 ▸ Kept.setCell T0 ⟨W2.heap.size, 1, none⟩ _
      have BT1 := hide (hT1 ▸ BT0.out.setCell (p := ⟨W2.heap.size, 1, none⟩) (by have := Y.out; show w.heap.size ≤ W2.heap.size; omega) _ : Below w.heap.size w T1)
      obtain ⟨T2, hT2⟩ : ∃ T2, T1.setCell ⟨W2.heap.size, 2, none⟩ (.slice q' n g') = T2 := ⟨_, rfl⟩
      have RT2 := hide (hT2 ▸ RT1.out.set 2 (.slice q' n g') (by omega) : C6 T2 W2.heap.size _)
      obtain ⟨vT2, eT2⟩ : ∃ u, T1.cell? ⟨W2.heap.size, 2, none⟩ = some u := ⟨_, RT1.out.c 2 (by omega)⟩
      have fT2 := RT1.out.f 2
      have kT2 : Kept (· = W2.heap.size) T1 T2 := hT2 ▸ Kept.setCell T1 ⟨W2.heap.size, 2, none⟩ _
      have BT2 := hide (hT2 ▸ BT1.out.setCell (p := ⟨W2.heap.size, 2, none⟩) (by have := Y.out; show w.heap.size ≤ W2.heap.size; omega) _ : Below w.heap.size w T2)
      obtain ⟨T3, hT3⟩ : ∃ T3, T2.setCell ⟨W2.heap.size, 3, none⟩ (.int .i64 cc) = T3 := ⟨_, rfl⟩
      have RT3 := hide (hT3 ▸ RT2.out.set 3 (.int .i64 cc) (by omega) : C6 T3 W2.heap.size _)
      obtain ⟨vT3, eT3⟩ : ∃ u, T2.cell? ⟨W2.heap.size, 3, none⟩ = some u := ⟨_, RT2.out.c 3 (by omega)⟩
      have fT3 := RT2.out.f 3
      have kT3 : Kept (· = W2.heap.size) T2 T3 := hT3 ▸ Kept.setCell T2 ⟨W2.heap.size, 3, none⟩ _
      have BT3 := hide (hT3 ▸ BT2.out.setCell (p := ⟨W2.heap.size, 3, none⟩) (by have := Y.out; show w.heap.size ≤ W2.heap.size; omega) _ : Below w.heap.size w T3)
      obtain ⟨T4, hT4⟩ : ∃ T4, T3.setCell ⟨W2.heap.size, 4, none⟩ (.int .i64 ff) = T4 := ⟨_, rfl⟩
      have RT4 := hide (hT4 ▸ RT3.out.set 4 (.int .i64 ff) (by omega) : C6 T4 W2.heap.size _)
      obtain ⟨vT4, eT4⟩ : ∃ u, T3.cell? ⟨W2.heap.size, 4, none⟩ = some u := ⟨_, RT3.out.c 4 (by omega)⟩
      have fT4 := RT3.out.f 4
      have kT4 : Kept (· = W2.heap.size) T3 T4 := hT4 ▸ Kept.setCell T3 ⟨W2.heap.size, 4, none⟩ _
      have BT4 := hide (hT4 ▸ BT3.out.setCell (p := ⟨W2.heap.size, 4, none⟩) (by have := Y.out; show w.heap.size ≤ W2.heap.size; omega) _ : Below w.heap.size w T4)
      obtain ⟨T5, hT5⟩ : ∃ T5, T4.setCell ⟨W2.heap.size, 5, none⟩ (.int .i64 gg) = T5 := ⟨_, rfl⟩
      have RT5 := hide (hT5 ▸ RT4.out.set 5 (.int .i64 gg) (by omega) : C6 T5 W2.heap.size _)
      obtain ⟨vT5, eT5⟩ : ∃ u, T4.cell? ⟨W2.heap.size, 5, none⟩ = some u := ⟨_, RT4.out.c 5 (by omega)⟩
      have fT5 := RT4.out.f 5
      have kT5 : Kept (· = W2.heap.size) T4 T5 := hT5 ▸ Kept.setCell T4 ⟨W2.heap.size, 5, none⟩ _
      have BT5 := hide (hT5 ▸ BT4.out.setCell (p := ⟨W2.heap.size, 5, none⟩) (by have := Y.out; show w.heap.size ≤ W2.heap.size; omega) _ : Below w.heap.size w T5)
      have kk : Kept (· = W2.heap.size) V T5 := ((((kT0.trans kT1).trans kT2).trans kT3).trans kT4).trans kT5
      have ZP := hide ((HP2.out.kept kk (fun b hb e => by have := (HP2.out.blk hb).1; have := LZ.out; have := Y.out; have e : b = W2.heap.size := e; omega)).mono BK.out.size)
      have ZF := hide ((HF2.out.kept kk (fun b hb e => by have := (HF2.out.blk hb).1; have := LZ.out; have := Y.out; have e : b = W2.heap.size := e; omega)).mono BK.out.size)
      have ZS := hide ((HS2.out.kept kk (fun b hb e => by have := (HS2.out.blk hb).1; have := LZ.out; have := Y.out; have e : b = W2.heap.size := e; omega)).mono BK.out.size)
      have r0 : T5.cell? ⟨W2.heap.size, 0, none⟩ = some (.slice p' n c') := RT5.out.c 0 (by omega)
      have r1 : T5.cell? ⟨W2.heap.size, 1, none⟩ = some (.slice f' n d') := RT5.out.c 1 (by omega)
      have r2 : T5.cell? ⟨W2.heap.size, 2, none⟩ = some (.slice q' n g') := RT5.out.c 2 (by omega)
      have r3 : T5.cell? ⟨W2.heap.size, 3, none⟩ = some (.int .i64 cc) := RT5.out.c 3 (by omega)
      have r4 : T5.cell? ⟨W2.heap.size, 4, none⟩ = some (.int .i64 ff) := RT5.out.c 4 (by omega)
      have r5 : T5.cell? ⟨W2.heap.size, 5, none⟩ = some (.int .i64 gg) := RT5.out.c 5 (by omega)
      clear kk kT0 kT1 kT2 kT3 kT4 kT5
      go_wp2_with fail
      refine bodyPost_ret (v := .tuple #[.agg #[.slice p' n c', .slice f' n d', .slice q' n g', .int .i64 cc, .int .i64 ff, .int .i64 gg], .int .i64 (k : Int)]) (by simp [results, Try.results10, go_sem, r0, r1, r2, r3, r4, r5]) rfl ?_
      exact ⟨k, p', f', q', c', d', g', ⟨by omega, HN.out, .inl rfl⟩, by rw [EC.out.1, EC.out.2.1, EC.out.2.2], ⟨ZP.out, ZF.out, ZS.out⟩, AP.out, HO.out, BT5.out⟩
end Vo
end Go.Proofs.Ytflbhlepmjiejaa

/- RunOpt on both sides (written by tools/genro.py). -/
namespace Go.Proofs.Ytflbhlepmjiejaa
namespace Vo
open Go.ChangeShapes Go.WideShapes Go.ChangeAt Go.RowKit Go.Joins Go.Sort
open Vl
set_option linter.unusedVariables false
set_option linter.unusedSimpArgs false
set_option maxHeartbeats 2000000 in
theorem sRunNo (R : Rl) (n n2 n3 m cP cF cS cl : Nat) (s : St) (aP aF aS ls : Option Addr) (w : World) (h1 : Ints w.heap.size w aP n s.P) (h2 : Ints w.heap.size w aF n2 s.F) (h3 : Ints w.heap.size w aS n3 s.S) (hr1 : (n : Int) ≤ 1048576) (hr2 : (n2 : Int) ≤ 1048576) (hr3 : (n3 : Int) ≤ 1048576) (hb : bd s.c ∧ bd s.f ∧ bd s.g) (hno : ook n n2 n3 s.P s.F s.S s.c s.f s.g = false) :
    Calls Try.prog 10 #[.agg #[.int .i64 R.d, .int .i64 R.r1, .int .i64 R.r2, .int .i64 R.r3, .int .i64 R.r4, .int .i64 R.k, .int .i64 R.z, .int .i64 R.o, .int .i64 R.y, .int .i64 R.mo, .int .i64 R.gr], .agg #[.slice aP n cP, .slice aF n2 cF, .slice aS n3 cS, .int .i64 s.c, .int .i64 s.f, .int .i64 s.g], .slice ls m cl] w fun e w' => e = .returned (.tuple #[ZOpt, .int .i64 0]) ∧ Below w.heap.size w w' := by
  obtain ⟨W1, hW1⟩ : ∃ W1, w.alloc (.cells #[.int .i64 R.d, .int .i64 R.r1, .int .i64 R.r2, .int .i64 R.r3, .int .i64 R.r4, .int .i64 R.k, .int .i64 R.z, .int .i64 R.o, .int .i64 R.y, .int .i64 R.mo, .int .i64 R.gr] 27) = W1 := ⟨_, rfl⟩
  have n1 : Below w.heap.size w W1 := hW1 ▸ (Below.refl _ _).alloc (Nat.le_refl _) _
  have y1 : w.heap.size < W1.heap.size := by rw [← hW1]; simp
  obtain ⟨W2, hW2⟩ : ∃ W2, W1.alloc (.cells #[.slice aP n cP, .slice aF n2 cF, .slice aS n3 cS, .int .i64 s.c, .int .i64 s.f, .int .i64 s.g] 30) = W2 := ⟨_, rfl⟩
  have n2' : Below W1.heap.size W1 W2 := hW2 ▸ (Below.refl _ _).alloc (Nat.le_refl _) _
  have y2 : W1.heap.size < W2.heap.size := by rw [← hW2]; simp
  obtain ⟨W3, hW3⟩ : ∃ W3, W2.alloc (.cells #[.slice none 0 0, .slice none 0 0, .slice none 0 0, .int .i64 0, .int .i64 0, .int .i64 0] 30) = W3 := ⟨_, rfl⟩
  have n3' : Below W2.heap.size W2 W3 := hW3 ▸ (Below.refl _ _).alloc (Nat.le_refl _) _
  have y3 : W2.heap.size < W3.heap.size := by rw [← hW3]; simp
  have K := hide ((hW2 ▸ boxV6_new _ _ _ _ _ _ _ _ : BoxV6 W2 W1.heap.size (.slice aP n cP) (.slice aF n2 cF) (.slice aS n3 cS) (.int .i64 s.c) (.int .i64 s.f) (.int .i64 s.g)).below n3')
  have R1 := hide (show C6 W3 W2.heap.size (OV none none none 0 0 0 0 0 0 0) from ⟨fun i hi => by rcases (by omega : i = 0 ∨ i = 1 ∨ i = 2 ∨ i = 3 ∨ i = 4 ∨ i = 5) with rfl | rfl | rfl | rfl | rfl | rfl <;> (rw [← hW3]; simp [go_sem, OV]), fun i => by rw [← hW3]; simp [go_sem], y3⟩)
  have B3 := hide ((n1.trans (n2'.mono n1.size)).trans (n3'.mono (Nat.le_trans n1.size n2'.size)))
  have Y := hide (And.intro y1 (And.intro y2 y3))
  have CO := hide (specOpt aP aF aS n n2 n3 cP cF cS s.P s.F s.S s.c s.f s.g W3 ((h1.below B3.out).mono B3.out.size) ((h2.below B3.out).mono B3.out.size) ((h3.below B3.out).mono B3.out.size) hr1 hb.1 hb.2.1 hb.2.2 hr2 hr3)
  rw [hno] at CO
  clear h1 h2 h3 hb hno n1 n2' n3' y1 y2 y3
  obtain ⟨-, c0, c1, c2, c3, c4, c5⟩ := K.out
  go_enter Try.func10, Try.ntmps10
  go_wp2_with fail
  refine CO.out.mono ?_; rintro e X ⟨rfl, bx⟩
  have RX := hide (R1.out.kept (Kept.of_below (S := fun _ => False) bx) id)
  have BX := hide (B3.out.trans (bx.mono B3.out.size))
  clear bx CO R1 B3 K c0 c1 c2 c3 c4 c5 hW1 hW2 hW3
  obtain ⟨T0, hT0⟩ : ∃ T0, X.setCell ⟨W2.heap.size, 0, none⟩ (.slice none 0 0) = T0 := ⟨_, rfl⟩
  have RT0 := hide (hT0 ▸ RX.out.set 0 (.slice none 0 0) (by omega) : C6 T0 W2.heap.size _)
  have eT0 : X.cell? ⟨W2.heap.size, 0, none⟩ = some (.slice none 0 0) := RX.out.c 0 (by omega)
  have fT0 := RX.out.f 0
  have BT0 := hide (hT0 ▸ BX.out.setCell (p := ⟨W2.heap.size, 0, none⟩) (by have := Y.out; show w.heap.size ≤ W2.heap.size; omega) _ : Below w.heap.size w T0)
  obtain ⟨T1, hT1⟩ : ∃ T1, T0.setCell ⟨W2.heap.size, 1, none⟩ (.slice none 0 0) = T1 := ⟨_, rfl⟩
  have RT1 := hide (hT1 ▸ RT0.out.set 1 (.slice none 0 0) (by omega) : C6 T1 W2.heap.size _)
  have eT1 : T0.cell? ⟨W2.heap.size, 1, none⟩ = some (.slice none 0 0) := RT0.out.c 1 (by omega)
  have fT1 := RT0.out.f 1
  have BT1 := hide (hT1 ▸ BT0.out.setCell (p := ⟨W2.heap.size, 1, none⟩) (by have := Y.out; show w.heap.size ≤ W2.heap.size; omega) _ : Below w.heap.size w T1)
  obtain ⟨T2, hT2⟩ : ∃ T2, T1.setCell ⟨W2.heap.size, 2, none⟩ (.slice none 0 0) = T2 := ⟨_, rfl⟩
  have RT2 := hide (hT2 ▸ RT1.out.set 2 (.slice none 0 0) (by omega) : C6 T2 W2.heap.size _)
  have eT2 : T1.cell? ⟨W2.heap.size, 2, none⟩ = some (.slice none 0 0) := RT1.out.c 2 (by omega)
  have fT2 := RT1.out.f 2
  have BT2 := hide (hT2 ▸ BT1.out.setCell (p := ⟨W2.heap.size, 2, none⟩) (by have := Y.out; show w.heap.size ≤ W2.heap.size; omega) _ : Below w.heap.size w T2)
  obtain ⟨T3, hT3⟩ : ∃ T3, T2.setCell ⟨W2.heap.size, 3, none⟩ (.int .i64 0) = T3 := ⟨_, rfl⟩
  have RT3 := hide (hT3 ▸ RT2.out.set 3 (.int .i64 0) (by omega) : C6 T3 W2.heap.size _)
  have eT3 : T2.cell? ⟨W2.heap.size, 3, none⟩ = some (.int .i64 0) := RT2.out.c 3 (by omega)
  have fT3 := RT2.out.f 3
  have BT3 := hide (hT3 ▸ BT2.out.setCell (p := ⟨W2.heap.size, 3, none⟩) (by have := Y.out; show w.heap.size ≤ W2.heap.size; omega) _ : Below w.heap.size w T3)
  obtain ⟨T4, hT4⟩ : ∃ T4, T3.setCell ⟨W2.heap.size, 4, none⟩ (.int .i64 0) = T4 := ⟨_, rfl⟩
  have RT4 := hide (hT4 ▸ RT3.out.set 4 (.int .i64 0) (by omega) : C6 T4 W2.heap.size _)
  have eT4 : T3.cell? ⟨W2.heap.size, 4, none⟩ = some (.int .i64 0) := RT3.out.c 4 (by omega)
  have fT4 := RT3.out.f 4
  have BT4 := hide (hT4 ▸ BT3.out.setCell (p := ⟨W2.heap.size, 4, none⟩) (by have := Y.out; show w.heap.size ≤ W2.heap.size; omega) _ : Below w.heap.size w T4)
  obtain ⟨T5, hT5⟩ : ∃ T5, T4.setCell ⟨W2.heap.size, 5, none⟩ (.int .i64 0) = T5 := ⟨_, rfl⟩
  have RT5 := hide (hT5 ▸ RT4.out.set 5 (.int .i64 0) (by omega) : C6 T5 W2.heap.size _)
  have eT5 : T4.cell? ⟨W2.heap.size, 5, none⟩ = some (.int .i64 0) := RT4.out.c 5 (by omega)
  have fT5 := RT4.out.f 5
  have BT5 := hide (hT5 ▸ BT4.out.setCell (p := ⟨W2.heap.size, 5, none⟩) (by have := Y.out; show w.heap.size ≤ W2.heap.size; omega) _ : Below w.heap.size w T5)
  have r0 : T5.cell? ⟨W2.heap.size, 0, none⟩ = some (.slice none 0 0) := RT5.out.c 0 (by omega)
  have r1 : T5.cell? ⟨W2.heap.size, 1, none⟩ = some (.slice none 0 0) := RT5.out.c 1 (by omega)
  have r2 : T5.cell? ⟨W2.heap.size, 2, none⟩ = some (.slice none 0 0) := RT5.out.c 2 (by omega)
  have r3 : T5.cell? ⟨W2.heap.size, 3, none⟩ = some (.int .i64 0) := RT5.out.c 3 (by omega)
  have r4 : T5.cell? ⟨W2.heap.size, 4, none⟩ = some (.int .i64 0) := RT5.out.c 4 (by omega)
  have r5 : T5.cell? ⟨W2.heap.size, 5, none⟩ = some (.int .i64 0) := RT5.out.c 5 (by omega)
  go_wp2_with fail
  exact bodyPost_ret (v := .tuple #[ZOpt, .int .i64 0]) (by simp [results, Try.results10, go_sem, r0, r1, r2, r3, r4, r5, ZOpt]) rfl ⟨rfl, BT5.out⟩
/-- a run's answer, whatever it is -/
def RunU (m : Nat) (N : St) (K : Int) (w : World) (e : Ending) (w' : World) : Prop :=
  ∃ (p f q : Option Addr) (c d g : Nat), e = .returned (.tuple #[.agg #[.slice p m c, .slice f m d, .slice q m g, .int .i64 N.c, .int .i64 N.f, .int .i64 N.g], .int .i64 K]) ∧ (OwnL w.heap.size w' p m N.P ∧ OwnL w.heap.size w' f m N.F ∧ OwnL w.heap.size w' q m N.S) ∧ ((∀ k k', Blk p m k → Blk f m k' → k < k') ∧ (∀ k k', Blk f m k → Blk q m k' → k < k')) ∧ Below w.heap.size w w'
def Ends (m : Nat) (X : Nat → Prop) (k : Nat) : Prop := k ≤ m ∧ (∀ t, t < k → ¬ X t) ∧ (k = m ∨ X k)
theorem run_one (m : Nat) (X : Nat → Prop) : ∃ K, ∀ k, Ends m X k → k = K := by
  by_cases h : ∃ K, Ends m X K
  · obtain ⟨K, K1, K2, K3⟩ := h
    refine ⟨K, fun k ⟨k1, k2, k3⟩ => ?_⟩
    rcases Nat.lt_trichotomy k K with q | q | q
    · rcases k3 with k3 | k3
      · omega
      · exact absurd k3 (K2 k q)
    · exact q
    · rcases K3 with K3 | K3
      · omega
      · exact absurd K3 (k2 K q)
  · exact ⟨0, fun k hk => absurd ⟨k, hk⟩ h⟩
theorem RunR.uni {n m K : Nat} {S : Nat → St} {X : Nat → Prop} {w w' : World} {e : Ending} (h : RunR n m S X w e w') (hK : ∀ k, Ends m X k → k = K) : RunU n (S K) (K : Int) w e w' := by
  obtain ⟨k, p, f, s, c, d, g, hk, e1, o, ⟨b1, b2⟩, -, bl⟩ := h
  obtain rfl := hK k hk
  exact ⟨p, f, s, c, d, g, e1, o, ⟨bhd_lt b1, bhd_lt b2⟩, bl⟩
theorem RunR.turn {n m : Nat} {S S' : Nat → St} {X X' : Nat → Prop} {w w' : World} {e : Ending} (h : RunR n m S X w e w') (hS : ∀ k, k ≤ m → S k = S' k) (hX : ∀ k, k < m → (X k ↔ X' k)) : RunR n m S' X' w e w' := by
  obtain ⟨k, p, f, s, c, d, g, ⟨k1, k2, k3⟩, e1, o, bb, ok, bl⟩ := h
  rw [hS k k1] at e1 o ok
  refine ⟨k, p, f, s, c, d, g, ⟨k1, fun t ht q => k2 t ht ((hX t (by omega)).2 q), ?_⟩, e1, o, bb, ok, bl⟩
  rcases k3 with k3 | k3
  · exact .inl k3
  · by_cases c : k = m
    · exact .inl c
    · exact .inr ((hX k (by omega)).1 k3)
theorem sq_same {R : Rl} {n m : Nat} {U : Int → Int} {GG : Int → (Nat → Int) → Nat → Int} {L M : Nat → LV} {st : St} (h : LSame m L M) : ∀ k, k ≤ m → sq R n U GG M st k = sq R n U GG L st k := by
  intro k
  induction k with
  | zero => intro _; rfl
  | succ k ih =>
    intro hk
    show St.next _ _ _ _ _ _ = St.next _ _ _ _ _ _
    rw [ih (by omega), (h k (by omega)).2]
theorem lsum_eq {n : Nat} {L M : Nat → LV} (h : LSame n L M) : ∀ k, k ≤ n → lsum M k = lsum L k := by
  intro k
  induction k with
  | zero => intro _; rfl
  | succ k ih =>
    intro hk
    show lsum M k + (M k).r = lsum L k + (L k).r
    rw [ih (by omega), (h k (by omega)).1]
theorem stp_same {R : Rl} {n m : Nat} {U : Int → Int} {GG : Int → (Nat → Int) → Nat → Int} {L M : Nat → LV} {st : St} (h : LSame m L M) (k : Nat) (hk : k < m) : Stp R n U GG M st k ↔ Stp R n U GG L st k := by
  unfold Stp
  rw [sq_same h k (by omega), (h k hk).1]
theorem ok_bd {n : Nat} {s : St} (h : s.ok n) : bd s.c ∧ bd s.f ∧ bd s.g := by
  obtain ⟨-, -, -, ⟨c0, c1⟩, ⟨g0, g1⟩, -, hf⟩ := h
  have f0 := fac_rng hf
  unfold bd
  omega
def zSt : St := ⟨fun _ => 0, fun _ => 0, fun _ => 0, 0, 0, 0⟩
theorem run_zero {w w' : World} {e : Ending} (h : e = .returned (.tuple #[ZOpt, .int .i64 0]) ∧ Below w.heap.size w w') : RunU 0 zSt 0 w e w' :=
  ⟨none, none, none, 0, 0, 0, h.1, ⟨.inl rfl, .inl rfl, .inl rfl⟩, ⟨fun k k' h => absurd rfl h.1, fun k k' h => absurd rfl h.1⟩, h.2⟩
theorem step_zero {w w' : World} {e : Ending} (h : e = .returned (.tuple #[ZOpt, .bool false]) ∧ Below w.heap.size w w') : StepU 0 zSt false w e w' :=
  ⟨none, none, none, 0, 0, 0, h.1, ⟨.inl rfl, .inl rfl, .inl rfl⟩, ⟨fun k k' h => absurd rfl h.1, fun k k' h => absurd rfl h.1⟩, h.2⟩
set_option maxHeartbeats 1000000 in
/-- a run: one answer of both sides -/
theorem runUni (R : Rl) (n n2 n3 m : Nat) (s : St) (L : Nat → LV) (hRb : R.bds) (hb : bd s.c ∧ bd s.f ∧ bd s.g) (hr1 : (n : Int) ≤ 1048576) (hr2 : (n2 : Int) ≤ 1048576) (hr3 : (n3 : Int) ≤ 1048576) (hm : (m : Int) ≤ 1048576) (hl : LLen m L 1048576) : ∃ (m' : Nat) (N : St) (K : Int), (m' : Int) ≤ 1048576 ∧
    (∀ (cP cF cS cl : Nat) (aP aF aS ls : Option Addr) (M : Nat → LV) (w : World), Ints w.heap.size w aP n s.P → Ints w.heap.size w aF n2 s.F → Ints w.heap.size w aS n3 s.S → (aP = none → n = 0 ∧ cP = 0) → (aF = none → n2 = 0 ∧ cF = 0) → (aS = none → n3 = 0 ∧ cS = 0) → LSame m L M → LL w.heap.size w ls m M →
      Calls Try.prog 10 #[.agg #[.int .i64 R.d, .int .i64 R.r1, .int .i64 R.r2, .int .i64 R.r3, .int .i64 R.r4, .int .i64 R.k, .int .i64 R.z, .int .i64 R.o, .int .i64 R.y, .int .i64 R.mo, .int .i64 R.gr], .agg #[.slice aP n cP, .slice aF n2 cF, .slice aS n3 cS, .int .i64 s.c, .int .i64 s.f, .int .i64 s.g], .slice ls m cl] w (RunU m' N K w)) ∧
    (∀ (cP cF cS cl : Nat) (aP aF aS ls : Option Addr) (M : Nat → LV) (w : World), Ints w.heap.size w aP n s.P → Ints w.heap.size w aF n2 s.F → Ints w.heap.size w aS n3 s.S → (aP = none → n = 0 ∧ cP = 0) → (aF = none → n2 = 0 ∧ cF = 0) → (aS = none → n3 = 0 ∧ cS = 0) → LSame m L M → LL w.heap.size w ls m M →
      Calls Try.prog 8 #[.agg #[.int .i64 R.d, .int .i64 R.r1, .int .i64 R.r2, .int .i64 R.r3, .int .i64 R.r4, .int .i64 R.k, .int .i64 R.z, .int .i64 R.o, .int .i64 R.y, .int .i64 R.mo, .int .i64 R.gr], .agg #[.slice aP n cP, .slice aF n2 cF, .slice aS n3 cS, .int .i64 s.c, .int .i64 s.f, .int .i64 s.g], .slice ls m cl] w (RunU m' N K w)) := by
  cases hy : ook n n2 n3 s.P s.F s.S s.c s.f s.g
  · exact ⟨0, zSt, 0, by decide, fun cP cF cS cl aP aF aS ls M w h1 h2 h3 z1 z2 z3 hs hL => (sRunNo R n n2 n3 m cP cF cS cl s aP aF aS ls w h1 h2 h3 hr1 hr2 hr3 hb hy).mono fun e w' q => run_zero q,
      fun cP cF cS cl aP aF aS ls M w h1 h2 h3 z1 z2 z3 hs hL => (runOptNo R n n2 n3 m cP cF cS cl s aP aF aS ls w h1 h2 h3 hr1 hr2 hr3 hb hy).mono fun e w' q => run_zero q⟩
  have ok : OOk n n2 n3 s.P s.F s.S s.c s.f s.g := of_decide_eq_true hy
  obtain ⟨e2, e3⟩ : n = n2 ∧ n = n3 := by have := ok.2.1; have := ok.2.2.1; omega
  subst e2
  subst e3
  have n4 : (n : Int) ≤ 4096 := ok.1
  cases hR : R.okB
  · refine ⟨n, s, 0, hr1, fun cP cF cS cl aP aF aS ls M w h1 h2 h3 z1 z2 z3 hs hL => ?_, fun cP cF cS cl aP aF aS ls M w h1 h2 h3 z1 z2 z3 hs hL => ?_⟩
    · refine (sRun R n m cP cF cS cl (fun _ => s) (fun _ => True) aP aF aS ls M w h1 h2 h3 hb (fun t _ _ => ok) hL hm (fun t ht _ => ⟨0, zSt, false, fun _ => rfl, fun h => absurd trivial h, fun cP cF cS aP aF aS w h1 h2 h3 hI => (sStepNo R n n n (M t).r cP cF cS (M t).cap s aP aF aS (M t).a w h1 h2 h3 hr1 hr1 hr1 hb hRb (.inl hR)).mono fun e w' q => step_zero q⟩)).mono ?_
      intro e w' q
      exact q.uni (K := 0) (fun k hk => by
        by_cases c : k = 0
        · exact c
        · exact absurd trivial (hk.2.1 0 (by omega)))
    · refine (runOptRule R n m cP cF cS cl s aP aF aS ls w h1 h2 h3 z1 z2 z3 hb hRb ok hR).mono ?_
      rintro e w' ⟨p, f, q, c, d, g, e1, o, ⟨b1, b2⟩, bl⟩
      exact ⟨p, f, q, c, d, g, e1, o, ⟨bhd_lt b1, bhd_lt b2⟩, bl⟩
  obtain ⟨U, hU, hUs⟩ := rateEnv R hRb
  obtain ⟨GG, hG, hGs⟩ := gradEnv R hR hRb n n4
  obtain ⟨K, hK⟩ := run_one m (Stp R n U GG L s)
  refine ⟨n, sq R n U GG L s K, K, hr1, fun cP cF cS cl aP aF aS ls M w h1 h2 h3 z1 z2 z3 hs hL => ?_, fun cP cF cS cl aP aF aS ls M w h1 h2 h3 z1 z2 z3 hs hL => ?_⟩
  · have hok : ∀ t, (∀ u, u < t → ¬ Stp R n U GG M s u) → (sq R n U GG M s t).ok n := by
      intro t
      induction t with
      | zero => intro _; exact ok
      | succ t ih =>
        intro hn
        have ot := ih (fun u hu => hn u (by omega))
        have hc : 0 ≤ (sq R n U GG M s t).c ∧ (sq R n U GG M s t).c ≤ 1000000 := ot.2.2.2.1
        have c1 : (sq R n U GG M s t).c ≠ 1000000 := fun e => hn t (by omega) (.inl e)
        obtain ⟨u0, u1⟩ := (hU _ hc.1 (by omega)).1
        exact St.next_ok ot hR u0 u1 (fun hb => (hG _ _ ot.2.2.2.2.2.2 hb).1) c1
    refine (sRun R n m cP cF cS cl (sq R n U GG M s) (Stp R n U GG M s) aP aF aS ls M w h1 h2 h3 hb (fun t _ hn => hok t hn) hL hm (fun t ht hn => ?_)).mono (fun e w' q => (q.turn (sq_same hs) (stp_same hs)).uni hK)
    have ot := hok t hn
    have hc : 0 ≤ (sq R n U GG M s t).c ∧ (sq R n U GG M s t).c ≤ 1000000 := ot.2.2.2.1
    have hf : fac (sq R n U GG M s t).f = true := ot.2.2.2.2.2.2
    have hra : ((M t).r : Int) ≤ 1048576 := by rw [(hs t ht).1]; exact hl t ht
    by_cases hx : Stp R n U GG M s t
    · exact ⟨0, zSt, false, fun _ => rfl, fun h => absurd hx h, fun cP cF cS aP aF aS w h1 h2 h3 hI => (sStepNo2 R n (M t).r cP cF cS (M t).cap (sq R n U GG M s t) aP aF aS (M t).a w h1 h2 h3 hr1 hra (ok_bd ot) hRb hR (decide_eq_true ot) hx).mono fun e w' q => step_zero q⟩
    · have c1 : (sq R n U GG M s t).c ≠ 1000000 := fun e => hx (.inl e)
      refine ⟨n, sq R n U GG M s (t + 1), true, fun h => absurd h hx, fun _ => ⟨rfl, rfl, rfl⟩, fun cP cF cS aP aF aS w h1 h2 h3 hI => ?_⟩
      have er : n = (M t).r := Classical.byContradiction (fun e => hx (.inr (fun h => e h.symm)))
      refine (specStepYes R n (M t).r cP cF cS (M t).cap (sq R n U GG M s t) aP aF aS (M t).a (M t).D w h1 h2 h3 (nil_ints h1) (nil_ints h2) (nil_ints h3) hra (ok_bd ot) hRb hR ot hI c1 er U GG ⟨(hU _ hc.1 (by omega)).1, hUs _ hc.1 (by omega)⟩ (fun hg => ⟨(hG _ _ hf hg).1, (hGs _ _ hf hg).1, (hGs _ _ hf hg).2⟩)).mono (fun e w' q => q.uni _ _ _ False.elim (fun _ => ⟨rfl, rfl, rfl⟩))
  · exact (runOptYes R n m cP cF cS cl s aP aF aS ls M w h1 h2 h3 z1 z2 z3 hb hRb ok hR hL hm U GG hU hG).mono (fun e w' q => (q.turn (sq_same hs) (stp_same hs)).uni hK)
end Vo
end Go.Proofs.Ytflbhlepmjiejaa

/- Clipped gradients are no longer than told, but for rounding: plain. -/
namespace Go.Proofs.Ytflbhlepmjiejaa
namespace Vo
open Vl
set_option linter.unusedVariables false
/-- sums of products -/
def dsm (A B : Nat → Int) : Nat → Int
  | 0 => 0
  | k + 1 => dsm A B k + A k * B k
theorem dsm_nsum (A : Nat → Int) (k : Nat) : dsm A A k = nsum A k := by
  induction k with
  | zero => rfl
  | succ k ih => show dsm A A k + A k * A k = nsum A k + A k * A k; rw [ih]
theorem sq_nn (x : Int) : 0 ≤ x * x := by
  by_cases c : 0 ≤ x
  · exact Int.mul_nonneg c c
  · have := Int.mul_nonneg (a := -x) (b := -x) (by omega) (by omega); rw [Int.neg_mul_neg] at this; exact this
theorem nsum_nn (A : Nat → Int) (k : Nat) : 0 ≤ nsum A k := by
  induction k with
  | zero => exact Int.le_refl _
  | succ k ih => show 0 ≤ nsum A k + A k * A k; have := sq_nn (A k); omega
/-- of squares: the root's order -/
theorem le_of_sq {x y : Int} (y0 : 0 ≤ y) (h : x * x ≤ y * y) : x ≤ y := by
  by_cases c : x ≤ y
  · exact c
  · have h1 : y * y < x * x := by
      have a1 : y * y ≤ y * x := Int.mul_le_mul_of_nonneg_left (by omega) y0
      have a2 : y * x < x * x := Int.mul_lt_mul_of_pos_right (by omega) (by omega)
      omega
    omega
/-- Cauchy and Schwarz -/
theorem cs (A B : Nat → Int) (k : Nat) : dsm A B k * dsm A B k ≤ nsum A k * nsum B k := by
  induction k with
  | zero => exact Int.le_refl _
  | succ k ih =>
    show (dsm A B k + A k * B k) * (dsm A B k + A k * B k) ≤ (nsum A k + A k * A k) * (nsum B k + B k * B k)
    have s0 := nsum_nn A k
    have q0 := nsum_nn B k
    generalize dsm A B k = C at *
    generalize nsum A k = S at *
    generalize nsum B k = Q at *
    generalize A k = a at *
    generalize B k = b at *
    have a0 := sq_nn a
    have b0 := sq_nn b
    -- 2 C a b ≤ S b² + Q a²
    have y0 : 0 ≤ S * (b * b) + Q * (a * a) := Int.add_nonneg (Int.mul_nonneg s0 b0) (Int.mul_nonneg q0 a0)
    have d := sq_nn (S * (b * b) - Q * (a * a))
    have e1 : (2 * C * (a * b)) * (2 * C * (a * b)) = 4 * (C * C) * ((a * a) * (b * b)) := by grind
    have e2 : (S * (b * b) + Q * (a * a)) * (S * (b * b) + Q * (a * a)) = (S * (b * b) - Q * (a * a)) * (S * (b * b) - Q * (a * a)) + 4 * (S * Q) * ((a * a) * (b * b)) := by grind
    have h1 : (C * C) * ((a * a) * (b * b)) ≤ (S * Q) * ((a * a) * (b * b)) := Int.mul_le_mul_of_nonneg_right ih (Int.mul_nonneg a0 b0)
    have h2 : 2 * C * (a * b) ≤ S * (b * b) + Q * (a * a) := by
      refine le_of_sq y0 ?_
      rw [e1, e2, Int.mul_assoc 4, Int.mul_assoc 4]
      omega
    have e3 : (C + a * b) * (C + a * b) = C * C + 2 * C * (a * b) + (a * a) * (b * b) := by grind
    have e4 : (S + a * a) * (Q + b * b) = S * Q + (S * (b * b) + Q * (a * a)) + (a * a) * (b * b) := by grind
    rw [e3, e4]
    omega
/-- how far off what is rounded is -/
theorem nrv_off {n d : Int} (d0 : 1 ≤ d) : -d ≤ d * nrv n d - n ∧ d * nrv n d - n ≤ d := by
  have e1 := Int.tmod_add_mul_tdiv n d
  have t1 : n.tmod d < d := Int.tmod_lt_of_pos n (by omega)
  have t0 : -d < n.tmod d := by
    have := Int.tmod_lt_of_pos (-n) (show 0 < d by omega)
    rw [Int.neg_tmod] at this
    omega
  unfold nrv Nea.rd
  generalize n.tdiv d = q at *
  generalize n.tmod d = t at *
  have x1 : d * (q + 1) = d * q + d := by rw [Int.mul_add, Int.mul_one]
  have x2 : d * (q - 1 + 1) = d * q := by rw [show q - 1 + 1 = q by omega]
  have x3 : d * (q - 1) = d * q - d := by rw [Int.mul_sub, Int.mul_one]
  split <;> split <;> omega
theorem nsum_le {A : Nat → Int} {K : Int} (h : ∀ j, A j * A j ≤ K) (n : Nat) : nsum A n ≤ K * (n : Int) := by
  induction n with
  | zero => simp [nsum]
  | succ k ih =>
    show nsum A k + A k * A k ≤ K * ((k + 1 : Nat) : Int)
    have e : K * ((k + 1 : Nat) : Int) = K * (k : Int) + K := by rw [Int.natCast_add, Int.mul_add]; simp
    have := h k
    omega
/-- what is clipped is no longer than told, but for rounding -/
theorem clip_len (n : Nat) (S : Nat → Int) (m v R : Int) (m0 : 0 ≤ m) (c : m < v) (hv : IsRt (nsum S n) v) (hR : IsRt (n : Int) R) : nsum (clp S m v) n < (m + R + 2) * (m + R + 2) := by
  obtain ⟨v0, v1, v2⟩ := hv
  obtain ⟨R0, R1, R2⟩ := hR
  have cl : ∀ j, clp S m v j = nrv (S j * m) v := fun j => by unfold clp; rw [if_pos c]
  -- what is left of each
  obtain ⟨E, hE⟩ : ∃ E : Nat → Int, ∀ j, E j = v * clp S m v j - S j * m := ⟨_, fun _ => rfl⟩
  have eb : ∀ j, E j * E j ≤ v * v := fun j => by
    have h := nrv_off (n := S j * m) (d := v) (by omega)
    rw [← cl j] at h
    have h1 : -v ≤ E j ∧ E j ≤ v := by rw [hE j]; omega
    by_cases q : 0 ≤ E j
    · exact sq_le q h1.2
    · have := sq_le (a := -(E j)) (b := v) (by omega) (by omega)
      rw [Int.neg_mul_neg] at this; exact this
  have sums : ∀ k, v * v * nsum (clp S m v) k = m * m * nsum S k + 2 * m * dsm S E k + nsum E k := fun k => by
    induction k with
    | zero => simp [nsum, dsm]
    | succ k ih =>
      show v * v * (nsum (clp S m v) k + clp S m v k * clp S m v k) = m * m * (nsum S k + S k * S k) + 2 * m * (dsm S E k + S k * E k) + (nsum E k + E k * E k)
      have e := hE k
      generalize clp S m v k = x at *
      generalize nsum (clp S m v) k = X at *
      generalize nsum S k = Y at *
      generalize dsm S E k = Z at *
      generalize nsum E k = W at *
      generalize E k = y at *
      generalize S k = s at *
      subst e
      grind
  have qb : nsum E n ≤ v * v * (n : Int) := nsum_le eb n
  have S0 := nsum_nn S n
  have Q0 := nsum_nn E n
  have C1 := cs S E n
  have key := sums n
  generalize nsum (clp S m v) n = X at *
  generalize nsum S n = Y at *
  generalize nsum E n = Q at *
  generalize dsm S E n = C at *
  clear sums eb hE cl
  have vv : 0 ≤ v * v := sq_nn v
  have q1 : Q ≤ (v * (R + 1)) * (v * (R + 1)) := by
    have h1 : v * v * (n : Int) ≤ v * v * ((R + 1) * (R + 1)) := Int.mul_le_mul_of_nonneg_left (by omega) vv
    have h2 : v * v * ((R + 1) * (R + 1)) = (v * (R + 1)) * (v * (R + 1)) := by grind
    omega
  have y1 : Y ≤ (v + 1) * (v + 1) := by omega
  have g0 : 0 ≤ (v + 1) * (v * (R + 1)) := Int.mul_nonneg (by omega) (Int.mul_nonneg (by omega) (by omega))
  have c1 : C ≤ (v + 1) * (v * (R + 1)) := by
    refine le_of_sq g0 ?_
    have h1 : Y * Q ≤ (v + 1) * (v + 1) * ((v * (R + 1)) * (v * (R + 1))) := Int.mul_le_mul y1 q1 Q0 (sq_nn _)
    have h2 : (v + 1) * (v + 1) * ((v * (R + 1)) * (v * (R + 1))) = (v + 1) * (v * (R + 1)) * ((v + 1) * (v * (R + 1))) := by grind
    omega
  have b1 : m * m * Y ≤ m * m * ((v + 1) * (v + 1)) := Int.mul_le_mul_of_nonneg_left y1 (sq_nn m)
  have b2 : 2 * m * C ≤ 2 * m * ((v + 1) * (v * (R + 1))) := Int.mul_le_mul_of_nonneg_left c1 (by omega)
  have t1 : v * v * X ≤ (m * (v + 1) + v * (R + 1)) * (m * (v + 1) + v * (R + 1)) := by
    have h : (m * (v + 1) + v * (R + 1)) * (m * (v + 1) + v * (R + 1)) = m * m * ((v + 1) * (v + 1)) + 2 * m * ((v + 1) * (v * (R + 1))) + (v * (R + 1)) * (v * (R + 1)) := by grind
    omega
  have lt : m * (v + 1) + v * (R + 1) + 1 ≤ v * (m + R + 2) := by
    have h1 : m * (v + 1) = m * v + m := by rw [Int.mul_add, Int.mul_one]
    have h2 : v * (R + 1) = v * R + v := by rw [Int.mul_add, Int.mul_one]
    have h3 : v * (m + R + 2) = m * v + v * R + 2 * v := by grind
    omega
  have p0 : 0 ≤ m * (v + 1) + v * (R + 1) := Int.add_nonneg (Int.mul_nonneg m0 (by omega)) (Int.mul_nonneg (by omega) (by omega))
  have t2 : (m * (v + 1) + v * (R + 1)) * (m * (v + 1) + v * (R + 1)) < v * (m + R + 2) * (v * (m + R + 2)) := by
    generalize m * (v + 1) + v * (R + 1) = a at *
    generalize v * (m + R + 2) = b at *
    have h1 : a * a ≤ a * b := Int.mul_le_mul_of_nonneg_left (by omega) p0
    have h2 : a * b < b * b := Int.mul_lt_mul_of_pos_right (by omega) (by omega)
    omega
  have t3 : v * (m + R + 2) * (v * (m + R + 2)) = v * v * ((m + R + 2) * (m + R + 2)) := by grind
  have t4 : v * v * X < v * v * ((m + R + 2) * (m + R + 2)) := by omega
  exact Int.lt_of_mul_lt_mul_left t4 vv
end Vo
end Go.Proofs.Ytflbhlepmjiejaa

/- Numbers whose root is asked, gradients that are clipped: what a law draws. -/
namespace Go.Proofs.Ytflbhlepmjiejaa
namespace Vo
open Go.ChangeShapes Go.WideShapes Go.ChangeAt Go.RowKit Go.Joins Go.Sort
open Vl
set_option linter.unusedVariables false
set_option linter.unusedSimpArgs false
/-- a gradient and a length were drawn -/
def GCE (w : World) (e : Ending) (w' : World) : Prop :=
  ∃ (b : Option Addr) (k c : Nat) (D : Nat → Int) (m : Int), e = .returned (.tuple #[.slice b k c, .int .i64 m]) ∧ k ≤ 8 ∧ (b = none → k = 0 ∧ c = 0) ∧ OwnL w.heap.size w' b k D ∧ bd m ∧ Below w.heap.size w w'
theorem sameIntsE (B : Nat) (a a' : Option Addr) (n cap cap' : Nat) (D : Nat → Int) (w : World) (h : Ints B w a n D) (h' : Ints B w a' n D) (hn : (n : Int) ≤ 1048576) :
    Calls Try.prog 15 #[.slice a n cap, .slice a' n cap'] w fun e w' => e = .returned (.bool true) ∧ Below w.heap.size w w' := by
  have H := hide h
  have H' := hide h'
  clear h h'
  go_enter Try.func15, Try.ntmps15
  go_wp2_with fail
  go_loopw [5] (fun i wx => ∃ t : Nat, t ≤ n ∧ i = .int .i64 (t : Int) ∧ ∃ k, wx = w.drewN k) (fun i _ => n - (intOf i).toNat)
  case atStart => exact ⟨0, Nat.zero_le _, rfl, 0, rfl⟩
  case round =>
    obtain ⟨t, ht, rfl, k, rfl⟩ := hrel
    by_cases htl : t < n
    · have tI : (t : Int) < n := by omega
      rcases H.out with q | ⟨b, o, rfl, hb, hc⟩
      · omega
      rcases H'.out with q | ⟨b', o', rfl, hb', hc'⟩
      · omega
      have ct := (hc t htl).1
      have ct' := (hc' t htl).1
      clear hc hc'
      generalize D t = x at ct ct'
      go_wp2_with fail
      go_quiet (fail)
      go_wp2_with fail
      go_roundw
      case rel => exact ⟨t + 1, by omega, by go_num, _, rfl⟩
      case measure => simp [intOf]; omega
    · have tI : decide ((t : Int) < (n : Int)) = false := decide_eq_false (by omega)
      have tI' : decide (t < n) = false := decide_eq_false (by omega)
      clear htl
      go_wp2_with fail
      go_ret
      exact ⟨rfl, ⟨rfl, rfl, rfl, Nat.le_refl _, fun _ _ => rfl⟩⟩
/-- a root asked of what lies below a square -/
theorem rt_lt {n v q : Int} (h : IsRt n v) (q0 : 0 ≤ q) (hq : n < (q + 1) * (q + 1)) : v ≤ q := by
  obtain ⟨v0, v1, -⟩ := h
  by_cases c : v ≤ q
  · exact c
  · have a1 : (q + 1) * (q + 1) ≤ (q + 1) * v := Int.mul_le_mul_of_nonneg_left (by omega) (by omega)
    have a2 : (q + 1) * v ≤ v * v := Int.mul_le_mul_of_nonneg_right (by omega) v0
    omega
end Vo
end Go.Proofs.Ytflbhlepmjiejaa

/- A step with a factor, and gradients that many times as great. -/
namespace Go.Proofs.Ytflbhlepmjiejaa
namespace Vo
open Go.ChangeShapes Go.WideShapes Go.ChangeAt Go.RowKit Go.Joins Go.Sort
open Vl
set_option linter.unusedVariables false
set_option linter.unusedSimpArgs false
theorem rd_zero {q d : Int} (d1 : 1 ≤ d) : Nea.rd q 0 d = q := by
  unfold Nea.rd
  rw [if_neg (by rintro (h | ⟨h, _⟩) <;> omega)]
theorem nrv_mul {x f : Int} (f1 : 1 ≤ f) : nrv (x * f) f = x := by
  unfold nrv
  rw [Int.mul_tmod_left, if_neg (by omega), Int.mul_tdiv_cancel _ (by omega)]
  exact rd_zero f1
theorem gr0_mul (G : Nat → Int) {f : Int} (f1 : 1 ≤ f) : gr0 (fun j => G j * f) f = G := by
  funext j
  exact nrv_mul f1
theorem gr0_one (G : Nat → Int) : gr0 G 1 = G := by
  have h := gr0_mul G (f := 1) (by decide)
  rw [show (fun j => G j * 1) = G from funext fun j => Int.mul_one _] at h
  exact h
theorem wrap_is (x : Int) : bd (IntKind.i64.wrap x) := by rw [IntKind.wrap_i64]; unfold bd; omega
theorem cut_rng {n : Nat} {D : Nat → Int} (h : ∀ j, j < n → -128 ≤ D j ∧ D j ≤ 127) (j : Nat) : -128 ≤ (if j < n then D j else 0) ∧ (if j < n then D j else 0) ≤ 127 := by
  by_cases e : j < n
  · rw [if_pos e]; exact h j e
  · rw [if_neg e]; omega
theorem cut_mul {x f : Int} (h : -128 ≤ x ∧ x ≤ 127) (hf : 1 ≤ f ∧ f ≤ 65536) : IntKind.i64.wrap (x * f) = x * f := by
  have f0 : 0 ≤ f := by omega
  have a1 : -128 * f ≤ x * f := Int.mul_le_mul_of_nonneg_right h.1 f0
  have a2 : x * f ≤ 127 * f := Int.mul_le_mul_of_nonneg_right h.2 f0
  exact wid (by omega)
theorem fac_one : fac 1 = true := by decide +kernel
theorem atSeven (a : Option Addr) (len cap : Nat) (i : Nat) (B : Nat) (w : World) (hc : Base.Code B w a len) (hi : i < 7) :
    Calls Try.prog 9 #[.slice a len cap, .int .i64 (i : Int)] w fun e w' => ∃ z, 0 ≤ z ∧ z ≤ 255 ∧ e = .returned (.int .i64 z) ∧ w' = w := by
  obtain ⟨l0, hc⟩ := hc
  have l1 : (len : Int) ≤ 9223372036854775807 := by omega
  have hi' : (i : Int) < 7 := by omega
  by_cases c : i < len
  · rcases hc with h0 | ⟨b, off, rfl, hB, hcell⟩
    · omega
    · obtain ⟨z, hz, z0, z1⟩ := hcell i c
      have c1 : (i : Int) < (len : Int) := by omega
      clear hcell hB l0
      go_enter Try.func9, Try.ntmps9
      go_wp2
      go_ret
      exact ⟨z, z0, z1, rfl, rfl⟩
  · have c1 : decide ((i : Int) < (len : Int)) = false := decide_eq_false (by omega)
    have hmod : Int.tmod ((i : Int) * 37) 251 = (i : Int) * 37 % 251 := Int.tmod_eq_emod_of_nonneg (by omega)
    have c2 : decide (i < len) = false := decide_eq_false c
    have c3 : len ≤ i := by omega
    clear hc
    go_enter Try.func9, Try.ntmps9
    go_wp2
    go_ret
    exact ⟨(i : Int) * 37 % 251, by omega, by omega, by first | rfl | exact Nea.ret_int (by omega), rfl⟩
/-- what gradients become hangs on the numbers behind the factor alone -/
theorem gradEnv2 (R : Rl) (hR : R.ok) (hb : R.bds) (n : Nat) (n4 : (n : Int) ≤ 4096) : ∃ CL : (Nat → Int) → Nat → Int,
    (∀ f Gr, fac f = true → ib (-16777216) 16777216 n Gr = true → (∀ j, j < n → -16777216 ≤ CL (gr0 Gr f) j ∧ CL (gr0 Gr f) j ≤ 16777216) ∧ ∀ w a cap, Ints w.heap.size w a n Gr → Calls Try.prog 65 #[.agg #[.int .i64 R.d, .int .i64 R.r1, .int .i64 R.r2, .int .i64 R.r3, .int .i64 R.r4, .int .i64 R.k, .int .i64 R.z, .int .i64 R.o, .int .i64 R.y, .int .i64 R.mo, .int .i64 R.gr], .slice a n cap, .int .i64 f] w (ListR n (CL (gr0 Gr f)) w)) ∧
    (∀ f Gr, fac f = true → ib (-16777216) 16777216 n Gr = true → (R.mo ≤ 0 → CL (gr0 Gr f) = gr0 Gr f) ∧ (0 < R.mo → ∀ B w a cap, B ≤ w.heap.size → Ints B w a n (gr0 Gr f) → Calls Try.prog 34 #[.slice a n cap, .int .i64 R.mo] w (ListR n (CL (gr0 Gr f)) w))) := by
  have hmo := (rul_of hR).2.2.2.2.2.2.1
  have hS : ∀ (Gr : Nat → Int), ib (-16777216) 16777216 n Gr = true → ∀ j, j < n → -16777216 ≤ Gr j ∧ Gr j ≤ 16777216 := fun Gr hg j hj => of_decide_eq_true hg j hj
  by_cases c : 0 < R.mo
  · have key : ∀ S : Nat → Int, ∃ G : Nat → Int, grd n S = true → grd n G = true ∧
        (∀ B w a cap, B ≤ w.heap.size → Ints B w a n S → Calls Try.prog 34 #[.slice a n cap, .int .i64 R.mo] w (ListR n G w)) ∧
        (∀ B w a cap, B ≤ w.heap.size → (a = none → n = 0 ∧ cap = 0) → Ints B w a n S → Calls Try.prog 71 #[.slice a n cap, .int .i64 R.mo] w (ListR n G w)) := fun S => by
      cases g : grd n S
      · exact ⟨fun _ => 0, fun h => by cases h⟩
      · obtain ⟨n', G, -, h2, hs, hi⟩ := clipBoth n S R.mo (by omega) hb.2.2.2.2.2.1
        obtain ⟨e, hG⟩ := h2 g ⟨by omega, by omega⟩
        subst e
        exact ⟨G, fun _ => ⟨hG, hs, hi⟩⟩
    obtain ⟨CL, hCL⟩ := Classical.skolem.1 key
    refine ⟨CL, fun f Gr hf hg => ?_, fun f Gr hf hg => ⟨fun q => by omega, fun _ => ?_⟩⟩
    · obtain ⟨f0, f1⟩ := fac_rng hf
      obtain ⟨h1, h2, h3⟩ := hCL (gr0 Gr f) (grd_mk (fun j hj => gr0_rng hf hg j hj) n4)
      exact ⟨(grd_of h1).1, fun w a cap hI => gradF R.d R.r1 R.r2 R.r3 R.r4 R.k R.z R.o R.y R.mo R.gr a _ cap Gr _ f w hI n4 (hS Gr hg) f0 f1 (.inr ⟨c, fun B w a cap hB hn h => h3 B w a cap hB hn h⟩)⟩
    · exact (hCL (gr0 Gr f) (grd_mk (fun j hj => gr0_rng hf hg j hj) n4)).2.1
  · refine ⟨fun S => S, fun f Gr hf hg => ?_, fun f Gr hf hg => ⟨fun _ => rfl, fun q => absurd q c⟩⟩
    obtain ⟨f0, f1⟩ := fac_rng hf
    exact ⟨fun j hj => gr0_rng hf hg j hj, fun w a cap hI => gradF R.d R.r1 R.r2 R.r3 R.r4 R.k R.z R.o R.y R.mo R.gr a _ cap Gr _ f w hI n4 (hS Gr hg) f0 f1 (.inl ⟨by omega, rfl⟩)⟩
/-- the model steps -/
def SC1 (R : Rl) (n n2 n3 r : Nat) (s : St) (Gr : Nat → Int) (post : World → Ending → World → Prop) : Prop := ∀ (cP cF cS cl : Nat) (aP aF aS a : Option Addr) (w : World), Ints w.heap.size w aP n s.P → Ints w.heap.size w aF n2 s.F → Ints w.heap.size w aS n3 s.S → (aP = none → n = 0 ∧ cP = 0) → (aF = none → n2 = 0 ∧ cF = 0) → (aS = none → n3 = 0 ∧ cS = 0) → Ints w.heap.size w a r Gr →
      Calls Try.prog 14 #[.agg #[.int .i64 R.d, .int .i64 R.r1, .int .i64 R.r2, .int .i64 R.r3, .int .i64 R.r4, .int .i64 R.k, .int .i64 R.z, .int .i64 R.o, .int .i64 R.y, .int .i64 R.mo, .int .i64 R.gr], .agg #[.slice aP n cP, .slice aF n2 cF, .slice aS n3 cS, .int .i64 s.c, .int .i64 s.f, .int .i64 s.g], .slice a r cl] w (post w)
/-- the program steps -/
def IC1 (R : Rl) (n n2 n3 r : Nat) (s : St) (Gr : Nat → Int) (post : World → Ending → World → Prop) : Prop := ∀ (cP cF cS cl : Nat) (aP aF aS a : Option Addr) (w : World), Ints w.heap.size w aP n s.P → Ints w.heap.size w aF n2 s.F → Ints w.heap.size w aS n3 s.S → (aP = none → n = 0 ∧ cP = 0) → (aF = none → n2 = 0 ∧ cF = 0) → (aS = none → n3 = 0 ∧ cS = 0) → Ints w.heap.size w a r Gr →
      Calls Try.prog 13 #[.agg #[.int .i64 R.d, .int .i64 R.r1, .int .i64 R.r2, .int .i64 R.r3, .int .i64 R.r4, .int .i64 R.k, .int .i64 R.z, .int .i64 R.o, .int .i64 R.y, .int .i64 R.mo, .int .i64 R.gr], .agg #[.slice aP n cP, .slice aF n2 cF, .slice aS n3 cS, .int .i64 s.c, .int .i64 s.f, .int .i64 s.g], .slice a r cl] w (post w)
theorem StepR.yes {n : Nat} {no : Prop} {S : St} {w w' : World} {e : Ending} (h : StepR n no S w e w') (hn : ¬ no) : StepU n S true w e w' := h.uni n S true (fun q => absurd q hn) (fun _ => ⟨rfl, rfl, rfl⟩)
theorem StepR.nay {n : Nat} {no : Prop} {S : St} {w w' : World} {e : Ending} (h : StepR n no S w e w') (hn : no) : e = .returned (.tuple #[ZOpt, .bool false]) ∧ Below w.heap.size w w' := by
  rcases h with ⟨_, h⟩ | ⟨h, _⟩
  · exact h
  · exact absurd hn h
set_option maxHeartbeats 1000000 in
theorem stepFac (R : Rl) (n n2 n3 : Nat) (s : St) (hRb : R.bds) (hb : bd s.c ∧ bd s.f ∧ bd s.g) (hr1 : (n : Int) ≤ 1048576) (hr2 : (n2 : Int) ≤ 1048576) (hr3 : (n3 : Int) ≤ 1048576) :
    (∀ H, SC1 R n n2 n3 n s H (fun w e w' => e = .returned (.tuple #[ZOpt, .bool false]) ∧ Below w.heap.size w w') ∧ IC1 R n n2 n3 n s H (fun w e w' => e = .returned (.tuple #[ZOpt, .bool false]) ∧ Below w.heap.size w w')) ∨
    (n2 = n ∧ n3 = n ∧ (1 ≤ s.f ∧ s.f ≤ 65536) ∧ ∀ G : Nat → Int, (∀ j, -128 ≤ G j ∧ G j ≤ 127) → ∃ A B : St, (∀ j, A.P j = B.P j ∧ A.F j = B.F j ∧ A.S j = B.S j) ∧ SC1 R n n2 n3 n s (fun j => G j * s.f) (StepU n A true) ∧ IC1 R n n2 n3 n s (fun j => G j * s.f) (StepU n A true) ∧ IC1 R n n2 n3 n ⟨s.P, s.F, s.S, s.c, 1, s.g⟩ G (StepU n B true)) := by
  by_cases hy : R.okB = true ∧ ook n n2 n3 s.P s.F s.S s.c s.f s.g = true
  · obtain ⟨hR, hs⟩ := hy
    have ok : OOk n n2 n3 s.P s.F s.S s.c s.f s.g := of_decide_eq_true hs
    obtain ⟨e2, e3⟩ : n = n2 ∧ n = n3 := by have := ok.2.1; have := ok.2.2.1; omega
    subst e2
    subst e3
    have n4 : (n : Int) ≤ 4096 := ok.1
    obtain ⟨U, hU, hUs⟩ := rateEnv R hRb
    obtain ⟨CL, hG, hGs⟩ := gradEnv2 R hR hRb n n4
    have hc : 0 ≤ s.c ∧ s.c ≤ 1000000 := ok.2.2.2.1
    have hf : fac s.f = true := ok.2.2.2.2.2.2
    have fr := fac_rng hf
    by_cases c1 : s.c = 1000000
    · refine .inl fun H => ⟨fun cP cF cS cl aP aF aS a w h1 h2 h3 z1 z2 z3 hI => sStepNo2 R n n cP cF cS cl s aP aF aS a w h1 h2 h3 hr1 hr1 hb hRb hR hs (.inl c1), fun cP cF cS cl aP aF aS a w h1 h2 h3 z1 z2 z3 hI => ?_⟩
      exact (stepOptYes R n n cP cF cS cl s aP aF aS a H w h1 h2 h3 z1 z2 z3 hb hRb ok hR hI hr1 U (fun f Gr => CL (gr0 Gr f)) hU hG).mono fun e w' q => q.nay (.inl c1)
    · refine .inr ⟨rfl, rfl, fr, fun G hGb => ?_⟩
      have ok1 : (⟨s.P, s.F, s.S, s.c, 1, s.g⟩ : St).ok n := ⟨ok.1, ok.2.1, ok.2.2.1, ok.2.2.2.1, ok.2.2.2.2.1, ok.2.2.2.2.2.1, fac_one⟩
      have gH : ib (-16777216) 16777216 n (fun j => G j * s.f) = true := decide_eq_true fun j hj => by
        have := hGb j
        have f0 : 0 ≤ s.f := by omega
        have a1 : -128 * s.f ≤ G j * s.f := Int.mul_le_mul_of_nonneg_right this.1 f0
        have a2 : G j * s.f ≤ 127 * s.f := Int.mul_le_mul_of_nonneg_right this.2 f0
        show -16777216 ≤ G j * s.f ∧ G j * s.f ≤ 16777216
        omega
      have gG : ib (-16777216) 16777216 n G = true := decide_eq_true fun j hj => by have := hGb j; omega
      have no1 : ¬ (s.c = 1000000 ∨ n ≠ n) := fun q => by rcases q with q | q; exact c1 q; exact q rfl
      have eG : CL (gr0 (fun j => G j * s.f) s.f) = CL (gr0 G 1) := by rw [gr0_mul G fr.1, gr0_one]
      refine ⟨s.next R n (U s.c) (CL (gr0 (fun j => G j * s.f) s.f)) (fun j => G j * s.f), St.next R n (U s.c) (CL (gr0 G 1)) G ⟨s.P, s.F, s.S, s.c, 1, s.g⟩, fun j => ?_, fun cP cF cS cl aP aF aS a w h1 h2 h3 z1 z2 z3 hI => ?_, fun cP cF cS cl aP aF aS a w h1 h2 h3 z1 z2 z3 hI => ?_, fun cP cF cS cl aP aF aS a w h1 h2 h3 z1 z2 z3 hI => ?_⟩
      · unfold St.next
        rw [if_pos gH, if_pos gG, eG]
        exact ⟨rfl, rfl, rfl⟩
      · refine (specStepYes R n n cP cF cS cl s aP aF aS a _ w h1 h2 h3 (nil_ints h1) (nil_ints h2) (nil_ints h3) hr1 hb hRb hR ok hI c1 rfl U (fun f Gr => CL (gr0 Gr f)) ⟨(hU s.c hc.1 (by omega)).1, hUs s.c hc.1 (by omega)⟩ (fun hg => ⟨(hG s.f _ hf hg).1, (hGs s.f _ hf hg).1, (hGs s.f _ hf hg).2⟩)).mono ?_
        exact fun e w' q => q.yes id
      · exact (stepOptYes R n n cP cF cS cl s aP aF aS a _ w h1 h2 h3 z1 z2 z3 hb hRb ok hR hI hr1 U (fun f Gr => CL (gr0 Gr f)) hU hG).mono fun e w' q => q.yes no1
      · exact (stepOptYes R n n cP cF cS cl ⟨s.P, s.F, s.S, s.c, 1, s.g⟩ aP aF aS a G w h1 h2 h3 z1 z2 z3 ⟨hb.1, (show bd 1 from ⟨by decide, by decide⟩), hb.2.2⟩ hRb ok1 hR hI hr1 U (fun f Gr => CL (gr0 Gr f)) hU hG).mono fun e w' q => q.yes no1
  · have hno : R.okB = false ∨ ook n n2 n3 s.P s.F s.S s.c s.f s.g = false := by
      cases e : R.okB
      · exact .inl rfl
      · cases e' : ook n n2 n3 s.P s.F s.S s.c s.f s.g
        · exact .inr rfl
        · exact absurd ⟨e, e'⟩ hy
    exact .inl fun H => ⟨fun cP cF cS cl aP aF aS a w h1 h2 h3 z1 z2 z3 hI => sStepNo R n n2 n3 n cP cF cS cl s aP aF aS a w h1 h2 h3 hr1 hr2 hr3 hb hRb hno, fun cP cF cS cl aP aF aS a w h1 h2 h3 z1 z2 z3 hI => stepOptNo R n n2 n3 n cP cF cS cl s aP aF aS a w h1 h2 h3 hr1 hr2 hr3 hb hRb hno⟩
end Vo
end Go.Proofs.Ytflbhlepmjiejaa

/- What the laws on steps hold on their way (written by tools/genfac.py). -/
namespace Go.Proofs.Ytflbhlepmjiejaa
namespace Vo
open Go.ChangeShapes Go.WideShapes Go.ChangeAt Go.RowKit Go.Joins Go.Sort
open Vl
set_option linter.unusedVariables false
set_option linter.unusedSimpArgs false
/-- a rule and a state in variables, its lists behind neither -/
structure FS (w : World) (br bo : Nat) (R : Rl) (a0 a1 a2 : Option Addr) (n0 c0 n1 c1 n2 c2 : Nat) (D0 D1 D2 : Nat → Int) (c f g : Int) (X : World) : Prop where
  b : Below w.heap.size w X
  hr : ∀ i, i < 11 → X.cell? ⟨br, i, none⟩ = some (RVf R i)
  ho : BoxV6 X bo (.slice a0 n0 c0) (.slice a1 n1 c1) (.slice a2 n2 c2) (.int .i64 c) (.int .i64 f) (.int .i64 g)
  fo : ∀ i, X.frozen? ⟨bo, i, none⟩ = false
  l0 : Ints br X a0 n0 D0
  l1 : Ints br X a1 n1 D1
  l2 : Ints br X a2 n2 D2
  z : w.heap.size ≤ br ∧ br < bo ∧ bo < X.heap.size
section
variable {w X X' : World} {br bo : Nat} {R : Rl} {a0 a1 a2 : Option Addr} {n0 c0 n1 c1 n2 c2 : Nat} {D0 D1 D2 : Nat → Int} {c f g : Int}
theorem FS.below (h : FS w br bo R a0 a1 a2 n0 c0 n1 c1 n2 c2 D0 D1 D2 c f g X) (b : Below X.heap.size X X') : FS w br bo R a0 a1 a2 n0 c0 n1 c1 n2 c2 D0 D1 D2 c f g X' := by
  obtain ⟨z0, z1, z2⟩ := h.z
  have bb := b.mono (show br ≤ X.heap.size by omega)
  exact ⟨h.b.trans (b.mono h.b.size), fun i hi => (b.cell (p := ⟨br, i, none⟩) (by show br < _; omega)).trans (h.hr i hi), h.ho.below b, fun i => (b.frozen (p := ⟨bo, i, none⟩) z2).trans (h.fo i), h.l0.below bb, h.l1.below bb, h.l2.below bb, z0, z1, Nat.lt_of_lt_of_le z2 b.size⟩
theorem FS.factor (h : FS w br bo R a0 a1 a2 n0 c0 n1 c1 n2 c2 D0 D1 D2 c f g X) (x : Int) : FS w br bo R a0 a1 a2 n0 c0 n1 c1 n2 c2 D0 D1 D2 c x g (X.setCell ⟨bo, 4, none⟩ (.int .i64 x)) := by
  obtain ⟨z0, z1, z2⟩ := h.z
  obtain ⟨hp, h0, h1, h2, h3, h4, h5⟩ := h.ho
  have bb : Below br X (X.setCell ⟨bo, 4, none⟩ (.int .i64 x)) := (Below.refl br X).setCell (by show br ≤ bo; omega) _
  have oth : ∀ i, i ≠ 4 → (X.setCell ⟨bo, 4, none⟩ (.int .i64 x)).cell? ⟨bo, i, none⟩ = X.cell? ⟨bo, i, none⟩ := fun i hi => World.cell?_setCell_other _ _ _ _ (by intro e; injection e with _ e; exact hi e.symm)
  exact ⟨h.b.trans (bb.mono z0), fun i hi => (World.cell?_setCell_other _ _ _ _ (by intro e; injection e with e; omega)).trans (h.hr i hi), ⟨by simpa [World.setCell] using hp, (oth 0 (by omega)).trans h0, (oth 1 (by omega)).trans h1, (oth 2 (by omega)).trans h2, (oth 3 (by omega)).trans h3, World.cell?_setCell_same _ _ _ h4, (oth 5 (by omega)).trans h5⟩,
    fun i => by rw [World.frozen?_setCell]; exact h.fo i, h.l0.below bb, h.l1.below bb, h.l2.below bb, z0, z1, by simpa [World.setCell] using z2⟩
end
/-- two lists that grow -/
structure G2 (B : Nat) (U X : World) (vg vh : Value) (m k : Nat) (D H : Nat → Int) : Prop where
  b : Below B U X
  g : RowV B X vg m D
  h : RowV B X vh k H
  n : ∀ q, vg.ownBlock = some q → vh.ownBlock ≠ some q
section
variable {B : Nat} {U X w3 : World} {vg vh : Value} {m k : Nat} {D H : Nat → Int} {z : Int}
theorem own_alc {v : Value} {r : Nat} (h : RowV B X v r D) (o : Obj) : RowV B (X.alloc o) v r D := ⟨h.1.alloc _, h.2⟩
theorem G2.pushG {g' c' : Nat} (q : G2 B U X vg vh m k D H) (hB : B ≤ U.heap.size) (hz : bd z) (own : w3.ownsRow B 3 1 (.slice (some ⟨g', 0, none⟩) (m + 1) c') (m + 1) (ints m D ++ [.int .i64 z])) (grow : (X.alloc (.cells #[.int .i64 z] 3)).grownBy w3 vg.ownBlock) (hat : vg.ownBlock = some g' ∨ g' = X.heap.size + 1) : G2 B U w3 (.slice (some ⟨g', 0, none⟩) (m + 1) c') vh (m + 1) k (upI D m z) H := by
  have bX := q.b.size
  refine ⟨(q.b.alloc (by omega) _).grown grow (by simp; omega) (fun k hk => (own_lt q.g k hk).1), ⟨by rw [← ints_up]; exact own, bd_up q.g.2 hz⟩, own_grown (own_alc q.h _) grow (fun k hk => q.n k hk), fun b hb e => ?_⟩
  have hb : g' = b := Option.some.inj hb
  subst hb
  rcases hat with h | h
  · exact q.n _ h e
  · have := (own_lt q.h _ e).2; omega
theorem G2.pushH {g' c' : Nat} (q : G2 B U X vg vh m k D H) (hB : B ≤ U.heap.size) (hz : bd z) (own : w3.ownsRow B 3 1 (.slice (some ⟨g', 0, none⟩) (k + 1) c') (k + 1) (ints k H ++ [.int .i64 z])) (grow : (X.alloc (.cells #[.int .i64 z] 3)).grownBy w3 vh.ownBlock) (hat : vh.ownBlock = some g' ∨ g' = X.heap.size + 1) : G2 B U w3 vg (.slice (some ⟨g', 0, none⟩) (k + 1) c') m (k + 1) D (upI H k z) := by
  have bX := q.b.size
  refine ⟨(q.b.alloc (by omega) _).grown grow (by simp; omega) (fun k hk => (own_lt q.h k hk).1), own_grown (own_alc q.g _) grow (fun b hb e => q.n b e hb), ⟨by rw [← ints_up]; exact own, bd_up q.h.2 hz⟩, fun b hb e => ?_⟩
  have e : g' = b := Option.some.inj e
  subst e
  rcases hat with h | h
  · exact q.n _ hb h
  · have := (own_lt q.g _ hb).2; omega
theorem G2.new (U : World) : G2 U.heap.size U ((U.alloc (.cells #[] 3)).alloc (.cells #[] 3)) (.slice (some ⟨U.heap.size, 0, none⟩) 0 0) (.slice (some ⟨U.heap.size + 1, 0, none⟩) 0 0) 0 0 (fun _ => 0) (fun _ => 0) := by
  refine ⟨((Below.refl _ _).alloc (Nat.le_refl _) _).alloc (by simp) _, own_alc ⟨⟨rfl, .inr ⟨U.heap.size, 0, #[], rfl, Nat.le_refl _, heap_alloc_new U _, Nat.le_refl _, by simp [maxLen], rfl, rfl⟩⟩, fun j hj => by omega⟩ _, ⟨⟨rfl, .inr ⟨U.heap.size + 1, 0, #[], rfl, by omega, ?_, Nat.le_refl _, by simp [maxLen], rfl, rfl⟩⟩, fun j hj => by omega⟩, fun q h e => ?_⟩
  · have := heap_alloc_new (U.alloc (.cells #[] 3)) (.cells #[] 3)
    simpa using this
  · have h : U.heap.size = q := Option.some.inj h
    have e : U.heap.size + 1 = q := Option.some.inj e
    omega
end
theorem boxV6_kept {S : Nat → Prop} {w w' : World} {p : Nat} {v0 v1 v2 v3 v4 v5 : Value} (h : BoxV6 w p v0 v1 v2 v3 v4 v5) (k : Kept S w w') (hp : ¬ S p) : BoxV6 w' p v0 v1 v2 v3 v4 v5 := by
  obtain ⟨hz, h0, h1, h2, h3, h4, h5⟩ := h
  have cl : ∀ i, w'.cell? ⟨p, i, none⟩ = w.cell? ⟨p, i, none⟩ := fun i => World.cell?_of_block (w := w) (a := ⟨p, i, none⟩) (k.block p hz hp)
  exact ⟨Nat.lt_of_lt_of_le hz k.size, (cl 0).trans h0, (cl 1).trans h1, (cl 2).trans h2, (cl 3).trans h3, (cl 4).trans h4, (cl 5).trans h5⟩
theorem ook_zero (f : Int) (hf : fac f = true) : ook 0 0 0 (fun _ => 0) (fun _ => 0) (fun _ => 0) 0 f 0 = true := decide_eq_true ⟨by decide, rfl, rfl, ⟨by decide, by decide⟩, ⟨by decide, by decide⟩, fun j hj => absurd hj (by omega), hf⟩
theorem fac_two : fac 2 = true := by decide +kernel
end Vo
end Go.Proofs.Ytflbhlepmjiejaa
