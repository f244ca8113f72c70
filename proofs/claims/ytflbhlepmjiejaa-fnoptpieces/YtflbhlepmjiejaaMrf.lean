/- Lemmas for the proof of the law. -/
import Derived.Test.YtflbhlepmjiejaaMrb
import Derived.Test.YtflbhlepmjiejaaMre
import Derived.Test.YtflbhlepmjiejaaOm
import Derived.Deep.AppendLies
import Derived.Test.YtflbhlepmjiejaaMra
import Derived.Test.YtflbhlepmjiejaaRhc
import Derived.Test.YtflbhlepmjiejaaEi
import Derived.Test.YtflbhlepmjiejaaEv
/- States that a law draws (written by tools/genbd.py). -/
namespace Go.Proofs.Ytflbhlepmjiejaa
namespace Vo
open Go.ChangeShapes Go.WideShapes Go.ChangeAt Go.RowKit Go.Joins Go.Sort
open Vl
set_option linter.unusedVariables false
set_option linter.unusedSimpArgs false
section
variable {o : Oper} {A : Act} {w : World} {x y : Operand}
theorem runBS1 {z : Int} (ho : o.op = .buildSlice 28 1 #[(0, x)]) (hx : A.eval x = .int .i64 z) : (execOp A.eval o).run Try.prog w = .ok (.value (.slice (some ⟨w.heap.size, 0, none⟩) 1 1)) (w.alloc (.cells #[.int .i64 z] 3)) := by
  unfold execOp
  rw [ho]
  simp only [List.map_toArray, List.map_cons, List.map_nil, hx]
  go_simp
theorem runSubC {z c q : Int} (ho : o.op = .binOp .sub 3 x (.const (.int .i64 c)) 3) (hx : A.eval x = .int .i64 z) (hq : IntKind.i64.wrap (z - c) = q) : (execOp A.eval o).run Try.prog w = .ok (.value (.int .i64 q)) w := by
  unfold execOp
  rw [ho]
  simp only [hx]
  go_simp
/-- a number is put behind a list that is one's own -/
theorem lands_app {K : Value → World → Prop} (ho : o.op = .call { callee := .builtin .append, args := #[x, y], argTypes := #[28, 28] }) {base k g : Nat} {v : Value} {D : Nat → Int} {z : Int} (hx : A.eval x = v) (hv : RowV base w v k D) (hy : A.eval y = .slice (some ⟨g, 0, none⟩) 1 1) (hg : w.heap[g]? = some (.cells #[.int .i64 z] 3 (0, 0))) (hz : bd z) (hk : k ≤ 4096) (hb : base ≤ w.heap.size)
    (h : ∀ g' c w', RowV base w' (.slice (some ⟨g', 0, none⟩) (k + 1) c) (k + 1) (upI D k z) → w.grownBy w' v.ownBlock → (v.ownBlock = some g' ∨ g' = w.heap.size) → K (.slice (some ⟨g', 0, none⟩) (k + 1) c) w') : Qf.lands Try.prog o A w K := by
  obtain ⟨i0, hi0, hz0, hz1, hz2⟩ := info_parts infoInt
  obtain ⟨g', c, w', hr, h2, h3, h4, h5⟩ := run_append_lies (P := Try.prog) w 28 o.type base 3 i0 _ 1 8 Try.underlying28 hi0 hz0 hz1 hz2 rfl (by decide) v k (ints k D) hv.1 ⟨g, 0, none⟩ 1 1 [.int .i64 z] (by rfl) (World.news_of_block (cs := #[.int .i64 z]) (t := 3) (fr := (0, 0)) hg) (by simp [Value.oneCell']) (by decide) (by unfold maxLen; omega) (by omega) hb _ rfl
  rw [ints_up] at h2
  unfold Qf.lands execOp
  simp only [ho, resolve, invoke, builtin, Sem.run_bind, Sem.run_pure, Result.andThen_ok, List.map_toArray, List.map_cons, List.map_nil, hx, hy, hr]
  exact h g' c w' ⟨h2, bd_up hv.2 hz⟩ h3 h4
end
theorem own_grown {B r : Nat} {w w' : World} {b : Option Nat} {v : Value} {D : Nat → Int} (h : RowV B w v r D) (g : w.grownBy w' b) (hb : ∀ k, b = some k → v.ownBlock ≠ some k) : RowV B w' v r D := by
  refine ⟨h.1.kept g ?_, h.2⟩
  cases hv : v.ownBlock with
  | none => exact .inl rfl
  | some k => exact .inr (fun e => hb k e.symm hv)
theorem heap_lt {w : World} {q : Nat} {o : Obj} (h : w.heap[q]? = some o) : q < w.heap.size := (Array.getElem?_eq_some_iff.1 h).1
theorem own_lt {B r : Nat} {w : World} {v : Value} {D : Nat → Int} (h : RowV B w v r D) : ∀ k, v.ownBlock = some k → B ≤ k ∧ k < w.heap.size := h.1.lt
theorem own_celA {B r q i : Nat} {w : World} {v u : Value} {D : Nat → Int} (h : RowV B w v r D) (hq : q < B) : RowV B (w.setCell ⟨q, i, none⟩ u) v r D := ⟨ownsRow_setCell_below h.1 (a := ⟨q, i, none⟩) hq u, h.2⟩
theorem cur_belA {B p : Nat} {a : Option Addr} {len cap : Nat} {w w' : World} (h : Base.Cur B w p a len cap) (b : Below w.heap.size w w') : Base.Cur B w' p a len cap := by
  have hl := h.lt
  obtain ⟨hp, hcode, c0, ⟨i, g, c1, c2, q⟩, f1, f2⟩ := h
  refine ⟨hp, hcode.below (b.mono (by omega)), ?_, ⟨i, g, ?_, ?_, q⟩, ?_, ?_⟩
  · rw [b.cell (p := ⟨p, 0, none⟩) hl]; exact c0
  · rw [b.cell (p := ⟨p, 1, none⟩) hl]; exact c1
  · rw [b.cell (p := ⟨p, 2, none⟩) hl]; exact c2
  · rw [b.frozen (p := ⟨p, 1, none⟩) hl]; exact f1
  · rw [b.frozen (p := ⟨p, 2, none⟩) hl]; exact f2
def OW (v0 v1 v2 : Value) (c f g : Int) (i : Nat) : Value := #[v0, v1, v2, .int .i64 c, .int .i64 f, .int .i64 g].getD i undef
def Z6 (i : Nat) : Value := #[Value.slice none 0 0, .slice none 0 0, .slice none 0 0, .int .i64 0, .int .i64 0, .int .i64 0].getD i undef
theorem DS.far {n : Nat} {w X X' : World} {B p : Nat} {a : Option Addr} {len cap vb : Nat} {V R : Nat → Value} {b : Option Nat} (h : DS n w X B p a len cap vb V R) (hB : B ≤ w.heap.size) (g : X.grownBy X' b) (hb : ∀ k, b = some k → vb < k) : DS n w X' B p a len cap vb V R := by
  have pw := h.pw
  have wV := h.wV
  have VX := h.VX
  have ne : ∀ q, q ≤ vb → q < X.heap.size → X'.heap[q]? = X.heap[q]? := fun q h1 h2 => g.block q h2 (fun e => by have := hb q e.symm; omega)
  have cl : ∀ q i, q ≤ vb → q < X.heap.size → X'.cell? ⟨q, i, none⟩ = X.cell? ⟨q, i, none⟩ := fun q i h1 h2 => World.cell?_of_block (w := X) (a := ⟨q, i, none⟩) (ne q h1 h2)
  have fz : ∀ q i, q ≤ vb → q < X.heap.size → X'.frozen? ⟨q, i, none⟩ = X.frozen? ⟨q, i, none⟩ := fun q i h1 h2 => World.frozen?_of_block (w := X) (a := ⟨q, i, none⟩) (ne q h1 h2)
  have kk : Kept (fun k => b = some k) X X' := keptO g
  refine ⟨cur_kept h.cur kk (fun e => by have := hb p e; omega) (fun q e => by have := hb q e; omega), grown_kept h.gr kk (fun q e => by have := hb q e; omega), fun i hi => (cl vb i (Nat.le_refl _) VX).trans (h.c i hi), fun i => (fz vb i (Nat.le_refl _) VX).trans (h.fz i), fun i hi => (cl _ i (by omega) (by omega)).trans (h.r i hi), fun i => (fz _ i (by omega) (by omega)).trans (h.rf i), pw, wV, Nat.lt_of_lt_of_le VX g.size⟩
/-- a state is being drawn: three lists that grow -/
structure OD (w X : World) (B p : Nat) (a : Option Addr) (len cap vb k0 k1 k2 : Nat) (v0 v1 v2 : Value) (D0 D1 D2 : Nat → Int) (c f g : Int) : Prop where
  d : DS 6 w X B p a len cap vb (OW v0 v1 v2 c f g) Z6
  r0 : RowV (vb + 1) X v0 k0 D0
  r1 : RowV (vb + 1) X v1 k1 D1
  r2 : RowV (vb + 1) X v2 k2 D2
  n01 : ∀ b, v0.ownBlock = some b → v1.ownBlock ≠ some b
  n02 : ∀ b, v0.ownBlock = some b → v2.ownBlock ≠ some b
  n12 : ∀ b, v1.ownBlock = some b → v2.ownBlock ≠ some b
section
variable {w X X' : World} {B p : Nat} {a : Option Addr} {len cap vb k0 k1 k2 : Nat} {v0 v1 v2 : Value} {D0 D1 D2 : Nat → Int} {c f g : Int}
theorem OD.np (h : OD w X B p a len cap vb k0 k1 k2 v0 v1 v2 D0 D1 D2 c f g) : p < vb := by have := h.d.pw; have := h.d.wV; omega
theorem OD.draw (h : OD w X B p a len cap vb k0 k1 k2 v0 v1 v2 D0 D1 D2 c f g) (q : X.grownBy X' (some p)) (d : Base.Cur B X' p a len cap) : OD w X' B p a len cap vb k0 k1 k2 v0 v1 v2 D0 D1 D2 c f g := by
  have np := h.np
  exact ⟨h.d.draw q d, own_grown h.r0 q (by rintro k ⟨⟩ e; have := (own_lt h.r0 _ e).1; omega), own_grown h.r1 q (by rintro k ⟨⟩ e; have := (own_lt h.r1 _ e).1; omega), own_grown h.r2 q (by rintro k ⟨⟩ e; have := (own_lt h.r2 _ e).1; omega), h.n01, h.n02, h.n12⟩
end
/-- a list that was drawn: it lies behind the variable -/
def L3 (vb : Nat) (X : World) (a : Option Addr) (n c : Nat) (D : Nat → Int) : Prop := Ints X.heap.size X a n D ∧ (a = none → n = 0 ∧ c = 0) ∧ (∀ ad, a = some ad → vb < ad.block) ∧ n ≤ 6
theorem L3.kept {vb n c : Nat} {X X' : World} {a : Option Addr} {D : Nat → Int} {S : Nat → Prop} (h : L3 vb X a n c D) (k : Kept S X X') (hs : ∀ ad, a = some ad → ¬ S ad.block) : L3 vb X' a n c D := by
  obtain ⟨h1, h2, h3, h4⟩ := h
  refine ⟨?_, h2, h3, h4⟩
  rcases h1 with h1 | ⟨b, off, e, hb, hc⟩
  · exact .inl h1
  · exact .inr ⟨b, off, e, Nat.lt_of_lt_of_le hb k.size, fun j hj => ⟨(World.cell?_of_block (w := X) (a := ⟨b, off + j, none⟩) (k.block b hb (hs _ e))).trans (hc j hj).1, (hc j hj).2⟩⟩
theorem row_L3 {vb k : Nat} {X : World} {v : Value} {D : Nat → Int} (h : RowV (vb + 1) X v k D) (hk : k ≤ 6) : ∃ a c, v = .slice a k c ∧ L3 vb X a k c D := by
  have h0 := h
  obtain ⟨⟨_, ⟨rfl, rfl⟩ | ⟨g, cap, cur, rfl, hg, rest⟩⟩, hb⟩ := h
  · exact ⟨none, 0, rfl, .inl rfl, fun _ => ⟨rfl, rfl⟩, (fun ad e => by cases e), by omega⟩
  · obtain ⟨a', c', e, o⟩ := h0.own
    injection e with e1 e2 e3
    subst e1
    subst e3
    exact ⟨_, _, rfl, o.ints, (fun e => by cases e), (fun ad e => by cases e; exact hg), hk⟩
theorem row_some {vb k : Nat} {X : World} {v : Value} {D : Nat → Int} (h : RowV (vb + 1) X v k D) (hk : 0 < k) : ∃ g c, v = .slice (some ⟨g, 0, none⟩) k c ∧ vb < g ∧ k ≤ c ∧ Rw X g k D := by
  have h0 := h
  obtain ⟨⟨_, ⟨rfl, rfl⟩ | ⟨g, cap, cur, rfl, hg, _, hkc, rest⟩⟩, hb⟩ := h
  · omega
  · obtain ⟨a', c', e, o⟩ := h0.own
    injection e with e1 e2 e3
    rcases o with o | ⟨g2, e4, _, r⟩
    · omega
    · rw [← e1] at e4
      cases e4
      exact ⟨g, cap, rfl, hg, hkc, r⟩
/-- what has been drawn of a state -/
def OpD (w X : World) (B p : Nat) (a : Option Addr) (len cap vb : Nat) : Prop :=
  ∃ (a0 a1 a2 : Option Addr) (n0 c0 n1 c1 n2 c2 : Nat) (D0 D1 D2 : Nat → Int) (c f g : Int), DS 6 w X B p a len cap vb (OW (.slice a0 n0 c0) (.slice a1 n1 c1) (.slice a2 n2 c2) c f g) Z6 ∧ (L3 vb X a0 n0 c0 D0 ∧ L3 vb X a1 n1 c1 D1 ∧ L3 vb X a2 n2 c2 D2) ∧ bd c ∧ bd f ∧ bd g
theorem OD.op {w X : World} {B p : Nat} {a : Option Addr} {len cap vb k : Nat} {v0 v1 v2 : Value} {D0 D1 D2 : Nat → Int} {c f g : Int} (h : OD w X B p a len cap vb k k k v0 v1 v2 D0 D1 D2 c f g) (hk : k ≤ 6) (hc : bd c) (hf : bd f) (hg : bd g) : OpD w X B p a len cap vb := by
  obtain ⟨a0, c0, rfl, l0⟩ := row_L3 h.r0 hk
  obtain ⟨a1, c1, rfl, l1⟩ := row_L3 h.r1 hk
  obtain ⟨a2, c2, rfl, l2⟩ := row_L3 h.r2 hk
  exact ⟨a0, a1, a2, k, c0, k, c1, k, c2, D0, D1, D2, c, f, g, h.d, ⟨l0, l1, l2⟩, hc, hf, hg⟩
theorem OD.setI {w X : World} {B p : Nat} {a : Option Addr} {len cap vb k : Nat} {v0 v1 v2 : Value} {D0 D1 D2 : Nat → Int} {c f g : Int} (h : OD w X B p a len cap vb k k k v0 v1 v2 D0 D1 D2 c f g) (hB : B ≤ w.heap.size) (x : Int) : OD w (X.setCell ⟨vb, 3, none⟩ (.int .i64 x)) B p a len cap vb k k k v0 v1 v2 D0 D1 D2 x f g ∧ OD w (X.setCell ⟨vb, 4, none⟩ (.int .i64 x)) B p a len cap vb k k k v0 v1 v2 D0 D1 D2 c x g :=
  ⟨⟨(h.d.set hB 3 _ (by omega)).same (fun i hi => by rcases (by omega : i = 0 ∨ i = 1 ∨ i = 2 ∨ i = 3 ∨ i = 4 ∨ i = 5) with rfl | rfl | rfl | rfl | rfl | rfl <;> rfl), own_celA h.r0 (Nat.lt_succ_self _), own_celA h.r1 (Nat.lt_succ_self _), own_celA h.r2 (Nat.lt_succ_self _), h.n01, h.n02, h.n12⟩,
   ⟨(h.d.set hB 4 _ (by omega)).same (fun i hi => by rcases (by omega : i = 0 ∨ i = 1 ∨ i = 2 ∨ i = 3 ∨ i = 4 ∨ i = 5) with rfl | rfl | rfl | rfl | rfl | rfl <;> rfl), own_celA h.r0 (Nat.lt_succ_self _), own_celA h.r1 (Nat.lt_succ_self _), own_celA h.r2 (Nat.lt_succ_self _), h.n01, h.n02, h.n12⟩⟩
theorem runBS3 {o : Oper} {A : Act} {w : World} {x y z : Int} (ho : o.op = .buildSlice 28 3 #[(0, .const (.int .i64 x)), (1, .const (.int .i64 y)), (2, .const (.int .i64 z))]) : (execOp A.eval o).run Try.prog w = .ok (.value (.slice (some ⟨w.heap.size, 0, none⟩) 3 3)) (w.alloc (.cells #[.int .i64 x, .int .i64 y, .int .i64 z] 3)) := by
  unfold execOp
  rw [ho]
  simp only [List.map_toArray, List.map_cons, List.map_nil, Act.eval]
  go_simp
theorem runIx0 {o : Oper} {A : Act} {w : World} {x : Operand} {g n c : Nat} (ho : o.op = .indexAddr 28 x (.const (.int .i64 0))) (hx : A.eval x = .slice (some ⟨g, 0, none⟩) n c) (hn : 0 < n) : (execOp A.eval o).run Try.prog w = .ok (.value (.pointer (some ⟨g, 0, none⟩))) w := by
  have h := runIx (o := { o with op := .indexAddr 28 x (.const (.int .i64 ((0 : Nat) : Int))) }) (A := A) (w := w) (x := x) (y := .const (.int .i64 ((0 : Nat) : Int))) (j := 0) rfl hx rfl hn
  unfold execOp at h ⊢
  rw [ho]
  exact h
/-- a number of a drawn list is put in -/
theorem OD.pick0 {w X : World} {B p : Nat} {a : Option Addr} {len cap vb k : Nat} {g0 g1 g2 c0 c1 c2 : Nat} {D0 D1 D2 : Nat → Int} {c f g x : Int} (h : OD w X B p a len cap vb k k k (.slice (some ⟨g0, 0, none⟩) k c0) (.slice (some ⟨g1, 0, none⟩) k c1) (.slice (some ⟨g2, 0, none⟩) k c2) D0 D1 D2 c f g) (hB : B ≤ w.heap.size) (hk : k ≤ 6) (k0 : 0 < k) (hc : bd c) (hf : bd f) (hg : bd g) (hx : bd x) :
    OpD w (X.setCell ⟨g0, 0, none⟩ (.int .i64 x)) B p a len cap vb ∧ OpD w (X.setCell ⟨g1, 0, none⟩ (.int .i64 x)) B p a len cap vb ∧ OpD w (X.setCell ⟨g2, 0, none⟩ (.int .i64 x)) B p a len cap vb := by
  have ne : g0 ≠ g1 ∧ g0 ≠ g2 ∧ g1 ≠ g2 := ⟨fun e => h.n01 g0 rfl (by rw [e]; rfl), fun e => h.n02 g0 rfl (by rw [e]; rfl), fun e => h.n12 g1 rfl (by rw [e]; rfl)⟩
  obtain ⟨q0, d0, e0, v0, m0, R0⟩ := row_some h.r0 k0
  obtain ⟨q1, d1, e1, v1, m1, R1⟩ := row_some h.r1 k0
  obtain ⟨q2, d2, e2, v2, m2, R2⟩ := row_some h.r2 k0
  cases e0
  cases e1
  cases e2
  have L : ∀ (q cc : Nat) (D : Nat → Int) (Y : World), vb < q → Rw Y q k D → L3 vb Y (some ⟨q, 0, none⟩) k cc D := fun q cc D Y hq r => ⟨r.ints (r.lt (by omega)), (fun e => by cases e), (fun ad e => by cases e; exact hq), hk⟩
  refine ⟨⟨_, _, _, k, c0, k, c1, k, c2, _, D1, D2, c, f, g, h.d.far hB (Lib.grownBy_setCell X g0 0 _) (by rintro q ⟨⟩; exact v0), ⟨L g0 c0 _ _ v0 (R0.set 0 x hx), L g1 c1 _ _ v1 (R1.kept (Kept.setCell X ⟨g0, 0, none⟩ _) (fun e => ne.1 e.symm)), L g2 c2 _ _ v2 (R2.kept (Kept.setCell X ⟨g0, 0, none⟩ _) (fun e => ne.2.1 e.symm))⟩, hc, hf, hg⟩,
    ⟨_, _, _, k, c0, k, c1, k, c2, D0, _, D2, c, f, g, h.d.far hB (Lib.grownBy_setCell X g1 0 _) (by rintro q ⟨⟩; exact v1), ⟨L g0 c0 _ _ v0 (R0.kept (Kept.setCell X ⟨g1, 0, none⟩ _) (fun e => ne.1 e)), L g1 c1 _ _ v1 (R1.set 0 x hx), L g2 c2 _ _ v2 (R2.kept (Kept.setCell X ⟨g1, 0, none⟩ _) (fun e => ne.2.2 e.symm))⟩, hc, hf, hg⟩,
    ⟨_, _, _, k, c0, k, c1, k, c2, D0, D1, _, c, f, g, h.d.far hB (Lib.grownBy_setCell X g2 0 _) (by rintro q ⟨⟩; exact v2), ⟨L g0 c0 _ _ v0 (R0.kept (Kept.setCell X ⟨g2, 0, none⟩ _) (fun e => ne.2.1 e)), L g1 c1 _ _ v1 (R1.kept (Kept.setCell X ⟨g2, 0, none⟩ _) (fun e => ne.2.2 e)), L g2 c2 _ _ v2 (R2.set 0 x hx)⟩, hc, hf, hg⟩⟩
/-- the second list loses its first -/
theorem OD.cut1 {w X : World} {B p : Nat} {a : Option Addr} {len cap vb k : Nat} {v0 v2 : Value} {g1 c1 : Nat} {D0 D1 D2 : Nat → Int} {c f g : Int} (h : OD w X B p a len cap vb k k k v0 (.slice (some ⟨g1, 0, none⟩) k c1) v2 D0 D1 D2 c f g) (hB : B ≤ w.heap.size) (hk : k ≤ 6) (k0 : 0 < k) (hc : bd c) (hf : bd f) (hg : bd g) :
    OpD w (X.setCell ⟨vb, 1, none⟩ (.slice (some ⟨g1, 1, none⟩) (k - 1) (c1 - 1))) B p a len cap vb := by
  obtain ⟨q1, d1, e1, v1, m1, R1⟩ := row_some h.r1 k0
  cases e1
  obtain ⟨a0, c0, rfl, l0⟩ := row_L3 h.r0 hk
  obtain ⟨a2, c2, rfl, l2⟩ := row_L3 h.r2 hk
  have kk := Kept.setCell X ⟨vb, 1, none⟩ (.slice (some ⟨g1, 1, none⟩) (k - 1) (c1 - 1))
  have R1' := R1.kept kk (by show ¬ g1 = vb; omega)
  refine ⟨a0, some ⟨g1, 1, none⟩, a2, k, c0, k - 1, c1 - 1, k, c2, D0, fun j => D1 (j + 1), D2, c, f, g, (h.d.set hB 1 _ (by omega)).same (fun i hi => by rcases (by omega : i = 0 ∨ i = 1 ∨ i = 2 ∨ i = 3 ∨ i = 4 ∨ i = 5) with rfl | rfl | rfl | rfl | rfl | rfl <;> rfl), ⟨l0.kept kk (fun ad e q => by have := l0.2.2.1 ad e; have q : ad.block = vb := q; omega), ⟨.inr ⟨g1, 1, rfl, R1'.lt (by omega), fun j hj => ?_⟩, (fun e => by cases e), (fun ad e => by cases e; exact v1), by omega⟩, l2.kept kk (fun ad e q => by have := l2.2.2.1 ad e; have q : ad.block = vb := q; omega)⟩, hc, hf, hg⟩
  have := R1' (j + 1) (by omega)
  rw [Nat.add_comm 1 j]
  exact ⟨this.1, this.2.2⟩
theorem OD.cut0 {w X : World} {B p : Nat} {a : Option Addr} {len cap vb k : Nat} {v0 v2 : Value} {g1 c1 : Nat} {D0 D1 D2 : Nat → Int} {c f g : Int} (h : OD w X B p a len cap vb k k k v0 (.slice (some ⟨g1, 0, none⟩) k c1) v2 D0 D1 D2 c f g) (hB : B ≤ w.heap.size) (hk : k ≤ 6) (k0 : 0 < k) (hc : bd c) (hf : bd f) (hg : bd g) (k1 : k = 1) :
    OpD w (X.setCell ⟨vb, 1, none⟩ (.slice (some ⟨g1, 0, none⟩) 0 0)) B p a len cap vb := by
  obtain ⟨q1, d1, e1, v1, m1, R1⟩ := row_some h.r1 k0
  cases e1
  obtain ⟨a0, c0, rfl, l0⟩ := row_L3 h.r0 hk
  obtain ⟨a2, c2, rfl, l2⟩ := row_L3 h.r2 hk
  have kk := Kept.setCell X ⟨vb, 1, none⟩ (.slice (some ⟨g1, 0, none⟩) 0 0)
  exact ⟨a0, some ⟨g1, 0, none⟩, a2, k, c0, 0, 0, k, c2, D0, D1, D2, c, f, g, (h.d.set hB 1 _ (by omega)).same (fun i hi => by rcases (by omega : i = 0 ∨ i = 1 ∨ i = 2 ∨ i = 3 ∨ i = 4 ∨ i = 5) with rfl | rfl | rfl | rfl | rfl | rfl <;> rfl), ⟨l0.kept kk (fun ad e q => by have := l0.2.2.1 ad e; have q : ad.block = vb := q; omega), ⟨.inl rfl, (fun e => by cases e), (fun ad e => by cases e; exact v1), by omega⟩, l2.kept kk (fun ad e q => by have := l2.2.2.1 ad e; have q : ad.block = vb := q; omega)⟩, hc, hf, hg⟩
/-- a state was drawn -/
def OpE (w : World) (B p : Nat) (a : Option Addr) (len cap : Nat) (e : Ending) (w' : World) : Prop :=
  ∃ (a0 a1 a2 : Option Addr) (n0 c0 n1 c1 n2 c2 : Nat) (D0 D1 D2 : Nat → Int) (c f g : Int), e = .returned (.agg #[.slice a0 n0 c0, .slice a1 n1 c1, .slice a2 n2 c2, .int .i64 c, .int .i64 f, .int .i64 g]) ∧ (n0 ≤ 6 ∧ n1 ≤ 6 ∧ n2 ≤ 6) ∧ (Ints w'.heap.size w' a0 n0 D0 ∧ Ints w'.heap.size w' a1 n1 D1 ∧ Ints w'.heap.size w' a2 n2 D2) ∧
    ((a0 = none → n0 = 0 ∧ c0 = 0) ∧ (a1 = none → n1 = 0 ∧ c1 = 0) ∧ (a2 = none → n2 = 0 ∧ c2 = 0)) ∧ (bd c ∧ bd f ∧ bd g) ∧ ((∀ ad, a0 = some ad → w.heap.size < ad.block) ∧ (∀ ad, a1 = some ad → w.heap.size < ad.block) ∧ (∀ ad, a2 = some ad → w.heap.size < ad.block)) ∧ Base.Cur B w' p a len cap ∧ w.grownBy w' (some p)
set_option maxHeartbeats 8000000 in
set_option maxRecDepth 100000 in
theorem drawOpt (B p : Nat) (a : Option Addr) (len cap : Nat) (w : World) (hc : Base.Cur B w p a len cap) (hB : B ≤ w.heap.size) :
    Calls Try.prog 19 #[.pointer (some ⟨p, 0, none⟩)] w (OpE w B p a len cap) := by
  obtain ⟨W0, hW0⟩ : ∃ W0, w.alloc (.cells #[.slice none 0 0, .slice none 0 0, .slice none 0 0, .int .i64 0, .int .i64 0, .int .i64 0] 30) = W0 := ⟨_, rfl⟩
  have pw := hc.lt
  have D0 := Base.hide (hW0 ▸ hc.alloc _ : Base.Cur B W0 p a len cap)
  have G0 := Base.hide (hW0 ▸ Lib.grownBy_allocR (Base.grown_refl w p) _ : w.grownBy W0 (some p))
  have R0 := Base.hide (show (∀ i, i < 6 → W0.cell? ⟨w.heap.size, i, none⟩ = some (Z6 i)) ∧ (∀ i, W0.frozen? ⟨w.heap.size, i, none⟩ = false) from hW0 ▸ ⟨fun i hi => by rcases (by omega : i = 0 ∨ i = 1 ∨ i = 2 ∨ i = 3 ∨ i = 4 ∨ i = 5) with rfl | rfl | rfl | rfl | rfl | rfl <;> simp [go_sem, Z6], fun i => by simp [go_sem]⟩)
  have z0 : W0.heap.size = w.heap.size + 1 := by rw [← hW0]; simp
  have Z0 := Base.hide z0
  have PW := Base.hide pw
  clear hc z0 pw
  go_enter Try.func19, Try.ntmps19
  go_wp2_with fail
  refine (Base.l1Below B p a len cap 17 _ D0.out (by decide) (by decide)).mono ?_; rintro e w1 ⟨x, x0, x1, rfl, d1, g1⟩
  have D1 := Base.hide d1
  have G1 := Base.hide g1
  clear d1 g1 hW0
  obtain ⟨xn, rfl⟩ := Int.eq_ofNat_of_zero_le x0
  have xk : xn < 17 := by omega
  clear x0 x1
  go_wp2_with fail
  refine (Base.l1Below B p a len cap 15 _ D1.out (by decide) (by decide)).mono ?_; rintro e w2 ⟨y, y0, y1, rfl, d2, g2⟩
  have D2 := Base.hide d2
  have G2 := Base.hide (G1.out.trans g2)
  clear d2 g2 D1 G1
  go_wp2_with fail
  refine (Base.l1Below B p a len cap 4 _ D2.out (by decide) (by decide)).mono ?_; rintro e w3 ⟨z, z0, z1, rfl, d3, g3⟩
  have D3 := Base.hide d3
  have G3 := Base.hide (G2.out.trans g3)
  clear d3 g3 D2 G2
  have YB := Base.hide (show bd y ∧ bd z from ⟨⟨by omega, by omega⟩, by omega, by omega⟩)
  go_wp2_with fail
  obtain ⟨F, hF, bF⟩ : ∃ F : Int, wrap64 ((2 : Int) ^ xn) = F ∧ bd F := ⟨_, rfl, Base.wrap_bd _⟩
  rw [hF]
  clear hF
  have FB := Base.hide bF
  clear bF
  obtain ⟨W6, hW6⟩ : ∃ W6, w3.alloc (.cells #[.slice none 0 0, .slice none 0 0, .slice none 0 0, .int .i64 y, .int .i64 F, .int .i64 z] 30) = W6 := ⟨_, rfl⟩
  have g6 : W0.grownBy W6 (some p) := hW6 ▸ Lib.grownBy_allocR G3.out _
  have HG := Base.hide (show OD w W6 B p a len cap w3.heap.size 0 0 0 (.slice none 0 0) (.slice none 0 0) (.slice none 0 0) (fun _ => 0) (fun _ => 0) (fun _ => 0) y F z from
      { d := { cur := hW6 ▸ D3.out.alloc _
               gr := G0.out.trans g6
               c := fun i hi => by rcases (by omega : i = 0 ∨ i = 1 ∨ i = 2 ∨ i = 3 ∨ i = 4 ∨ i = 5) with rfl | rfl | rfl | rfl | rfl | rfl <;> (rw [← hW6]; simp [go_sem, OW])
               fz := fun i => by rw [← hW6]; simp [go_sem]
               r := fun i hi => by have := Z0.out; have := PW.out; rw [(grown_keep g6 (by omega) (by omega)).1]; exact R0.out.1 i hi
               rf := fun i => by have := Z0.out; have := PW.out; rw [(grown_keep g6 (by omega) (by omega)).2]; exact R0.out.2 i
               pw := PW.out
               wV := by have := Z0.out; have := G3.out.size; omega
               VX := by rw [← hW6]; simp }
        r0 := ⟨World.ownsRow_nil _ _ _ _, fun j hj => by omega⟩
        r1 := ⟨World.ownsRow_nil _ _ _ _, fun j hj => by omega⟩
        r2 := ⟨World.ownsRow_nil _ _ _ _, fun j hj => by omega⟩
        n01 := fun b h => by cases h
        n02 := fun b h => by cases h
        n12 := fun b h => by cases h })
  clear g6 D0 D3 G0 G3 R0
  rw [hW6]
  obtain ⟨vb, hvb⟩ : ∃ vb, w3.heap.size = vb := ⟨_, rfl⟩
  rw [hvb] at HG ⊢
  clear hvb hW6 Z0 y0 y1 z0 z1
  refine (Base.l1Below B p a len cap 6 _ HG.out.d.cur (by decide) (by decide)).mono ?_; rintro e w4 ⟨q, q0, q1, rfl, d4, g4⟩
  replace HG := Base.hide (HG.out.draw g4 d4)
  clear d4 g4
  obtain ⟨qn, rfl⟩ := Int.eq_ofNat_of_zero_le q0
  have qk : qn ≤ 5 := by omega
  clear q0 q1
  go_wp2_with fail
  go_loopw [4] (fun nv wx => ∃ (m k : Nat) (v0 v1 v2 : Value) (D0 D1 D2 : Nat → Int), k + m ≤ 5 ∧ nv = .int .i64 (m : Int) ∧ OD w wx B p a len cap vb k k k v0 v1 v2 D0 D1 D2 y F z) (fun nv _ => (intOf nv).toNat)
  case atStart => exact ⟨qn, 0, _, _, _, _, _, _, by omega, rfl, HG.out⟩
  case round =>
    obtain ⟨m, k, v0, v1, v2, D0, D1, D2, hmk, rfl, hG⟩ := hrel
    replace HG := Base.hide hG
    clear hG
    have KM := Base.hide hmk
    by_cases hm : 0 < (m : Int)
    · have mN : 0 < m := by omega
      obtain ⟨wr0, hwr⟩ : ∃ X, wr = X := ⟨_, rfl⟩
      rw [hwr] at HG ⊢
      clear hwr
      go_wp2_with fail
      have NP := Base.hide HG.out.np
      have NA := Base.hide (show (∀ q, v0.ownBlock = some q → v1.ownBlock ≠ some q) ∧ (∀ q, v0.ownBlock = some q → v2.ownBlock ≠ some q) from ⟨fun q h1 h2 => HG.out.n01 q h1 h2, fun q h1 h2 => HG.out.n02 q h1 h2⟩)
      have OJ := Base.hide HG.out.r0
      have OL := Base.hide (show ∀ q, v0.ownBlock = some q → vb < q ∧ q < wr0.heap.size from fun q h => by have := own_lt HG.out.r0 q h; omega)
      have B0 := Base.hide (show (fun X => DS 6 w X B p a len cap vb (OW v0 v1 v2 y F z) Z6 ∧ RowV (vb + 1) X v1 (k) D1 ∧ RowV (vb + 1) X v2 (k) D2 ∧ ∀ q, v0.ownBlock = some q → q < X.heap.size) wr0 from ⟨HG.out.d, HG.out.r1, HG.out.r2, fun q h => (OL.out q h).2⟩)
      have BD := Base.hide (show ∀ X X', (fun X => DS 6 w X B p a len cap vb (OW v0 v1 v2 y F z) Z6 ∧ RowV (vb + 1) X v1 (k) D1 ∧ RowV (vb + 1) X v2 (k) D2 ∧ ∀ q, v0.ownBlock = some q → q < X.heap.size) X → X.grownBy X' (some p) → Base.Cur B X' p a len cap → (fun X => DS 6 w X B p a len cap vb (OW v0 v1 v2 y F z) Z6 ∧ RowV (vb + 1) X v1 (k) D1 ∧ RowV (vb + 1) X v2 (k) D2 ∧ ∀ q, v0.ownBlock = some q → q < X.heap.size) X' from fun X X' ⟨b1, b2, b3, b4⟩ q cu => ⟨b1.draw q cu, own_grown b2 q (by rintro k ⟨⟩ e; have := (own_lt b2 _ e).1; have := NP.out; omega), own_grown b3 q (by rintro k ⟨⟩ e; have := (own_lt b3 _ e).1; have := NP.out; omega), fun q' h => Nat.lt_of_lt_of_le (b4 q' h) q.size⟩)
      have OTH := Base.hide (And.intro HG.out.n01 (And.intro HG.out.n02 HG.out.n12))
      refine Qm.factsO 8 6 (fun X => DS 6 w X B p a len cap vb (OW v0 v1 v2 y F z) Z6 ∧ RowV (vb + 1) X v1 (k) D1 ∧ RowV (vb + 1) X v2 (k) D2 ∧ ∀ q, v0.ownBlock = some q → q < X.heap.size) (fun X => RowV (vb + 1) X v0 k D0) (fun t v wx => match t with | 0 => v = .pointer (some ⟨vb, 0, none⟩) | 1 => v = v0 | 2 => v = .pointer (some ⟨p, 0, none⟩) | 3 => ∃ z : Int, v = .int .i64 z ∧ 0 ≤ z ∧ z ≤ 4194303 | 4 => ∃ z : Int, v = .int .i64 z ∧ bd z | 5 => ∃ (g' : Nat) (z : Int), v = .slice (some ⟨g', 0, none⟩) 1 1 ∧ bd z ∧ g' ≠ p ∧ v0.ownBlock ≠ some g' ∧ wx.heap[g']? = some (.cells #[.int .i64 z] 3 (0, 0)) | 6 => ∃ (g' c' : Nat) (z : Int), v = .slice (some ⟨g', 0, none⟩) (k + 1) c' ∧ RowV (vb + 1) wx (.slice (some ⟨g', 0, none⟩) (k + 1) c') (k + 1) (upI D0 k z) ∧ v1.ownBlock ≠ some g' ∧ v2.ownBlock ≠ some g' | 7 => v = .pointer (some ⟨vb, 0, none⟩) | _ => True) (fun w1 w2 => w1.grownBy w2 (some p)) (fun w1 w2 => w1.grownBy w2 v0.ownBlock) (by kernel_rfl) (by kernel_rfl) ?hb0 ?ho0 ?hO ?hF1 ?hF2 ?steps ?rest
      case hb0 => exact BD.out wr0 _ B0.out (Base.grown_drew wr0 1 p) (cur_belA HG.out.d.cur (Below.refl wr0.heap.size wr0).drew)
      case ho0 => exact own_grown OJ.out (Base.grown_drew wr0 1 p) (by rintro k ⟨⟩ e; have := (OL.out _ e).1; have := NP.out; omega)
      case hO => exact fun w1 w2 h q => own_grown h q (by rintro k ⟨⟩ e; have := (OL.out _ e).1; have := NP.out; omega)
      case hF1 =>
        intro t v w1 w2 h q
        match t, h with
        | 0, h => exact h
        | 1, h => exact h
        | 2, h => exact h
        | 3, h => exact h
        | 4, h => exact h
        | 5, ⟨g', z, e, h1, h2, h3, h4⟩ => exact ⟨g', z, e, h1, h2, h3, (q.block g' (heap_lt h4) (by intro e; injection e with e; exact h2 e)).trans h4⟩
        | 6, ⟨g', c', z, e, h1, h2, h3⟩ => exact ⟨g', c', z, e, own_grown h1 q (by rintro k ⟨⟩ e; have := (own_lt h1 _ e).1; have := NP.out; omega), h2, h3⟩
        | 7, h => exact h
        | _ + 8, h => exact h
      case hF2 =>
        intro t v w1 w2 hne h q
        match t, h, hne with
        | 0, h, _ => exact h
        | 1, h, _ => exact h
        | 2, h, _ => exact h
        | 3, h, _ => exact h
        | 4, h, _ => exact h
        | 5, ⟨g', z, e, h1, h2, h3, h4⟩, _ => exact ⟨g', z, e, h1, h2, h3, (q.block g' (heap_lt h4) (fun e => h3 e.symm)).trans h4⟩
        | 6, _, hne => exact absurd rfl hne
        | 7, h, _ => exact h
        | _ + 8, h, _ => exact h
      case steps =>
        intro i o hi ho s A wS hb hold hk hA hO
        match i, hi, ho, hk, hold with
        | 0, _, ho, hk, hold =>
          cases ho
          refine Qg.landsG_free rfl ?_
          exact Qf.lands_val _ _ (runFO0 rfl ((hO 3 (by rfl)).trans rfl)) ⟨hb, fun _ => Base.grown_refl _ _, fun e => absurd e (by decide), rfl⟩
        | 1, _, ho, hk, hold =>
          cases ho
          refine Qg.landsG_free rfl ?_
          have h0 := hA 0 _ 20 (by decide) rfl rfl (by simp)
          rw [show s 0 = _ from hk 0 (by kernel_rfl)] at h0
          exact Qf.lands_val _ _ (runLL rfl h0 (hb.1.c 0 (by omega))) ⟨hb, fun _ => Base.grown_refl _ _, fun e => absurd e (by decide), rfl⟩
        | 2, _, ho, hk, hold =>
          cases ho
          refine Qg.landsG_free rfl ?_
          exact Qf.lands_move _ rfl (.pointer (some ⟨p, 0, none⟩)) ((hO 0 (by rfl)).trans rfl) ⟨hb, fun _ => Base.grown_refl _ _, fun e => absurd e (by decide), rfl⟩
        | 3, _, ho, hk, hold =>
          cases ho
          refine Qg.landsG_free rfl ?_
          have h2 := hA 2 _ 22 (by decide) rfl rfl (by simp)
          rw [show s 2 = _ from hk 2 (by kernel_rfl)] at h2
          refine Qf.lands_call 20 _ _ rfl (enters_of Try.func20 (by kernel_rfl) rfl) _ (by first | (simp [h2]; done) | (simp [h2]; rfl)) ((Base.l1Below B p a len cap 4194304 _ hb.1.cur (by decide) (by decide)).mono ?_)
          rintro e wT ⟨z, z0, z1, rfl, dT, gT⟩
          exact ⟨_, rfl, BD.out wS wT hb gT dT, fun _ => gT, fun e => absurd e (by decide), z, rfl, z0, by omega⟩
        | 4, _, ho, hk, hold =>
          cases ho
          refine Qg.landsG_free rfl ?_
          have h3 := hA 3 _ 23 (by decide) rfl rfl (by simp)
          obtain ⟨z, ez, z0, z1⟩ := hk 3 (by kernel_rfl)
          rw [ez] at h3
          exact Qf.lands_val _ _ (runSubC rfl h3 (wid (by omega))) ⟨hb, fun _ => Base.grown_refl _ _, fun e => absurd e (by decide), ⟨_, rfl, by omega, by omega⟩⟩
        | 5, _, ho, hk, hold =>
          cases ho
          refine Qg.landsG_free rfl ?_
          have h4 := hA 4 _ 24 (by decide) rfl rfl (by simp)
          obtain ⟨z, ez, zb⟩ := hk 4 (by kernel_rfl)
          rw [ez] at h4
          have gA : wS.grownBy (wS.alloc (.cells #[.int .i64 z] 3)) (some p) := Lib.grownBy_allocR (Base.grown_refl wS p) _
          exact Qf.lands_val _ _ (runBS1 rfl h4) ⟨BD.out _ _ hb gA (hb.1.cur.alloc _), fun _ => gA, fun e => absurd e (by decide), wS.heap.size, z, rfl, zb, by have := hb.1.pw; have := hb.1.wV; have := hb.1.VX; omega, fun e => by have := hb.2.2.2 _ e; omega, heap_alloc_new wS _⟩
        | 6, _, ho, hk, hold =>
          cases ho
          refine Qg.landsG_free rfl ?_
          have h1 := hA 1 _ 21 (by decide) rfl rfl (by simp)
          have h5 := hA 5 _ 25 (by decide) rfl rfl (by simp)
          rw [show s 1 = _ from hk 1 (by kernel_rfl)] at h1
          obtain ⟨g', z, eg, zb, gp, go, gh⟩ := hk 5 (by kernel_rfl)
          rw [eg] at h5
          refine lands_app rfl h1 (hold rfl) h5 gh zb (by omega) (by have := hb.1.VX; omega) (fun g2 c2 w2 r2 q2 hat => ?_)
          have fb : ∀ q, v0.ownBlock = some q → vb < q := fun q h => (OL.out q h).1
          refine ⟨⟨hb.1.far hB q2 fb, own_grown hb.2.1 q2 (fun q h e => NA.out.1 q h e), own_grown hb.2.2.1 q2 (fun q h e => NA.out.2 q h e), fun q h => Nat.lt_of_lt_of_le (hb.2.2.2 q h) q2.size⟩, fun e => absurd rfl e, fun _ => q2, g2, c2, z, rfl, r2, ?_, ?_⟩
          · rcases hat with e | e
            · exact NA.out.1 g2 e
            · intro e2; have := (own_lt hb.2.1 _ e2).2; omega
          · rcases hat with e | e
            · exact NA.out.2 g2 e
            · intro e2; have := (own_lt hb.2.2.1 _ e2).2; omega
        | 7, _, ho, hk, hold =>
          cases ho
          refine Qg.landsG_free rfl ?_
          exact Qf.lands_val _ _ (runFO0 rfl ((hO 3 (by rfl)).trans rfl)) ⟨hb, fun _ => Base.grown_refl _ _, fun e => absurd e (by decide), rfl⟩
        | _ + 8, hi, _, _, _ => exact absurd hi (by omega)
      case rest =>
      intro s' XXa hb hk
      obtain ⟨gaa, gca, gza, eq, hrow, hna, hnc⟩ := hk 6 (by decide)
      have ef : s' 7 = _ := hk 7 (by decide)
      obtain ⟨XYa, hXYa⟩ : ∃ XYa, XXa.setCell ⟨vb, 0, none⟩ (.slice (some ⟨gaa, 0, none⟩) (k + 1) gca) = XYa := ⟨_, rfl⟩
      obtain ⟨uq, eu⟩ : ∃ u, XXa.cell? ⟨vb, 0, none⟩ = some u := ⟨_, hb.1.c 0 (by omega)⟩
      have fu : XXa.frozen? ⟨vb, 0, none⟩ = false := hb.1.fz 0
      replace HG := Base.hide (show OD w XYa B p a len cap vb (k + 1) (k) (k) (.slice (some ⟨gaa, 0, none⟩) (k + 1) gca) (v1) (v2) (upI D0 k gza) D1 D2 y F z from hXYa ▸ ⟨(hb.1.set hB 0 _ (by omega)).same (fun i hi => by rcases (by omega : i = 0 ∨ i = 1 ∨ i = 2 ∨ i = 3 ∨ i = 4 ∨ i = 5) with rfl | rfl | rfl | rfl | rfl | rfl <;> rfl), own_celA hrow (Nat.lt_succ_self _), own_celA hb.2.1 (Nat.lt_succ_self _), own_celA hb.2.2.1 (Nat.lt_succ_self _), fun q h e => by cases h; exact hna e, fun q h e => by cases h; exact hnc e, OTH.out.2.2⟩)
      simp only [List.take_succ_cons, List.take_zero, List.drop_succ_cons, List.drop_zero, Qf.lay, Qf.all1, if_true, eq, ef]
      simp only [Act.put, List.setIfInBounds_toArray, List.set_cons_succ, List.set_cons_zero]
      clear hk hb hrow hna hnc eq ef B0 BD OJ OL NA OTH NP
      go_wp2_with fail
      clear hXYa eu fu
      obtain ⟨vna, hvn⟩ : ∃ z : Value, Value.slice (some ⟨gaa, 0, none⟩) (k + 1) gca = z := ⟨_, rfl⟩
      rw [hvn] at HG
      clear hvn
      have NP := Base.hide HG.out.np
      have NA := Base.hide (show (∀ q, v1.ownBlock = some q → vna.ownBlock ≠ some q) ∧ (∀ q, v1.ownBlock = some q → v2.ownBlock ≠ some q) from ⟨fun q h1 h2 => HG.out.n01 q h2 h1, fun q h1 h2 => HG.out.n12 q h1 h2⟩)
      have OJ := Base.hide HG.out.r1
      have OL := Base.hide (show ∀ q, v1.ownBlock = some q → vb < q ∧ q < XYa.heap.size from fun q h => by have := own_lt HG.out.r1 q h; omega)
      have B0 := Base.hide (show (fun X => DS 6 w X B p a len cap vb (OW vna v1 v2 y F z) Z6 ∧ RowV (vb + 1) X vna (k + 1) (upI D0 k gza) ∧ RowV (vb + 1) X v2 (k) D2 ∧ ∀ q, v1.ownBlock = some q → q < X.heap.size) XYa from ⟨HG.out.d, HG.out.r0, HG.out.r2, fun q h => (OL.out q h).2⟩)
      have BD := Base.hide (show ∀ X X', (fun X => DS 6 w X B p a len cap vb (OW vna v1 v2 y F z) Z6 ∧ RowV (vb + 1) X vna (k + 1) (upI D0 k gza) ∧ RowV (vb + 1) X v2 (k) D2 ∧ ∀ q, v1.ownBlock = some q → q < X.heap.size) X → X.grownBy X' (some p) → Base.Cur B X' p a len cap → (fun X => DS 6 w X B p a len cap vb (OW vna v1 v2 y F z) Z6 ∧ RowV (vb + 1) X vna (k + 1) (upI D0 k gza) ∧ RowV (vb + 1) X v2 (k) D2 ∧ ∀ q, v1.ownBlock = some q → q < X.heap.size) X' from fun X X' ⟨b1, b2, b3, b4⟩ q cu => ⟨b1.draw q cu, own_grown b2 q (by rintro k ⟨⟩ e; have := (own_lt b2 _ e).1; have := NP.out; omega), own_grown b3 q (by rintro k ⟨⟩ e; have := (own_lt b3 _ e).1; have := NP.out; omega), fun q' h => Nat.lt_of_lt_of_le (b4 q' h) q.size⟩)
      have OTH := Base.hide (And.intro HG.out.n01 (And.intro HG.out.n02 HG.out.n12))
      refine Qm.factsO 8 6 (fun X => DS 6 w X B p a len cap vb (OW vna v1 v2 y F z) Z6 ∧ RowV (vb + 1) X vna (k + 1) (upI D0 k gza) ∧ RowV (vb + 1) X v2 (k) D2 ∧ ∀ q, v1.ownBlock = some q → q < X.heap.size) (fun X => RowV (vb + 1) X v1 k D1) (fun t v wx => match t with | 0 => v = .pointer (some ⟨vb, 1, none⟩) | 1 => v = v1 | 2 => v = .pointer (some ⟨p, 0, none⟩) | 3 => ∃ z : Int, v = .int .i64 z ∧ 0 ≤ z ∧ z ≤ 4194303 | 4 => ∃ z : Int, v = .int .i64 z ∧ bd z | 5 => ∃ (g' : Nat) (z : Int), v = .slice (some ⟨g', 0, none⟩) 1 1 ∧ bd z ∧ g' ≠ p ∧ v1.ownBlock ≠ some g' ∧ wx.heap[g']? = some (.cells #[.int .i64 z] 3 (0, 0)) | 6 => ∃ (g' c' : Nat) (z : Int), v = .slice (some ⟨g', 0, none⟩) (k + 1) c' ∧ RowV (vb + 1) wx (.slice (some ⟨g', 0, none⟩) (k + 1) c') (k + 1) (upI D1 k z) ∧ vna.ownBlock ≠ some g' ∧ v2.ownBlock ≠ some g' | 7 => v = .pointer (some ⟨vb, 1, none⟩) | _ => True) (fun w1 w2 => w1.grownBy w2 (some p)) (fun w1 w2 => w1.grownBy w2 v1.ownBlock) (by kernel_rfl) (by kernel_rfl) ?hb0 ?ho0 ?hO ?hF1 ?hF2 ?steps ?rest
      case hb0 => exact BD.out XYa _ B0.out (Base.grown_drew XYa 1 p) (cur_belA HG.out.d.cur (Below.refl XYa.heap.size XYa).drew)
      case ho0 => exact own_grown OJ.out (Base.grown_drew XYa 1 p) (by rintro k ⟨⟩ e; have := (OL.out _ e).1; have := NP.out; omega)
      case hO => exact fun w1 w2 h q => own_grown h q (by rintro k ⟨⟩ e; have := (OL.out _ e).1; have := NP.out; omega)
      case hF1 =>
        intro t v w1 w2 h q
        match t, h with
        | 0, h => exact h
        | 1, h => exact h
        | 2, h => exact h
        | 3, h => exact h
        | 4, h => exact h
        | 5, ⟨g', z, e, h1, h2, h3, h4⟩ => exact ⟨g', z, e, h1, h2, h3, (q.block g' (heap_lt h4) (by intro e; injection e with e; exact h2 e)).trans h4⟩
        | 6, ⟨g', c', z, e, h1, h2, h3⟩ => exact ⟨g', c', z, e, own_grown h1 q (by rintro k ⟨⟩ e; have := (own_lt h1 _ e).1; have := NP.out; omega), h2, h3⟩
        | 7, h => exact h
        | _ + 8, h => exact h
      case hF2 =>
        intro t v w1 w2 hne h q
        match t, h, hne with
        | 0, h, _ => exact h
        | 1, h, _ => exact h
        | 2, h, _ => exact h
        | 3, h, _ => exact h
        | 4, h, _ => exact h
        | 5, ⟨g', z, e, h1, h2, h3, h4⟩, _ => exact ⟨g', z, e, h1, h2, h3, (q.block g' (heap_lt h4) (fun e => h3 e.symm)).trans h4⟩
        | 6, _, hne => exact absurd rfl hne
        | 7, h, _ => exact h
        | _ + 8, h, _ => exact h
      case steps =>
        intro i o hi ho s A wS hb hold hk hA hO
        match i, hi, ho, hk, hold with
        | 0, _, ho, hk, hold =>
          cases ho
          refine Qg.landsG_free rfl ?_
          exact Qf.lands_val _ _ (runFO1 rfl ((hO 3 (by rfl)).trans rfl)) ⟨hb, fun _ => Base.grown_refl _ _, fun e => absurd e (by decide), rfl⟩
        | 1, _, ho, hk, hold =>
          cases ho
          refine Qg.landsG_free rfl ?_
          have h0 := hA 0 _ 28 (by decide) rfl rfl (by simp)
          rw [show s 0 = _ from hk 0 (by kernel_rfl)] at h0
          exact Qf.lands_val _ _ (runLL rfl h0 (hb.1.c 1 (by omega))) ⟨hb, fun _ => Base.grown_refl _ _, fun e => absurd e (by decide), rfl⟩
        | 2, _, ho, hk, hold =>
          cases ho
          refine Qg.landsG_free rfl ?_
          exact Qf.lands_move _ rfl (.pointer (some ⟨p, 0, none⟩)) ((hO 0 (by rfl)).trans rfl) ⟨hb, fun _ => Base.grown_refl _ _, fun e => absurd e (by decide), rfl⟩
        | 3, _, ho, hk, hold =>
          cases ho
          refine Qg.landsG_free rfl ?_
          have h2 := hA 2 _ 30 (by decide) rfl rfl (by simp)
          rw [show s 2 = _ from hk 2 (by kernel_rfl)] at h2
          refine Qf.lands_call 20 _ _ rfl (enters_of Try.func20 (by kernel_rfl) rfl) _ (by first | (simp [h2]; done) | (simp [h2]; rfl)) ((Base.l1Below B p a len cap 262144 _ hb.1.cur (by decide) (by decide)).mono ?_)
          rintro e wT ⟨z, z0, z1, rfl, dT, gT⟩
          exact ⟨_, rfl, BD.out wS wT hb gT dT, fun _ => gT, fun e => absurd e (by decide), z, rfl, z0, by omega⟩
        | 4, _, ho, hk, hold =>
          cases ho
          refine Qg.landsG_free rfl ?_
          have h3 := hA 3 _ 31 (by decide) rfl rfl (by simp)
          obtain ⟨z, ez, z0, z1⟩ := hk 3 (by kernel_rfl)
          rw [ez] at h3
          exact Qf.lands_val _ _ (runSubC rfl h3 (wid (by omega))) ⟨hb, fun _ => Base.grown_refl _ _, fun e => absurd e (by decide), ⟨_, rfl, by omega, by omega⟩⟩
        | 5, _, ho, hk, hold =>
          cases ho
          refine Qg.landsG_free rfl ?_
          have h4 := hA 4 _ 32 (by decide) rfl rfl (by simp)
          obtain ⟨z, ez, zb⟩ := hk 4 (by kernel_rfl)
          rw [ez] at h4
          have gA : wS.grownBy (wS.alloc (.cells #[.int .i64 z] 3)) (some p) := Lib.grownBy_allocR (Base.grown_refl wS p) _
          exact Qf.lands_val _ _ (runBS1 rfl h4) ⟨BD.out _ _ hb gA (hb.1.cur.alloc _), fun _ => gA, fun e => absurd e (by decide), wS.heap.size, z, rfl, zb, by have := hb.1.pw; have := hb.1.wV; have := hb.1.VX; omega, fun e => by have := hb.2.2.2 _ e; omega, heap_alloc_new wS _⟩
        | 6, _, ho, hk, hold =>
          cases ho
          refine Qg.landsG_free rfl ?_
          have h1 := hA 1 _ 29 (by decide) rfl rfl (by simp)
          have h5 := hA 5 _ 33 (by decide) rfl rfl (by simp)
          rw [show s 1 = _ from hk 1 (by kernel_rfl)] at h1
          obtain ⟨g', z, eg, zb, gp, go, gh⟩ := hk 5 (by kernel_rfl)
          rw [eg] at h5
          refine lands_app rfl h1 (hold rfl) h5 gh zb (by omega) (by have := hb.1.VX; omega) (fun g2 c2 w2 r2 q2 hat => ?_)
          have fb : ∀ q, v1.ownBlock = some q → vb < q := fun q h => (OL.out q h).1
          refine ⟨⟨hb.1.far hB q2 fb, own_grown hb.2.1 q2 (fun q h e => NA.out.1 q h e), own_grown hb.2.2.1 q2 (fun q h e => NA.out.2 q h e), fun q h => Nat.lt_of_lt_of_le (hb.2.2.2 q h) q2.size⟩, fun e => absurd rfl e, fun _ => q2, g2, c2, z, rfl, r2, ?_, ?_⟩
          · rcases hat with e | e
            · exact NA.out.1 g2 e
            · intro e2; have := (own_lt hb.2.1 _ e2).2; omega
          · rcases hat with e | e
            · exact NA.out.2 g2 e
            · intro e2; have := (own_lt hb.2.2.1 _ e2).2; omega
        | 7, _, ho, hk, hold =>
          cases ho
          refine Qg.landsG_free rfl ?_
          exact Qf.lands_val _ _ (runFO1 rfl ((hO 3 (by rfl)).trans rfl)) ⟨hb, fun _ => Base.grown_refl _ _, fun e => absurd e (by decide), rfl⟩
        | _ + 8, hi, _, _, _ => exact absurd hi (by omega)
      case rest =>
      intro s' XXb hb hk
      obtain ⟨gab, gcb, gzb, eq, hrow, hna, hnc⟩ := hk 6 (by decide)
      have ef : s' 7 = _ := hk 7 (by decide)
      obtain ⟨XYb, hXYb⟩ : ∃ XYb, XXb.setCell ⟨vb, 1, none⟩ (.slice (some ⟨gab, 0, none⟩) (k + 1) gcb) = XYb := ⟨_, rfl⟩
      obtain ⟨uq, eu⟩ : ∃ u, XXb.cell? ⟨vb, 1, none⟩ = some u := ⟨_, hb.1.c 1 (by omega)⟩
      have fu : XXb.frozen? ⟨vb, 1, none⟩ = false := hb.1.fz 1
      replace HG := Base.hide (show OD w XYb B p a len cap vb (k + 1) (k + 1) (k) (vna) (.slice (some ⟨gab, 0, none⟩) (k + 1) gcb) (v2) (upI D0 k gza) (upI D1 k gzb) D2 y F z from hXYb ▸ ⟨(hb.1.set hB 1 _ (by omega)).same (fun i hi => by rcases (by omega : i = 0 ∨ i = 1 ∨ i = 2 ∨ i = 3 ∨ i = 4 ∨ i = 5) with rfl | rfl | rfl | rfl | rfl | rfl <;> rfl), own_celA hb.2.1 (Nat.lt_succ_self _), own_celA hrow (Nat.lt_succ_self _), own_celA hb.2.2.1 (Nat.lt_succ_self _), fun q h e => by cases e; exact hna h, OTH.out.2.1, fun q h e => by cases h; exact hnc e⟩)
      simp only [List.take_succ_cons, List.take_zero, List.drop_succ_cons, List.drop_zero, Qf.lay, Qf.all1, if_true, eq, ef]
      simp only [Act.put, List.setIfInBounds_toArray, List.set_cons_succ, List.set_cons_zero]
      clear hk hb hrow hna hnc eq ef B0 BD OJ OL NA OTH NP
      go_wp2_with fail
      clear hXYb eu fu
      obtain ⟨vnb, hvn⟩ : ∃ z : Value, Value.slice (some ⟨gab, 0, none⟩) (k + 1) gcb = z := ⟨_, rfl⟩
      rw [hvn] at HG
      clear hvn
      have NP := Base.hide HG.out.np
      have NA := Base.hide (show (∀ q, v2.ownBlock = some q → vna.ownBlock ≠ some q) ∧ (∀ q, v2.ownBlock = some q → vnb.ownBlock ≠ some q) from ⟨fun q h1 h2 => HG.out.n02 q h2 h1, fun q h1 h2 => HG.out.n12 q h2 h1⟩)
      have OJ := Base.hide HG.out.r2
      have OL := Base.hide (show ∀ q, v2.ownBlock = some q → vb < q ∧ q < XYb.heap.size from fun q h => by have := own_lt HG.out.r2 q h; omega)
      have B0 := Base.hide (show (fun X => DS 6 w X B p a len cap vb (OW vna vnb v2 y F z) Z6 ∧ RowV (vb + 1) X vna (k + 1) (upI D0 k gza) ∧ RowV (vb + 1) X vnb (k + 1) (upI D1 k gzb) ∧ ∀ q, v2.ownBlock = some q → q < X.heap.size) XYb from ⟨HG.out.d, HG.out.r0, HG.out.r1, fun q h => (OL.out q h).2⟩)
      have BD := Base.hide (show ∀ X X', (fun X => DS 6 w X B p a len cap vb (OW vna vnb v2 y F z) Z6 ∧ RowV (vb + 1) X vna (k + 1) (upI D0 k gza) ∧ RowV (vb + 1) X vnb (k + 1) (upI D1 k gzb) ∧ ∀ q, v2.ownBlock = some q → q < X.heap.size) X → X.grownBy X' (some p) → Base.Cur B X' p a len cap → (fun X => DS 6 w X B p a len cap vb (OW vna vnb v2 y F z) Z6 ∧ RowV (vb + 1) X vna (k + 1) (upI D0 k gza) ∧ RowV (vb + 1) X vnb (k + 1) (upI D1 k gzb) ∧ ∀ q, v2.ownBlock = some q → q < X.heap.size) X' from fun X X' ⟨b1, b2, b3, b4⟩ q cu => ⟨b1.draw q cu, own_grown b2 q (by rintro k ⟨⟩ e; have := (own_lt b2 _ e).1; have := NP.out; omega), own_grown b3 q (by rintro k ⟨⟩ e; have := (own_lt b3 _ e).1; have := NP.out; omega), fun q' h => Nat.lt_of_lt_of_le (b4 q' h) q.size⟩)
      have OTH := Base.hide (And.intro HG.out.n01 (And.intro HG.out.n02 HG.out.n12))
      refine Qm.factsO 7 5 (fun X => DS 6 w X B p a len cap vb (OW vna vnb v2 y F z) Z6 ∧ RowV (vb + 1) X vna (k + 1) (upI D0 k gza) ∧ RowV (vb + 1) X vnb (k + 1) (upI D1 k gzb) ∧ ∀ q, v2.ownBlock = some q → q < X.heap.size) (fun X => RowV (vb + 1) X v2 k D2) (fun t v wx => match t with | 0 => v = .pointer (some ⟨vb, 2, none⟩) | 1 => v = v2 | 2 => v = .pointer (some ⟨p, 0, none⟩) | 3 => ∃ z : Int, v = .int .i64 z ∧ 0 ≤ z ∧ z ≤ 4194303 | 4 => ∃ (g' : Nat) (z : Int), v = .slice (some ⟨g', 0, none⟩) 1 1 ∧ bd z ∧ g' ≠ p ∧ v2.ownBlock ≠ some g' ∧ wx.heap[g']? = some (.cells #[.int .i64 z] 3 (0, 0)) | 5 => ∃ (g' c' : Nat) (z : Int), v = .slice (some ⟨g', 0, none⟩) (k + 1) c' ∧ RowV (vb + 1) wx (.slice (some ⟨g', 0, none⟩) (k + 1) c') (k + 1) (upI D2 k z) ∧ vna.ownBlock ≠ some g' ∧ vnb.ownBlock ≠ some g' | 6 => v = .pointer (some ⟨vb, 2, none⟩) | _ => True) (fun w1 w2 => w1.grownBy w2 (some p)) (fun w1 w2 => w1.grownBy w2 v2.ownBlock) (by kernel_rfl) (by kernel_rfl) ?hb0 ?ho0 ?hO ?hF1 ?hF2 ?steps ?rest
      case hb0 => exact BD.out XYb _ B0.out (Base.grown_drew XYb 1 p) (cur_belA HG.out.d.cur (Below.refl XYb.heap.size XYb).drew)
      case ho0 => exact own_grown OJ.out (Base.grown_drew XYb 1 p) (by rintro k ⟨⟩ e; have := (OL.out _ e).1; have := NP.out; omega)
      case hO => exact fun w1 w2 h q => own_grown h q (by rintro k ⟨⟩ e; have := (OL.out _ e).1; have := NP.out; omega)
      case hF1 =>
        intro t v w1 w2 h q
        match t, h with
        | 0, h => exact h
        | 1, h => exact h
        | 2, h => exact h
        | 3, h => exact h
        | 4, ⟨g', z, e, h1, h2, h3, h4⟩ => exact ⟨g', z, e, h1, h2, h3, (q.block g' (heap_lt h4) (by intro e; injection e with e; exact h2 e)).trans h4⟩
        | 5, ⟨g', c', z, e, h1, h2, h3⟩ => exact ⟨g', c', z, e, own_grown h1 q (by rintro k ⟨⟩ e; have := (own_lt h1 _ e).1; have := NP.out; omega), h2, h3⟩
        | 6, h => exact h
        | _ + 7, h => exact h
      case hF2 =>
        intro t v w1 w2 hne h q
        match t, h, hne with
        | 0, h, _ => exact h
        | 1, h, _ => exact h
        | 2, h, _ => exact h
        | 3, h, _ => exact h
        | 4, ⟨g', z, e, h1, h2, h3, h4⟩, _ => exact ⟨g', z, e, h1, h2, h3, (q.block g' (heap_lt h4) (fun e => h3 e.symm)).trans h4⟩
        | 5, _, hne => exact absurd rfl hne
        | 6, h, _ => exact h
        | _ + 7, h, _ => exact h
      case steps =>
        intro i o hi ho s A wS hb hold hk hA hO
        match i, hi, ho, hk, hold with
        | 0, _, ho, hk, hold =>
          cases ho
          refine Qg.landsG_free rfl ?_
          exact Qf.lands_val _ _ (runFO2 rfl ((hO 3 (by rfl)).trans rfl)) ⟨hb, fun _ => Base.grown_refl _ _, fun e => absurd e (by decide), rfl⟩
        | 1, _, ho, hk, hold =>
          cases ho
          refine Qg.landsG_free rfl ?_
          have h0 := hA 0 _ 36 (by decide) rfl rfl (by simp)
          rw [show s 0 = _ from hk 0 (by kernel_rfl)] at h0
          exact Qf.lands_val _ _ (runLL rfl h0 (hb.1.c 2 (by omega))) ⟨hb, fun _ => Base.grown_refl _ _, fun e => absurd e (by decide), rfl⟩
        | 2, _, ho, hk, hold =>
          cases ho
          refine Qg.landsG_free rfl ?_
          exact Qf.lands_move _ rfl (.pointer (some ⟨p, 0, none⟩)) ((hO 0 (by rfl)).trans rfl) ⟨hb, fun _ => Base.grown_refl _ _, fun e => absurd e (by decide), rfl⟩
        | 3, _, ho, hk, hold =>
          cases ho
          refine Qg.landsG_free rfl ?_
          have h2 := hA 2 _ 38 (by decide) rfl rfl (by simp)
          rw [show s 2 = _ from hk 2 (by kernel_rfl)] at h2
          refine Qf.lands_call 20 _ _ rfl (enters_of Try.func20 (by kernel_rfl) rfl) _ (by first | (simp [h2]; done) | (simp [h2]; rfl)) ((Base.l1Below B p a len cap 262144 _ hb.1.cur (by decide) (by decide)).mono ?_)
          rintro e wT ⟨z, z0, z1, rfl, dT, gT⟩
          exact ⟨_, rfl, BD.out wS wT hb gT dT, fun _ => gT, fun e => absurd e (by decide), z, rfl, z0, by omega⟩
        | 4, _, ho, hk, hold =>
          cases ho
          refine Qg.landsG_free rfl ?_
          have h3 := hA 3 _ 39 (by decide) rfl rfl (by simp)
          obtain ⟨z, ez, z0, z1⟩ := hk 3 (by kernel_rfl)
          have zb : bd z := ⟨by omega, by omega⟩
          rw [ez] at h3
          have gA : wS.grownBy (wS.alloc (.cells #[.int .i64 z] 3)) (some p) := Lib.grownBy_allocR (Base.grown_refl wS p) _
          exact Qf.lands_val _ _ (runBS1 rfl h3) ⟨BD.out _ _ hb gA (hb.1.cur.alloc _), fun _ => gA, fun e => absurd e (by decide), wS.heap.size, z, rfl, zb, by have := hb.1.pw; have := hb.1.wV; have := hb.1.VX; omega, fun e => by have := hb.2.2.2 _ e; omega, heap_alloc_new wS _⟩
        | 5, _, ho, hk, hold =>
          cases ho
          refine Qg.landsG_free rfl ?_
          have h1 := hA 1 _ 37 (by decide) rfl rfl (by simp)
          have h4 := hA 4 _ 40 (by decide) rfl rfl (by simp)
          rw [show s 1 = _ from hk 1 (by kernel_rfl)] at h1
          obtain ⟨g', z, eg, zb, gp, go, gh⟩ := hk 4 (by kernel_rfl)
          rw [eg] at h4
          refine lands_app rfl h1 (hold rfl) h4 gh zb (by omega) (by have := hb.1.VX; omega) (fun g2 c2 w2 r2 q2 hat => ?_)
          have fb : ∀ q, v2.ownBlock = some q → vb < q := fun q h => (OL.out q h).1
          refine ⟨⟨hb.1.far hB q2 fb, own_grown hb.2.1 q2 (fun q h e => NA.out.1 q h e), own_grown hb.2.2.1 q2 (fun q h e => NA.out.2 q h e), fun q h => Nat.lt_of_lt_of_le (hb.2.2.2 q h) q2.size⟩, fun e => absurd rfl e, fun _ => q2, g2, c2, z, rfl, r2, ?_, ?_⟩
          · rcases hat with e | e
            · exact NA.out.1 g2 e
            · intro e2; have := (own_lt hb.2.1 _ e2).2; omega
          · rcases hat with e | e
            · exact NA.out.2 g2 e
            · intro e2; have := (own_lt hb.2.2.1 _ e2).2; omega
        | 6, _, ho, hk, hold =>
          cases ho
          refine Qg.landsG_free rfl ?_
          exact Qf.lands_val _ _ (runFO2 rfl ((hO 3 (by rfl)).trans rfl)) ⟨hb, fun _ => Base.grown_refl _ _, fun e => absurd e (by decide), rfl⟩
        | _ + 7, hi, _, _, _ => exact absurd hi (by omega)
      case rest =>
      intro s' XXc hb hk
      obtain ⟨gac, gcc, gzc, eq, hrow, hna, hnc⟩ := hk 5 (by decide)
      have ef : s' 6 = _ := hk 6 (by decide)
      obtain ⟨XYc, hXYc⟩ : ∃ XYc, XXc.setCell ⟨vb, 2, none⟩ (.slice (some ⟨gac, 0, none⟩) (k + 1) gcc) = XYc := ⟨_, rfl⟩
      obtain ⟨uq, eu⟩ : ∃ u, XXc.cell? ⟨vb, 2, none⟩ = some u := ⟨_, hb.1.c 2 (by omega)⟩
      have fu : XXc.frozen? ⟨vb, 2, none⟩ = false := hb.1.fz 2
      replace HG := Base.hide (show OD w XYc B p a len cap vb (k + 1) (k + 1) (k + 1) (vna) (vnb) (.slice (some ⟨gac, 0, none⟩) (k + 1) gcc) (upI D0 k gza) (upI D1 k gzb) (upI D2 k gzc) y F z from hXYc ▸ ⟨(hb.1.set hB 2 _ (by omega)).same (fun i hi => by rcases (by omega : i = 0 ∨ i = 1 ∨ i = 2 ∨ i = 3 ∨ i = 4 ∨ i = 5) with rfl | rfl | rfl | rfl | rfl | rfl <;> rfl), own_celA hb.2.1 (Nat.lt_succ_self _), own_celA hb.2.2.1 (Nat.lt_succ_self _), own_celA hrow (Nat.lt_succ_self _), OTH.out.1, fun q h e => by cases e; exact hna h, fun q h e => by cases e; exact hnc h⟩)
      simp only [List.take_succ_cons, List.take_zero, List.drop_succ_cons, List.drop_zero, Qf.lay, Qf.all1, if_true, eq, ef]
      simp only [Act.put, List.setIfInBounds_toArray, List.set_cons_succ, List.set_cons_zero]
      clear hk hb hrow hna hnc eq ef B0 BD OJ OL NA OTH NP
      go_wp2_with fail
      clear hXYc eu fu
      obtain ⟨vnc, hvn⟩ : ∃ z : Value, Value.slice (some ⟨gac, 0, none⟩) (k + 1) gcc = z := ⟨_, rfl⟩
      rw [hvn] at HG
      clear hvn
      go_roundw
      case rel => exact ⟨m - 1, k + 1, _, _, _, _, _, _, by omega, by go_num, HG.out⟩
      case measure => simp [intOf]; omega
    · have hm' : decide (0 < (m : Int)) = false := decide_eq_false hm
      have hm'' : decide (0 < m) = false := decide_eq_false (by omega)
      replace KM := Base.hide (show k ≤ 6 by omega)
      clear hm
      go_upto_region 8 with fail
      clear hm' hm''
      go_cut [50] (fun t wx => ∃ bb : Bool, t = .bool bb ∧ (bb = true → 0 < k) ∧ OD w wx B p a len cap vb k k k v0 v1 v2 D0 D1 D2 y F z)
      case first =>
        go_wp2_with fail
        refine (Nef.l1Once B p a len cap 8 _ HG.out.d.cur (by decide) (by decide)).mono ?_; rintro e w5 ⟨bb, rfl, d5, g5⟩
        replace HG := Base.hide (HG.out.draw g5 d5)
        clear d5 g5
        cases bb
        · go_wp2_with fail
          go_meet
          exact ⟨false, rfl, fun e => Bool.noConfusion e, HG.out⟩
        obtain ⟨a0, c0, e0, l0⟩ := row_L3 HG.out.r0 KM.out
        have p0 : w5.cell? ⟨vb, 0, none⟩ = some (.slice a0 k c0) := by rw [← e0]; exact HG.out.d.c 0 (by omega)
        clear e0 l0
        by_cases k0 : k = 0
        · subst k0
          go_wp2_with fail
          go_meet
          exact ⟨false, rfl, fun e => Bool.noConfusion e, HG.out⟩
        · have kd : decide ((0 : Int) < (k : Int)) = true := decide_eq_true (by omega)
          have kd' : decide (0 < k) = true := decide_eq_true (by omega)
          have K0 := Base.hide (show 0 < k by omega)
          clear k0
          go_wp2_with fail
          go_meet
          exact ⟨true, rfl, fun _ => K0.out, HG.out⟩
      case rest =>
      obtain ⟨bb, rfl, hk0, hD⟩ := hcut
      replace HG := Base.hide hD
      have HK0 := Base.hide hk0
      clear hD hk0
      go_upto_if 50 with fail
      go_cut [] (fun wx => OpD w wx B p a len cap vb)
      case first =>
        cases bb
        · go_wp2_with fail
          go_meet
          exact HG.out.op KM.out YB.out.1 FB.out YB.out.2
        have K0 := Base.hide (HK0.out rfl)
        obtain ⟨g0, c0, e0, x0, m0, -⟩ := row_some HG.out.r0 K0.out
        obtain ⟨g1, c1, e1, x1, m1, -⟩ := row_some HG.out.r1 K0.out
        obtain ⟨g2, c2, e2, x2, m2, -⟩ := row_some HG.out.r2 K0.out
        subst e0
        subst e1
        subst e2
        have M1 := Base.hide m1
        clear x0 x1 x2 m0 m1 m2
        go_wp2_with fail
        refine (Base.l1Below B p a len cap 6 _ HG.out.d.cur (by decide) (by decide)).mono ?_; rintro e wz ⟨j, j0, j1, rfl, dj, gj⟩
        replace HG := Base.hide (HG.out.draw gj dj)
        clear dj gj
        obtain ⟨jn, rfl⟩ := Int.eq_ofNat_of_zero_le j0
        have hj6 : jn < 6 := by omega
        clear j0 j1
        rcases (by omega : jn = 0 ∨ jn = 1 ∨ jn = 2 ∨ jn = 3 ∨ jn = 4 ∨ jn = 5) with rfl | rfl | rfl | rfl | rfl | rfl
        · go_upto_region 11 with fail
          refine Qm.factsO 6 99 (fun X => OD w X B p a len cap vb k k k (.slice (some ⟨g0, 0, none⟩) k c0) (.slice (some ⟨g1, 0, none⟩) k c1) (.slice (some ⟨g2, 0, none⟩) k c2) D0 D1 D2 y F z) (fun _ => True) (fun t v wx => match t with | 0 => v = .pointer (some ⟨vb, 0, none⟩) | 1 => v = .slice (some ⟨g0, 0, none⟩) k c0 | 2 => v = .pointer (some ⟨p, 0, none⟩) | 3 => ∃ q : Nat, v = .slice (some ⟨q, 0, none⟩) 3 3 ∧ q ≠ p ∧ ∀ i, i < 3 → ∃ z : Int, wx.cell? ⟨q, i, none⟩ = some (.int .i64 z) ∧ -9223372036854775808 ≤ z ∧ z ≤ 9223372036854775807 | 4 => ∃ z : Int, v = .int .i64 z ∧ bd z | 5 => v = .pointer (some ⟨g0, 0, none⟩) | _ => True) (fun w1 w2 => w1.grownBy w2 (some p)) (fun _ _ => False) (by kernel_rfl) (by kernel_rfl) ?hb0 trivial (fun _ _ _ _ => trivial) ?hF1 (fun _ _ _ _ _ _ h => h.elim) ?steps ?rst
          case hb0 => exact HG.out.draw (Base.grown_drew _ 1 p) (cur_belA HG.out.d.cur (Below.refl _ _).drew)
          case hF1 =>
            intro t v w1 w2 h q
            match t, h with
            | 0, h => exact h
            | 1, h => exact h
            | 2, h => exact h
            | 3, ⟨q', e, h1, h2⟩ => exact ⟨q', e, h1, fun i hi => by obtain ⟨z, hz, zb⟩ := h2 i hi; exact ⟨z, q.cell hz (by intro e; injection e with e; exact h1 e), zb⟩⟩
            | 4, h => exact h
            | 5, h => exact h
            | _ + 6, h => exact h
          case steps =>
            intro i o hi ho s A wS hb hold hk hA hO
            match i, hi, ho, hk with
            | 0, _, ho, hk =>
              cases ho
              refine Qg.landsG_free rfl ?_
              exact Qf.lands_val _ _ (runFO0 rfl ((hO 3 (by rfl)).trans rfl)) ⟨hb, fun _ => Base.grown_refl _ _, fun e => absurd e (by decide), rfl⟩
            | 1, _, ho, hk =>
              cases ho
              refine Qg.landsG_free rfl ?_
              have h0 := hA 0 _ 55 (by decide) rfl rfl (by simp)
              rw [show s 0 = _ from hk 0 (by kernel_rfl)] at h0
              exact Qf.lands_val _ _ (runLL rfl h0 (hb.d.c 0 (by omega))) ⟨hb, fun _ => Base.grown_refl _ _, fun e => absurd e (by decide), rfl⟩
            | 2, _, ho, hk =>
              cases ho
              refine Qg.landsG_free rfl ?_
              exact Qf.lands_move _ rfl (.pointer (some ⟨p, 0, none⟩)) ((hO 0 (by rfl)).trans rfl) ⟨hb, fun _ => Base.grown_refl _ _, fun e => absurd e (by decide), rfl⟩
            | 3, _, ho, hk =>
              cases ho
              refine Qg.landsG_free rfl ?_
              have gA : wS.grownBy (wS.alloc (.cells #[.int .i64 68719476736, .int .i64 (-68719476736), .int .i64 68719476737] 3)) (some p) := Lib.grownBy_allocR (Base.grown_refl wS p) _
              exact Qf.lands_val _ _ (runBS3 rfl) ⟨hb.draw gA (hb.d.cur.alloc _), fun _ => gA, fun e => absurd e (by decide), wS.heap.size, rfl, by have := hb.d.cur.lt; omega, Base.laid_ints wS [68719476736, -68719476736, 68719476737] 3 (-9223372036854775808) 9223372036854775807 (by intro q hq; simp at hq; omega)⟩
            | 4, _, ho, hk =>
              cases ho
              refine Qg.landsG_free rfl ?_
              have h2 := hA 2 _ 57 (by decide) rfl rfl (by simp)
              have h3 := hA 3 _ 58 (by decide) rfl rfl (by simp)
              rw [show s 2 = _ from hk 2 (by kernel_rfl)] at h2
              obtain ⟨q, eq, hq, hl⟩ := hk 3 (by kernel_rfl)
              rw [eq] at h3
              refine Qf.lands_call 41 _ _ rfl (enters_of Try.func41 (by kernel_rfl) rfl) _ (by first | (simp [h2, h3]; done) | (simp [h2, h3]; rfl)) ((Base.l1PickInt B p a len cap q 3 (-9223372036854775808) 9223372036854775807 _ hb.d.cur hq (by decide) (by decide) hl).mono ?_)
              rintro e wT ⟨z, z0, z1, rfl, dT, gT⟩
              exact ⟨_, rfl, hb.draw gT dT, fun _ => gT, fun e => absurd e (by decide), z, rfl, z0, z1⟩
            | 5, _, ho, hk =>
              cases ho
              refine Qg.landsG_free rfl ?_
              have h1 := hA 1 _ 56 (by decide) rfl rfl (by simp)
              rw [show s 1 = _ from hk 1 (by kernel_rfl)] at h1
              exact Qf.lands_val _ _ (runIx0 rfl h1 K0.out) ⟨hb, fun _ => Base.grown_refl _ _, fun e => absurd e (by decide), rfl⟩
            | _ + 6, hi, _, _ => exact absurd hi (by omega)
          case rst =>
          intro s' XX hb hk
          obtain ⟨zz, ez, zb⟩ := hk 4 (by decide)
          have ef : s' 5 = _ := hk 5 (by decide)
          have PU := Base.hide (hb.pick0 hB KM.out K0.out YB.out.1 FB.out YB.out.2 zb)
          obtain ⟨q0, d0, e0, vv, mm, RR⟩ := row_some hb.r0 K0.out
          cases e0
          have cc := (RR 0 K0.out).1
          have ff := (RR 0 K0.out).2.1
          simp only [List.take_succ_cons, List.take_zero, List.drop_succ_cons, List.drop_zero, Qf.lay, Qf.all1, if_true, ez, ef]
          simp only [Act.put, List.setIfInBounds_toArray, List.set_cons_succ, List.set_cons_zero]
          clear hk hb ez ef vv mm RR zb
          go_wp2_with fail
          go_meet
          exact PU.out.1
        · go_upto_region 13 with fail
          refine Qm.factsO 6 99 (fun X => OD w X B p a len cap vb k k k (.slice (some ⟨g0, 0, none⟩) k c0) (.slice (some ⟨g1, 0, none⟩) k c1) (.slice (some ⟨g2, 0, none⟩) k c2) D0 D1 D2 y F z) (fun _ => True) (fun t v wx => match t with | 0 => v = .pointer (some ⟨vb, 1, none⟩) | 1 => v = .slice (some ⟨g1, 0, none⟩) k c1 | 2 => v = .pointer (some ⟨p, 0, none⟩) | 3 => ∃ q : Nat, v = .slice (some ⟨q, 0, none⟩) 3 3 ∧ q ≠ p ∧ ∀ i, i < 3 → ∃ z : Int, wx.cell? ⟨q, i, none⟩ = some (.int .i64 z) ∧ -9223372036854775808 ≤ z ∧ z ≤ 9223372036854775807 | 4 => ∃ z : Int, v = .int .i64 z ∧ bd z | 5 => v = .pointer (some ⟨g1, 0, none⟩) | _ => True) (fun w1 w2 => w1.grownBy w2 (some p)) (fun _ _ => False) (by kernel_rfl) (by kernel_rfl) ?hb0 trivial (fun _ _ _ _ => trivial) ?hF1 (fun _ _ _ _ _ _ h => h.elim) ?steps ?rst
          case hb0 => exact HG.out.draw (Base.grown_drew _ 1 p) (cur_belA HG.out.d.cur (Below.refl _ _).drew)
          case hF1 =>
            intro t v w1 w2 h q
            match t, h with
            | 0, h => exact h
            | 1, h => exact h
            | 2, h => exact h
            | 3, ⟨q', e, h1, h2⟩ => exact ⟨q', e, h1, fun i hi => by obtain ⟨z, hz, zb⟩ := h2 i hi; exact ⟨z, q.cell hz (by intro e; injection e with e; exact h1 e), zb⟩⟩
            | 4, h => exact h
            | 5, h => exact h
            | _ + 6, h => exact h
          case steps =>
            intro i o hi ho s A wS hb hold hk hA hO
            match i, hi, ho, hk with
            | 0, _, ho, hk =>
              cases ho
              refine Qg.landsG_free rfl ?_
              exact Qf.lands_val _ _ (runFO1 rfl ((hO 3 (by rfl)).trans rfl)) ⟨hb, fun _ => Base.grown_refl _ _, fun e => absurd e (by decide), rfl⟩
            | 1, _, ho, hk =>
              cases ho
              refine Qg.landsG_free rfl ?_
              have h0 := hA 0 _ 63 (by decide) rfl rfl (by simp)
              rw [show s 0 = _ from hk 0 (by kernel_rfl)] at h0
              exact Qf.lands_val _ _ (runLL rfl h0 (hb.d.c 1 (by omega))) ⟨hb, fun _ => Base.grown_refl _ _, fun e => absurd e (by decide), rfl⟩
            | 2, _, ho, hk =>
              cases ho
              refine Qg.landsG_free rfl ?_
              exact Qf.lands_move _ rfl (.pointer (some ⟨p, 0, none⟩)) ((hO 0 (by rfl)).trans rfl) ⟨hb, fun _ => Base.grown_refl _ _, fun e => absurd e (by decide), rfl⟩
            | 3, _, ho, hk =>
              cases ho
              refine Qg.landsG_free rfl ?_
              have gA : wS.grownBy (wS.alloc (.cells #[.int .i64 4294967296, .int .i64 (-4294967296), .int .i64 4294967297] 3)) (some p) := Lib.grownBy_allocR (Base.grown_refl wS p) _
              exact Qf.lands_val _ _ (runBS3 rfl) ⟨hb.draw gA (hb.d.cur.alloc _), fun _ => gA, fun e => absurd e (by decide), wS.heap.size, rfl, by have := hb.d.cur.lt; omega, Base.laid_ints wS [4294967296, -4294967296, 4294967297] 3 (-9223372036854775808) 9223372036854775807 (by intro q hq; simp at hq; omega)⟩
            | 4, _, ho, hk =>
              cases ho
              refine Qg.landsG_free rfl ?_
              have h2 := hA 2 _ 65 (by decide) rfl rfl (by simp)
              have h3 := hA 3 _ 66 (by decide) rfl rfl (by simp)
              rw [show s 2 = _ from hk 2 (by kernel_rfl)] at h2
              obtain ⟨q, eq, hq, hl⟩ := hk 3 (by kernel_rfl)
              rw [eq] at h3
              refine Qf.lands_call 41 _ _ rfl (enters_of Try.func41 (by kernel_rfl) rfl) _ (by first | (simp [h2, h3]; done) | (simp [h2, h3]; rfl)) ((Base.l1PickInt B p a len cap q 3 (-9223372036854775808) 9223372036854775807 _ hb.d.cur hq (by decide) (by decide) hl).mono ?_)
              rintro e wT ⟨z, z0, z1, rfl, dT, gT⟩
              exact ⟨_, rfl, hb.draw gT dT, fun _ => gT, fun e => absurd e (by decide), z, rfl, z0, z1⟩
            | 5, _, ho, hk =>
              cases ho
              refine Qg.landsG_free rfl ?_
              have h1 := hA 1 _ 64 (by decide) rfl rfl (by simp)
              rw [show s 1 = _ from hk 1 (by kernel_rfl)] at h1
              exact Qf.lands_val _ _ (runIx0 rfl h1 K0.out) ⟨hb, fun _ => Base.grown_refl _ _, fun e => absurd e (by decide), rfl⟩
            | _ + 6, hi, _, _ => exact absurd hi (by omega)
          case rst =>
          intro s' XX hb hk
          obtain ⟨zz, ez, zb⟩ := hk 4 (by decide)
          have ef : s' 5 = _ := hk 5 (by decide)
          have PU := Base.hide (hb.pick0 hB KM.out K0.out YB.out.1 FB.out YB.out.2 zb)
          obtain ⟨q1, d1, e1, vv, mm, RR⟩ := row_some hb.r1 K0.out
          cases e1
          have cc := (RR 0 K0.out).1
          have ff := (RR 0 K0.out).2.1
          simp only [List.take_succ_cons, List.take_zero, List.drop_succ_cons, List.drop_zero, Qf.lay, Qf.all1, if_true, ez, ef]
          simp only [Act.put, List.setIfInBounds_toArray, List.set_cons_succ, List.set_cons_zero]
          clear hk hb ez ef vv mm RR zb
          go_wp2_with fail
          go_meet
          exact PU.out.2.1
        · go_upto_region 15 with fail
          refine Qm.factsO 6 99 (fun X => OD w X B p a len cap vb k k k (.slice (some ⟨g0, 0, none⟩) k c0) (.slice (some ⟨g1, 0, none⟩) k c1) (.slice (some ⟨g2, 0, none⟩) k c2) D0 D1 D2 y F z) (fun _ => True) (fun t v wx => match t with | 0 => v = .pointer (some ⟨vb, 2, none⟩) | 1 => v = .slice (some ⟨g2, 0, none⟩) k c2 | 2 => v = .pointer (some ⟨p, 0, none⟩) | 3 => ∃ q : Nat, v = .slice (some ⟨q, 0, none⟩) 3 3 ∧ q ≠ p ∧ ∀ i, i < 3 → ∃ z : Int, wx.cell? ⟨q, i, none⟩ = some (.int .i64 z) ∧ -9223372036854775808 ≤ z ∧ z ≤ 9223372036854775807 | 4 => ∃ z : Int, v = .int .i64 z ∧ bd z | 5 => v = .pointer (some ⟨g2, 0, none⟩) | _ => True) (fun w1 w2 => w1.grownBy w2 (some p)) (fun _ _ => False) (by kernel_rfl) (by kernel_rfl) ?hb0 trivial (fun _ _ _ _ => trivial) ?hF1 (fun _ _ _ _ _ _ h => h.elim) ?steps ?rst
          case hb0 => exact HG.out.draw (Base.grown_drew _ 1 p) (cur_belA HG.out.d.cur (Below.refl _ _).drew)
          case hF1 =>
            intro t v w1 w2 h q
            match t, h with
            | 0, h => exact h
            | 1, h => exact h
            | 2, h => exact h
            | 3, ⟨q', e, h1, h2⟩ => exact ⟨q', e, h1, fun i hi => by obtain ⟨z, hz, zb⟩ := h2 i hi; exact ⟨z, q.cell hz (by intro e; injection e with e; exact h1 e), zb⟩⟩
            | 4, h => exact h
            | 5, h => exact h
            | _ + 6, h => exact h
          case steps =>
            intro i o hi ho s A wS hb hold hk hA hO
            match i, hi, ho, hk with
            | 0, _, ho, hk =>
              cases ho
              refine Qg.landsG_free rfl ?_
              exact Qf.lands_val _ _ (runFO2 rfl ((hO 3 (by rfl)).trans rfl)) ⟨hb, fun _ => Base.grown_refl _ _, fun e => absurd e (by decide), rfl⟩
            | 1, _, ho, hk =>
              cases ho
              refine Qg.landsG_free rfl ?_
              have h0 := hA 0 _ 71 (by decide) rfl rfl (by simp)
              rw [show s 0 = _ from hk 0 (by kernel_rfl)] at h0
              exact Qf.lands_val _ _ (runLL rfl h0 (hb.d.c 2 (by omega))) ⟨hb, fun _ => Base.grown_refl _ _, fun e => absurd e (by decide), rfl⟩
            | 2, _, ho, hk =>
              cases ho
              refine Qg.landsG_free rfl ?_
              exact Qf.lands_move _ rfl (.pointer (some ⟨p, 0, none⟩)) ((hO 0 (by rfl)).trans rfl) ⟨hb, fun _ => Base.grown_refl _ _, fun e => absurd e (by decide), rfl⟩
            | 3, _, ho, hk =>
              cases ho
              refine Qg.landsG_free rfl ?_
              have gA : wS.grownBy (wS.alloc (.cells #[.int .i64 17179869184, .int .i64 17179869185, .int .i64 (-1)] 3)) (some p) := Lib.grownBy_allocR (Base.grown_refl wS p) _
              exact Qf.lands_val _ _ (runBS3 rfl) ⟨hb.draw gA (hb.d.cur.alloc _), fun _ => gA, fun e => absurd e (by decide), wS.heap.size, rfl, by have := hb.d.cur.lt; omega, Base.laid_ints wS [17179869184, 17179869185, -1] 3 (-9223372036854775808) 9223372036854775807 (by intro q hq; simp at hq; omega)⟩
            | 4, _, ho, hk =>
              cases ho
              refine Qg.landsG_free rfl ?_
              have h2 := hA 2 _ 73 (by decide) rfl rfl (by simp)
              have h3 := hA 3 _ 74 (by decide) rfl rfl (by simp)
              rw [show s 2 = _ from hk 2 (by kernel_rfl)] at h2
              obtain ⟨q, eq, hq, hl⟩ := hk 3 (by kernel_rfl)
              rw [eq] at h3
              refine Qf.lands_call 41 _ _ rfl (enters_of Try.func41 (by kernel_rfl) rfl) _ (by first | (simp [h2, h3]; done) | (simp [h2, h3]; rfl)) ((Base.l1PickInt B p a len cap q 3 (-9223372036854775808) 9223372036854775807 _ hb.d.cur hq (by decide) (by decide) hl).mono ?_)
              rintro e wT ⟨z, z0, z1, rfl, dT, gT⟩
              exact ⟨_, rfl, hb.draw gT dT, fun _ => gT, fun e => absurd e (by decide), z, rfl, z0, z1⟩
            | 5, _, ho, hk =>
              cases ho
              refine Qg.landsG_free rfl ?_
              have h1 := hA 1 _ 72 (by decide) rfl rfl (by simp)
              rw [show s 1 = _ from hk 1 (by kernel_rfl)] at h1
              exact Qf.lands_val _ _ (runIx0 rfl h1 K0.out) ⟨hb, fun _ => Base.grown_refl _ _, fun e => absurd e (by decide), rfl⟩
            | _ + 6, hi, _, _ => exact absurd hi (by omega)
          case rst =>
          intro s' XX hb hk
          obtain ⟨zz, ez, zb⟩ := hk 4 (by decide)
          have ef : s' 5 = _ := hk 5 (by decide)
          have PU := Base.hide (hb.pick0 hB KM.out K0.out YB.out.1 FB.out YB.out.2 zb)
          obtain ⟨q2, d2, e2, vv, mm, RR⟩ := row_some hb.r2 K0.out
          cases e2
          have cc := (RR 0 K0.out).1
          have ff := (RR 0 K0.out).2.1
          simp only [List.take_succ_cons, List.take_zero, List.drop_succ_cons, List.drop_zero, Qf.lay, Qf.all1, if_true, ez, ef]
          simp only [Act.put, List.setIfInBounds_toArray, List.set_cons_succ, List.set_cons_zero]
          clear hk hb ez ef vv mm RR zb
          go_wp2_with fail
          go_meet
          exact PU.out.2.2
        · have hl := Base.laid_ints wz [3, 0, 131072] 3 (-9223372036854775808) 9223372036854775807 (by intro q hq; simp at hq; omega)
          have HA := Base.hide (HG.out.draw (Lib.grownBy_allocR (Base.grown_refl wz p) (.cells (([3, 0, 131072] : List Int).map (Value.int .i64)).toArray 3)) (HG.out.d.cur.alloc _))
          have vp := HG.out.d.cur.lt
          clear HG
          go_wp2_with fail
          refine (Base.l1PickInt B p a len cap wz.heap.size 3 (-9223372036854775808) 9223372036854775807 _ HA.out.d.cur (by omega) (by omega) (by omega) hl).mono ?_; rintro e wy ⟨q, q0, q1, rfl, dq, gq⟩
          have HG := Base.hide (HA.out.draw gq dq)
          clear dq gq hl vp HA
          have QB := Base.hide (show bd q from ⟨q0, q1⟩)
          clear q0 q1
          obtain ⟨uc, ec⟩ : ∃ u, wy.cell? ⟨vb, 4, none⟩ = some u := ⟨_, HG.out.d.c 4 (by omega)⟩
          have fc : wy.frozen? ⟨vb, 4, none⟩ = false := HG.out.d.fz 4
          have PU := Base.hide (HG.out.setI hB q)
          go_wp2_with fail
          go_meet
          exact PU.out.2.op KM.out YB.out.1 QB.out YB.out.2
        · have hl := Base.laid_ints wz [1000000, 999999, -1] 3 (-9223372036854775808) 9223372036854775807 (by intro q hq; simp at hq; omega)
          have HA := Base.hide (HG.out.draw (Lib.grownBy_allocR (Base.grown_refl wz p) (.cells (([1000000, 999999, -1] : List Int).map (Value.int .i64)).toArray 3)) (HG.out.d.cur.alloc _))
          have vp := HG.out.d.cur.lt
          clear HG
          go_wp2_with fail
          refine (Base.l1PickInt B p a len cap wz.heap.size 3 (-9223372036854775808) 9223372036854775807 _ HA.out.d.cur (by omega) (by omega) (by omega) hl).mono ?_; rintro e wy ⟨q, q0, q1, rfl, dq, gq⟩
          have HG := Base.hide (HA.out.draw gq dq)
          clear dq gq hl vp HA
          have QB := Base.hide (show bd q from ⟨q0, q1⟩)
          clear q0 q1
          obtain ⟨uc, ec⟩ : ∃ u, wy.cell? ⟨vb, 3, none⟩ = some u := ⟨_, HG.out.d.c 3 (by omega)⟩
          have fc : wy.frozen? ⟨vb, 3, none⟩ = false := HG.out.d.fz 3
          have PU := Base.hide (HG.out.setI hB q)
          go_wp2_with fail
          go_meet
          exact PU.out.1.op KM.out QB.out FB.out YB.out.2
        · have p1 : wz.cell? ⟨vb, 1, none⟩ = some (.slice (some ⟨g1, 0, none⟩) k c1) := HG.out.d.c 1 (by omega)
          have fc : wz.frozen? ⟨vb, 1, none⟩ = false := HG.out.d.fz 1
          have PU := Base.hide (HG.out.cut1 hB KM.out K0.out YB.out.1 FB.out YB.out.2)
          have PV := Base.hide (HG.out.cut0 hB KM.out K0.out YB.out.1 FB.out YB.out.2)
          have K1 := K0.out
          have M1' := M1.out
          by_cases hc1 : c1 = 1
          · obtain rfl : k = 1 := by omega
            subst hc1
            go_wp2_with fail
            go_meet
            first | exact PV.out rfl | exact PV.out trivial
          · have hc2 : ¬ c1 - 1 = 0 := by omega
            have hc3 : 1 < c1 := by omega
            go_wp2_with fail
            all_goals first
              | omega
              | (go_meet; exact PU.out)
      case rest =>
      obtain ⟨a0, a1, a2, n0, c0, n1, c1, n2, c2, E0, E1, E2, cc, ff, gg, hD, ⟨l0, l1, l2⟩, bc, bf, bg⟩ := hcut
      have HX := Base.hide hD
      have LL := Base.hide (And.intro l0 (And.intro l1 l2))
      have BB := Base.hide (And.intro bc (And.intro bf bg))
      have NV := Base.hide (show w.heap.size < vb from hD.wV)
      clear hD l0 l1 l2 bc bf bg HG
      have o0 : wc.cell? ⟨vb, 0, none⟩ = some (.slice a0 n0 c0) := HX.out.c 0 (by omega)
      have o1 : wc.cell? ⟨vb, 1, none⟩ = some (.slice a1 n1 c1) := HX.out.c 1 (by omega)
      have o2 : wc.cell? ⟨vb, 2, none⟩ = some (.slice a2 n2 c2) := HX.out.c 2 (by omega)
      have o3 : wc.cell? ⟨vb, 3, none⟩ = some (.int .i64 cc) := HX.out.c 3 (by omega)
      have o4 : wc.cell? ⟨vb, 4, none⟩ = some (.int .i64 ff) := HX.out.c 4 (by omega)
      have o5 : wc.cell? ⟨vb, 5, none⟩ = some (.int .i64 gg) := HX.out.c 5 (by omega)
      obtain ⟨Y0, hY0⟩ : ∃ Y, wc.setCell ⟨w.heap.size, 0, none⟩ (.slice a0 n0 c0) = Y := ⟨_, rfl⟩
      obtain ⟨uY0, eY0⟩ : ∃ u, wc.cell? ⟨w.heap.size, 0, none⟩ = some u := ⟨_, HX.out.r 0 (by omega)⟩
      have gY0 : wc.frozen? ⟨w.heap.size, 0, none⟩ = false := HX.out.rf 0
      replace HX := Base.hide (show DS 6 w Y0 B p a len cap vb _ _ from hY0 ▸ HX.out.setR hB 0 (.slice a0 n0 c0) (by omega))
      replace LL := Base.hide (show L3 vb Y0 a0 n0 c0 E0 ∧ L3 vb Y0 a1 n1 c1 E1 ∧ L3 vb Y0 a2 n2 c2 E2 from hY0 ▸ ⟨LL.out.1.kept (Kept.setCell _ ⟨w.heap.size, 0, none⟩ _) (fun ad e q => by have := LL.out.1.2.2.1 ad e; have := NV.out; have q : ad.block = w.heap.size := q; omega), LL.out.2.1.kept (Kept.setCell _ ⟨w.heap.size, 0, none⟩ _) (fun ad e q => by have := LL.out.2.1.2.2.1 ad e; have := NV.out; have q : ad.block = w.heap.size := q; omega), LL.out.2.2.kept (Kept.setCell _ ⟨w.heap.size, 0, none⟩ _) (fun ad e q => by have := LL.out.2.2.2.2.1 ad e; have := NV.out; have q : ad.block = w.heap.size := q; omega)⟩)
      obtain ⟨Y1, hY1⟩ : ∃ Y, Y0.setCell ⟨w.heap.size, 1, none⟩ (.slice a1 n1 c1) = Y := ⟨_, rfl⟩
      obtain ⟨uY1, eY1⟩ : ∃ u, Y0.cell? ⟨w.heap.size, 1, none⟩ = some u := ⟨_, HX.out.r 1 (by omega)⟩
      have gY1 : Y0.frozen? ⟨w.heap.size, 1, none⟩ = false := HX.out.rf 1
      replace HX := Base.hide (show DS 6 w Y1 B p a len cap vb _ _ from hY1 ▸ HX.out.setR hB 1 (.slice a1 n1 c1) (by omega))
      replace LL := Base.hide (show L3 vb Y1 a0 n0 c0 E0 ∧ L3 vb Y1 a1 n1 c1 E1 ∧ L3 vb Y1 a2 n2 c2 E2 from hY1 ▸ ⟨LL.out.1.kept (Kept.setCell _ ⟨w.heap.size, 1, none⟩ _) (fun ad e q => by have := LL.out.1.2.2.1 ad e; have := NV.out; have q : ad.block = w.heap.size := q; omega), LL.out.2.1.kept (Kept.setCell _ ⟨w.heap.size, 1, none⟩ _) (fun ad e q => by have := LL.out.2.1.2.2.1 ad e; have := NV.out; have q : ad.block = w.heap.size := q; omega), LL.out.2.2.kept (Kept.setCell _ ⟨w.heap.size, 1, none⟩ _) (fun ad e q => by have := LL.out.2.2.2.2.1 ad e; have := NV.out; have q : ad.block = w.heap.size := q; omega)⟩)
      obtain ⟨Y2, hY2⟩ : ∃ Y, Y1.setCell ⟨w.heap.size, 2, none⟩ (.slice a2 n2 c2) = Y := ⟨_, rfl⟩
      obtain ⟨uY2, eY2⟩ : ∃ u, Y1.cell? ⟨w.heap.size, 2, none⟩ = some u := ⟨_, HX.out.r 2 (by omega)⟩
      have gY2 : Y1.frozen? ⟨w.heap.size, 2, none⟩ = false := HX.out.rf 2
      replace HX := Base.hide (show DS 6 w Y2 B p a len cap vb _ _ from hY2 ▸ HX.out.setR hB 2 (.slice a2 n2 c2) (by omega))
      replace LL := Base.hide (show L3 vb Y2 a0 n0 c0 E0 ∧ L3 vb Y2 a1 n1 c1 E1 ∧ L3 vb Y2 a2 n2 c2 E2 from hY2 ▸ ⟨LL.out.1.kept (Kept.setCell _ ⟨w.heap.size, 2, none⟩ _) (fun ad e q => by have := LL.out.1.2.2.1 ad e; have := NV.out; have q : ad.block = w.heap.size := q; omega), LL.out.2.1.kept (Kept.setCell _ ⟨w.heap.size, 2, none⟩ _) (fun ad e q => by have := LL.out.2.1.2.2.1 ad e; have := NV.out; have q : ad.block = w.heap.size := q; omega), LL.out.2.2.kept (Kept.setCell _ ⟨w.heap.size, 2, none⟩ _) (fun ad e q => by have := LL.out.2.2.2.2.1 ad e; have := NV.out; have q : ad.block = w.heap.size := q; omega)⟩)
      obtain ⟨Y3, hY3⟩ : ∃ Y, Y2.setCell ⟨w.heap.size, 3, none⟩ (.int .i64 cc) = Y := ⟨_, rfl⟩
      obtain ⟨uY3, eY3⟩ : ∃ u, Y2.cell? ⟨w.heap.size, 3, none⟩ = some u := ⟨_, HX.out.r 3 (by omega)⟩
      have gY3 : Y2.frozen? ⟨w.heap.size, 3, none⟩ = false := HX.out.rf 3
      replace HX := Base.hide (show DS 6 w Y3 B p a len cap vb _ _ from hY3 ▸ HX.out.setR hB 3 (.int .i64 cc) (by omega))
      replace LL := Base.hide (show L3 vb Y3 a0 n0 c0 E0 ∧ L3 vb Y3 a1 n1 c1 E1 ∧ L3 vb Y3 a2 n2 c2 E2 from hY3 ▸ ⟨LL.out.1.kept (Kept.setCell _ ⟨w.heap.size, 3, none⟩ _) (fun ad e q => by have := LL.out.1.2.2.1 ad e; have := NV.out; have q : ad.block = w.heap.size := q; omega), LL.out.2.1.kept (Kept.setCell _ ⟨w.heap.size, 3, none⟩ _) (fun ad e q => by have := LL.out.2.1.2.2.1 ad e; have := NV.out; have q : ad.block = w.heap.size := q; omega), LL.out.2.2.kept (Kept.setCell _ ⟨w.heap.size, 3, none⟩ _) (fun ad e q => by have := LL.out.2.2.2.2.1 ad e; have := NV.out; have q : ad.block = w.heap.size := q; omega)⟩)
      obtain ⟨Y4, hY4⟩ : ∃ Y, Y3.setCell ⟨w.heap.size, 4, none⟩ (.int .i64 ff) = Y := ⟨_, rfl⟩
      obtain ⟨uY4, eY4⟩ : ∃ u, Y3.cell? ⟨w.heap.size, 4, none⟩ = some u := ⟨_, HX.out.r 4 (by omega)⟩
      have gY4 : Y3.frozen? ⟨w.heap.size, 4, none⟩ = false := HX.out.rf 4
      replace HX := Base.hide (show DS 6 w Y4 B p a len cap vb _ _ from hY4 ▸ HX.out.setR hB 4 (.int .i64 ff) (by omega))
      replace LL := Base.hide (show L3 vb Y4 a0 n0 c0 E0 ∧ L3 vb Y4 a1 n1 c1 E1 ∧ L3 vb Y4 a2 n2 c2 E2 from hY4 ▸ ⟨LL.out.1.kept (Kept.setCell _ ⟨w.heap.size, 4, none⟩ _) (fun ad e q => by have := LL.out.1.2.2.1 ad e; have := NV.out; have q : ad.block = w.heap.size := q; omega), LL.out.2.1.kept (Kept.setCell _ ⟨w.heap.size, 4, none⟩ _) (fun ad e q => by have := LL.out.2.1.2.2.1 ad e; have := NV.out; have q : ad.block = w.heap.size := q; omega), LL.out.2.2.kept (Kept.setCell _ ⟨w.heap.size, 4, none⟩ _) (fun ad e q => by have := LL.out.2.2.2.2.1 ad e; have := NV.out; have q : ad.block = w.heap.size := q; omega)⟩)
      obtain ⟨Y5, hY5⟩ : ∃ Y, Y4.setCell ⟨w.heap.size, 5, none⟩ (.int .i64 gg) = Y := ⟨_, rfl⟩
      obtain ⟨uY5, eY5⟩ : ∃ u, Y4.cell? ⟨w.heap.size, 5, none⟩ = some u := ⟨_, HX.out.r 5 (by omega)⟩
      have gY5 : Y4.frozen? ⟨w.heap.size, 5, none⟩ = false := HX.out.rf 5
      replace HX := Base.hide (show DS 6 w Y5 B p a len cap vb _ _ from hY5 ▸ HX.out.setR hB 5 (.int .i64 gg) (by omega))
      replace LL := Base.hide (show L3 vb Y5 a0 n0 c0 E0 ∧ L3 vb Y5 a1 n1 c1 E1 ∧ L3 vb Y5 a2 n2 c2 E2 from hY5 ▸ ⟨LL.out.1.kept (Kept.setCell _ ⟨w.heap.size, 5, none⟩ _) (fun ad e q => by have := LL.out.1.2.2.1 ad e; have := NV.out; have q : ad.block = w.heap.size := q; omega), LL.out.2.1.kept (Kept.setCell _ ⟨w.heap.size, 5, none⟩ _) (fun ad e q => by have := LL.out.2.1.2.2.1 ad e; have := NV.out; have q : ad.block = w.heap.size := q; omega), LL.out.2.2.kept (Kept.setCell _ ⟨w.heap.size, 5, none⟩ _) (fun ad e q => by have := LL.out.2.2.2.2.1 ad e; have := NV.out; have q : ad.block = w.heap.size := q; omega)⟩)
      have r0 : Y5.cell? ⟨w.heap.size, 0, none⟩ = some (.slice a0 n0 c0) := HX.out.r 0 (by omega)
      have r1 : Y5.cell? ⟨w.heap.size, 1, none⟩ = some (.slice a1 n1 c1) := HX.out.r 1 (by omega)
      have r2 : Y5.cell? ⟨w.heap.size, 2, none⟩ = some (.slice a2 n2 c2) := HX.out.r 2 (by omega)
      have r3 : Y5.cell? ⟨w.heap.size, 3, none⟩ = some (.int .i64 cc) := HX.out.r 3 (by omega)
      have r4 : Y5.cell? ⟨w.heap.size, 4, none⟩ = some (.int .i64 ff) := HX.out.r 4 (by omega)
      have r5 : Y5.cell? ⟨w.heap.size, 5, none⟩ = some (.int .i64 gg) := HX.out.r 5 (by omega)
      go_wp2_with fail
      exact bodyPost_ret (v := .agg #[.slice a0 n0 c0, .slice a1 n1 c1, .slice a2 n2 c2, .int .i64 cc, .int .i64 ff, .int .i64 gg]) (by simp [results, Try.results19, go_sem, r0, r1, r2, r3, r4, r5]) rfl ⟨a0, a1, a2, n0, c0, n1, c1, n2, c2, E0, E1, E2, cc, ff, gg, rfl, ⟨LL.out.1.2.2.2, LL.out.2.1.2.2.2, LL.out.2.2.2.2.2⟩, ⟨LL.out.1.1, LL.out.2.1.1, LL.out.2.2.1⟩, ⟨LL.out.1.2.1, LL.out.2.1.2.1, LL.out.2.2.2.1⟩, BB.out, ⟨fun ad e => Nat.lt_trans NV.out (LL.out.1.2.2.1 ad e), fun ad e => Nat.lt_trans NV.out (LL.out.2.1.2.2.1 ad e), fun ad e => Nat.lt_trans NV.out (LL.out.2.2.2.2.1 ad e)⟩, HX.out.cur, HX.out.gr⟩
end Vo
end Go.Proofs.Ytflbhlepmjiejaa

/- A rule, a state and gradients that a law draws (written by tools/genbe.py). -/
namespace Go.Proofs.Ytflbhlepmjiejaa
namespace Vo
open Go.ChangeShapes Go.WideShapes Go.ChangeAt Go.RowKit Go.Joins Go.Sort
open Vl
set_option linter.unusedVariables false
set_option linter.unusedSimpArgs false
/-- a rule in block br, a state in block bo, its lists; the answer's two variables are the first blocks -/
structure SB (w : World) (p br bo : Nat) (a : Option Addr) (len cap : Nat) (R : Rl) (a0 a1 a2 : Option Addr) (n0 c0 n1 c1 n2 c2 : Nat) (D0 D1 D2 : Nat → Int) (c f g : Int) (X : World) : Prop where
  cur : Base.Cur p X p a len cap
  hr : ∀ i, i < 11 → X.cell? ⟨br, i, none⟩ = some (RVf R i)
  ho : ∀ i, i < 6 → X.cell? ⟨bo, i, none⟩ = some ((OW (.slice a0 n0 c0) (.slice a1 n1 c1) (.slice a2 n2 c2) c f g) i)
  l0 : Ints X.heap.size X a0 n0 D0 ∧ ∀ ad, a0 = some ad → p < ad.block
  l1 : Ints X.heap.size X a1 n1 D1 ∧ ∀ ad, a1 = some ad → p < ad.block
  l2 : Ints X.heap.size X a2 n2 D2 ∧ ∀ ad, a2 = some ad → p < ad.block
  rO : (∀ i, i < 6 → X.cell? ⟨w.heap.size + 1, i, none⟩ = some (Z6 i)) ∧ ∀ i, X.frozen? ⟨w.heap.size + 1, i, none⟩ = false
  b : Below w.heap.size w X
  z : w.heap.size + 1 < p ∧ p < br ∧ p < bo ∧ br < X.heap.size ∧ bo < X.heap.size
theorem ints_far {n p : Nat} {X X' : World} {a : Option Addr} {D : Nat → Int} {S : Nat → Prop} (h : Ints X.heap.size X a n D) (hp : ∀ ad, a = some ad → p < ad.block) (k : Kept S X X') (hs : ∀ b, S b → b ≤ p) : Ints X'.heap.size X' a n D := by
  rcases h with h1 | ⟨b, off, e, hb, hc⟩
  · exact .inl h1
  · exact .inr ⟨b, off, e, Nat.lt_of_lt_of_le hb k.size, fun j hj => ⟨(World.cell?_of_block (w := X) (a := ⟨b, off + j, none⟩) (k.block b hb (fun q => by have := hs b q; have := hp _ e; have q2 : p < b := this; omega))).trans (hc j hj).1, (hc j hj).2⟩⟩
section
variable {w X X' : World} {p br bo : Nat} {a : Option Addr} {len cap : Nat} {R : Rl} {a0 a1 a2 : Option Addr} {n0 c0 n1 c1 n2 c2 : Nat} {D0 D1 D2 : Nat → Int} {c f g : Int}
theorem SB.kept {S : Nat → Prop} (h : SB w p br bo a len cap R a0 a1 a2 n0 c0 n1 c1 n2 c2 D0 D1 D2 c f g X) (k : Kept S X X') (cu : Base.Cur p X' p a len cap) (hs : ∀ b, S b → b ≤ p) (h0 : ¬ S (w.heap.size + 1)) (hw : ∀ b, S b → w.heap.size ≤ b) : SB w p br bo a len cap R a0 a1 a2 n0 c0 n1 c1 n2 c2 D0 D1 D2 c f g X' := by
  obtain ⟨z1, z2, z3, z4, z5⟩ := h.z
  have cl : ∀ q i, q < X.heap.size → ¬ S q → X'.cell? ⟨q, i, none⟩ = X.cell? ⟨q, i, none⟩ := fun q i hq hn => World.cell?_of_block (w := X) (a := ⟨q, i, none⟩) (k.block q hq hn)
  have fz : ∀ q i, q < X.heap.size → ¬ S q → X'.frozen? ⟨q, i, none⟩ = X.frozen? ⟨q, i, none⟩ := fun q i hq hn => World.frozen?_of_block (w := X) (a := ⟨q, i, none⟩) (k.block q hq hn)
  refine ⟨cu, fun i hi => (cl br i z4 (fun e => by have := hs _ e; omega)).trans (h.hr i hi), fun i hi => (cl bo i z5 (fun e => by have := hs _ e; omega)).trans (h.ho i hi), ⟨ints_far h.l0.1 h.l0.2 k hs, h.l0.2⟩, ⟨ints_far h.l1.1 h.l1.2 k hs, h.l1.2⟩, ⟨ints_far h.l2.1 h.l2.2 k hs, h.l2.2⟩, ⟨fun i hi => (cl _ i (by omega) h0).trans (h.rO.1 i hi), fun i => (fz _ i (by omega) h0).trans (h.rO.2 i)⟩, h.b.trans (k.below h.b.size hw), z1, z2, z3, Nat.lt_of_lt_of_le z4 k.size, Nat.lt_of_lt_of_le z5 k.size⟩
theorem SB.draw (h : SB w p br bo a len cap R a0 a1 a2 n0 c0 n1 c1 n2 c2 D0 D1 D2 c f g X) (q : X.grownBy X' (some p)) (cu : Base.Cur p X' p a len cap) : SB w p br bo a len cap R a0 a1 a2 n0 c0 n1 c1 n2 c2 D0 D1 D2 c f g X' := by
  have z := h.z
  exact h.kept (keptP q) cu (fun b e => by have e : b = p := e; omega) (fun e => by have e : w.heap.size + 1 = p := e; omega) (fun b e => by have e : b = p := e; omega)
end
section
variable {o : Oper} {A : Act} {w : World} {x y : Operand}
theorem runAddI {z c q : Int} (ho : o.op = .binOp .add 3 x y 3) (hx : A.eval x = .int .i64 z) (hy : A.eval y = .int .i64 c) (hq : IntKind.i64.wrap (z + c) = q) : (execOp A.eval o).run Try.prog w = .ok (.value (.int .i64 q)) w := by
  unfold execOp
  rw [ho]
  simp only [hx, hy]
  go_simp
theorem runStoreR {R : Rl} {b : Nat} (ho : o.op = .store 27 x y) (hx : A.eval x = .pointer (some ⟨b, 0, none⟩)) (hy : A.eval y = .agg #[.int .i64 R.d, .int .i64 R.r1, .int .i64 R.r2, .int .i64 R.r3, .int .i64 R.r4, .int .i64 R.k, .int .i64 R.z, .int .i64 R.o, .int .i64 R.y, .int .i64 R.mo, .int .i64 R.gr]) (h : ∀ i, i < 11 → w.cell? ⟨b, i, none⟩ = some (.int .i64 0)) (hf : ∀ i, w.frozen? ⟨b, i, none⟩ = false) :
    ∃ w', (execOp A.eval o).run Try.prog w = .ok .skip w' ∧ (∀ i, i < 11 → w'.cell? ⟨b, i, none⟩ = some (RVf R i)) ∧ Kept (· = b) w w' := by
  have f0 := h 0 (by omega)
  have g0 := hf 0
  have f1 := h 1 (by omega)
  have g1 := hf 1
  have f2 := h 2 (by omega)
  have g2 := hf 2
  have f3 := h 3 (by omega)
  have g3 := hf 3
  have f4 := h 4 (by omega)
  have g4 := hf 4
  have f5 := h 5 (by omega)
  have g5 := hf 5
  have f6 := h 6 (by omega)
  have g6 := hf 6
  have f7 := h 7 (by omega)
  have g7 := hf 7
  have f8 := h 8 (by omega)
  have g8 := hf 8
  have f9 := h 9 (by omega)
  have g9 := hf 9
  have f10 := h 10 (by omega)
  have g10 := hf 10
  refine ⟨(((((((((((w.setCell ⟨b, 0, none⟩ (.int .i64 R.d)).setCell ⟨b, 1, none⟩ (.int .i64 R.r1)).setCell ⟨b, 2, none⟩ (.int .i64 R.r2)).setCell ⟨b, 3, none⟩ (.int .i64 R.r3)).setCell ⟨b, 4, none⟩ (.int .i64 R.r4)).setCell ⟨b, 5, none⟩ (.int .i64 R.k)).setCell ⟨b, 6, none⟩ (.int .i64 R.z)).setCell ⟨b, 7, none⟩ (.int .i64 R.o)).setCell ⟨b, 8, none⟩ (.int .i64 R.y)).setCell ⟨b, 9, none⟩ (.int .i64 R.mo)).setCell ⟨b, 10, none⟩ (.int .i64 R.gr)), ?_, ?_, ?_⟩
  · unfold execOp
    rw [ho]
    simp only [hx, hy]
    go_simp
  · intro i hi
    rcases (by omega : i = 0 ∨ i = 1 ∨ i = 2 ∨ i = 3 ∨ i = 4 ∨ i = 5 ∨ i = 6 ∨ i = 7 ∨ i = 8 ∨ i = 9 ∨ i = 10) with rfl | rfl | rfl | rfl | rfl | rfl | rfl | rfl | rfl | rfl | rfl <;> simp [go_sem, RVf, f0, f1, f2, f3, f4, f5, f6, f7, f8, f9, f10]
  · exact ((((((((((Kept.setCell w ⟨b, 0, none⟩ _).trans (Kept.setCell _ ⟨b, 1, none⟩ _)).trans (Kept.setCell _ ⟨b, 2, none⟩ _)).trans (Kept.setCell _ ⟨b, 3, none⟩ _)).trans (Kept.setCell _ ⟨b, 4, none⟩ _)).trans (Kept.setCell _ ⟨b, 5, none⟩ _)).trans (Kept.setCell _ ⟨b, 6, none⟩ _)).trans (Kept.setCell _ ⟨b, 7, none⟩ _)).trans (Kept.setCell _ ⟨b, 8, none⟩ _)).trans (Kept.setCell _ ⟨b, 9, none⟩ _)).trans (Kept.setCell _ ⟨b, 10, none⟩ _)
end
end Vo
end Go.Proofs.Ytflbhlepmjiejaa

/- RunOpt of the model (written by tools/genrn.py). -/
namespace Go.Proofs.Ytflbhlepmjiejaa
namespace Vo
open Go.ChangeShapes Go.WideShapes Go.ChangeAt Go.RowKit Go.Joins Go.Sort
open Vl
set_option linter.unusedVariables false
set_option linter.unusedSimpArgs false
theorem nil_ints {B n : Nat} {w : World} {a : Option Addr} {D : Nat → Int} (h : Ints B w a n D) : a = none → n = 0 ∧ True := by
  rintro rfl
  rcases h with h | ⟨b, off, e, _⟩
  · exact ⟨h, trivial⟩
  · cases e
theorem runIxS {o : Oper} {A : Act} {w : World} {x y : Operand} {b f n c j : Nat} (ho : o.op = .indexAddr 31 x y) (hx : A.eval x = .slice (some ⟨b, f, none⟩) n c) (hy : A.eval y = .int .i64 ((j : Nat) : Int)) (hj : j < n) : (execOp A.eval o).run Try.prog w = .ok (.value (.pointer (some ⟨b, f + j, none⟩))) w := by
  unfold execOp
  rw [ho]
  simp only [hx, hy]
  go_simp
set_option maxHeartbeats 4000000 in
set_option maxRecDepth 100000 in
theorem sRun (R : Rl) (n m cP cF cS cl : Nat) (S : Nat → St) (X : Nat → Prop) (aP aF aS ls : Option Addr) (L : Nat → LV) (w : World) (h1 : Ints w.heap.size w aP n (S 0).P) (h2 : Ints w.heap.size w aF n (S 0).F) (h3 : Ints w.heap.size w aS n (S 0).S) (hb : bd (S 0).c ∧ bd (S 0).f ∧ bd (S 0).g) (hok : ∀ t, t ≤ m → (∀ u, u < t → ¬ X u) → (S t).ok n) (hL : LL w.heap.size w ls m L) (hm : (m : Int) ≤ 1048576)
    (hC : ∀ t, t < m → (∀ u, u < t → ¬ X u) → ∃ (m' : Nat) (N : St) (bo : Bool), (X t → bo = false) ∧ (¬ X t → m' = n ∧ N = S (t + 1) ∧ bo = true) ∧ ∀ (cP cF cS : Nat) (aP aF aS : Option Addr) (w : World), Ints w.heap.size w aP n (S t).P → Ints w.heap.size w aF n (S t).F → Ints w.heap.size w aS n (S t).S → Ints w.heap.size w (L t).a (L t).r (L t).D → Calls Try.prog 14 #[.agg #[.int .i64 R.d, .int .i64 R.r1, .int .i64 R.r2, .int .i64 R.r3, .int .i64 R.r4, .int .i64 R.k, .int .i64 R.z, .int .i64 R.o, .int .i64 R.y, .int .i64 R.mo, .int .i64 R.gr], .agg #[.slice aP n cP, .slice aF n cF, .slice aS n cS, .int .i64 (S t).c, .int .i64 (S t).f, .int .i64 (S t).g], .slice (L t).a (L t).r (L t).cap] w (StepU m' N bo w)) :
    Calls Try.prog 10 #[.agg #[.int .i64 R.d, .int .i64 R.r1, .int .i64 R.r2, .int .i64 R.r3, .int .i64 R.r4, .int .i64 R.k, .int .i64 R.z, .int .i64 R.o, .int .i64 R.y, .int .i64 R.mo, .int .i64 R.gr], .agg #[.slice aP n cP, .slice aF n cF, .slice aS n cS, .int .i64 (S 0).c, .int .i64 (S 0).f, .int .i64 (S 0).g], .slice ls m cl] w (RunR n m S X w) := by
  obtain ⟨W1, hW1⟩ : ∃ W1, w.alloc (.cells #[.int .i64 R.d, .int .i64 R.r1, .int .i64 R.r2, .int .i64 R.r3, .int .i64 R.r4, .int .i64 R.k, .int .i64 R.z, .int .i64 R.o, .int .i64 R.y, .int .i64 R.mo, .int .i64 R.gr] 27) = W1 := ⟨_, rfl⟩
  have n1 : Below w.heap.size w W1 := hW1 ▸ (Below.refl _ _).alloc (Nat.le_refl _) _
  have y1 : w.heap.size < W1.heap.size := by rw [← hW1]; simp
  obtain ⟨W2, hW2⟩ : ∃ W2, W1.alloc (.cells #[.slice aP n cP, .slice aF n cF, .slice aS n cS, .int .i64 (S 0).c, .int .i64 (S 0).f, .int .i64 (S 0).g] 30) = W2 := ⟨_, rfl⟩
  have n2 : Below W1.heap.size W1 W2 := hW2 ▸ (Below.refl _ _).alloc (Nat.le_refl _) _
  have y2 : W1.heap.size < W2.heap.size := by rw [← hW2]; simp
  obtain ⟨W3, hW3⟩ : ∃ W3, W2.alloc (.cells #[.slice none 0 0, .slice none 0 0, .slice none 0 0, .int .i64 0, .int .i64 0, .int .i64 0] 30) = W3 := ⟨_, rfl⟩
  have n3 : Below W2.heap.size W2 W3 := hW3 ▸ (Below.refl _ _).alloc (Nat.le_refl _) _
  have y3 : W2.heap.size < W3.heap.size := by rw [← hW3]; simp
  have LR := hide (show Lis [(⟨w.heap.size, 0, none⟩, .int .i64 R.d), (⟨w.heap.size, 1, none⟩, .int .i64 R.r1), (⟨w.heap.size, 2, none⟩, .int .i64 R.r2), (⟨w.heap.size, 3, none⟩, .int .i64 R.r3), (⟨w.heap.size, 4, none⟩, .int .i64 R.r4), (⟨w.heap.size, 5, none⟩, .int .i64 R.k), (⟨w.heap.size, 6, none⟩, .int .i64 R.z), (⟨w.heap.size, 7, none⟩, .int .i64 R.o), (⟨w.heap.size, 8, none⟩, .int .i64 R.y), (⟨w.heap.size, 9, none⟩, .int .i64 R.mo), (⟨w.heap.size, 10, none⟩, .int .i64 R.gr)] W3 from (show Lis _ W1 from fun x hx => by
      simp only [List.mem_cons, List.not_mem_nil, or_false] at hx
      rcases hx with rfl | rfl | rfl | rfl | rfl | rfl | rfl | rfl | rfl | rfl | rfl <;> (rw [← hW1]; simp [go_sem])).below n2 |>.below n3)
  have O1 := hide ((show C6 W2 W1.heap.size (OV aP aF aS n cP cF cS (S 0).c (S 0).f (S 0).g) from ⟨fun i hi => by rcases (by omega : i = 0 ∨ i = 1 ∨ i = 2 ∨ i = 3 ∨ i = 4 ∨ i = 5) with rfl | rfl | rfl | rfl | rfl | rfl <;> (rw [← hW2]; simp [go_sem, OV]), fun i => by rw [← hW2]; simp [go_sem], y2⟩).kept (Kept.of_below (S := fun _ => False) n3) id)
  have R1 := hide (show C6 W3 W2.heap.size (OV none none none 0 0 0 0 0 0 0) from ⟨fun i hi => by rcases (by omega : i = 0 ∨ i = 1 ∨ i = 2 ∨ i = 3 ∨ i = 4 ∨ i = 5) with rfl | rfl | rfl | rfl | rfl | rfl <;> (rw [← hW3]; simp [go_sem, OV]), fun i => by rw [← hW3]; simp [go_sem], y3⟩)
  have B3 := hide ((n1.trans (n2.mono n1.size)).trans (n3.mono (Nat.le_trans n1.size n2.size)))
  have Y := hide (And.intro y1 (And.intro y2 y3))
  have hs : (S 0).ok n := hok 0 (Nat.zero_le _) (fun u hu => absurd hu (by omega))
  have n4 : (n : Int) ≤ 4096 := hs.1
  have hyes : ook n n n (S 0).P (S 0).F (S 0).S (S 0).c (S 0).f (S 0).g = true := decide_eq_true hs
  have CO := hide (specOpt aP aF aS n n n cP cF cS (S 0).P (S 0).F (S 0).S (S 0).c (S 0).f (S 0).g W3 ((h1.below B3.out).mono B3.out.size) ((h2.below B3.out).mono B3.out.size) ((h3.below B3.out).mono B3.out.size) (by omega) hb.1 hb.2.1 hb.2.2 (by omega) (by omega))
  rw [hyes] at CO
  have HL := hide (hL.below B3.out)
  have H1 := hide ((h1.below B3.out).mono B3.out.size)
  have H2 := hide ((h2.below B3.out).mono B3.out.size)
  have H3 := hide ((h3.below B3.out).mono B3.out.size)
  have HC := hide hC
  have HK0 := hide hok
  have N4 := hide n4
  have o0 : W3.cell? ⟨W1.heap.size, 0, none⟩ = some (.slice aP n cP) := O1.out.c 0 (by omega)
  have o1 : W3.cell? ⟨W1.heap.size, 1, none⟩ = some (.slice aF n cF) := O1.out.c 1 (by omega)
  have o2 : W3.cell? ⟨W1.heap.size, 2, none⟩ = some (.slice aS n cS) := O1.out.c 2 (by omega)
  have o3 : W3.cell? ⟨W1.heap.size, 3, none⟩ = some (.int .i64 (S 0).c) := O1.out.c 3 (by omega)
  have o4 : W3.cell? ⟨W1.heap.size, 4, none⟩ = some (.int .i64 (S 0).f) := O1.out.c 4 (by omega)
  have o5 : W3.cell? ⟨W1.heap.size, 5, none⟩ = some (.int .i64 (S 0).g) := O1.out.c 5 (by omega)
  clear h1 h2 h3 hL hC hok hs hyes n4 hb n1 n2 n3 y1 y2 y3
  go_enter Try.func10, Try.ntmps10
  go_wp2_with fail
  refine CO.out.mono ?_; rintro e W4 ⟨rfl, bx⟩
  replace O1 := hide (O1.out.kept (Kept.of_below (S := fun _ => False) bx) id)
  replace R1 := hide (R1.out.kept (Kept.of_below (S := fun _ => False) bx) id)
  replace LR := hide (LR.out.below bx)
  have S4 := hide bx.size
  replace HL := hide (HL.out.below (bx.mono B3.out.size))
  replace H1 := hide ((H1.out.below bx).mono bx.size)
  replace H2 := hide ((H2.out.below bx).mono bx.size)
  replace H3 := hide ((H3.out.below bx).mono bx.size)
  replace B3 := hide (B3.out.trans (bx.mono B3.out.size))
  clear bx CO hW1 hW2 hW3 o0 o1 o2 o3 o4 o5
  go_wp2_with fail
  go_loopw [8] (fun i wx => ∃ (k : Nat) (p f q : Option Addr) (c d g : Nat), k ≤ m ∧ i = .int .i64 k ∧ (∀ t, t < k → ¬ X t) ∧ C6 wx W1.heap.size (OV p f q n c d g (S k).c (S k).f (S k).g) ∧ (Ints wx.heap.size wx p n (S k).P ∧ Ints wx.heap.size wx f n (S k).F ∧ Ints wx.heap.size wx q n (S k).S) ∧ Kept (· = W1.heap.size) W4 wx) (fun i _ => m - (intOf i).toNat)
  case atStart => exact ⟨0, aP, aF, aS, cP, cF, cS, Nat.zero_le _, rfl, fun t ht => by omega, O1.out, ⟨H1.out, H2.out, H3.out⟩, Kept.refl _ _⟩
  case round =>
    obtain ⟨k, p, f, q, c, d, g, hk, rfl, hnst, hc6, ⟨q1, q2, q3⟩, hK⟩ := hrel
    have HN := hide hnst
    have HO := hide (HK0.out k hk hnst)
    have HC6 := hide hc6
    have HP := hide q1
    have HF := hide q2
    have HS := hide q3
    have HK := hide hK
    clear hnst hc6 q1 q2 q3 hK
    have BK := hide (B3.out.trans (HK.out.below (Nat.le_trans (Nat.le_of_lt Y.out.1) (Nat.le_trans (Nat.le_of_lt Y.out.2.1) (Nat.le_trans (Nat.le_of_lt Y.out.2.2) S4.out))) (fun b e => by have := Y.out; have e : b = W1.heap.size := e; omega)) : Below w.heap.size w wr)
    have RW := hide (R1.out.kept HK.out (by have := Y.out; show ¬ W2.heap.size = W1.heap.size; omega))
    obtain ⟨cc, hcc⟩ : ∃ cc, (S k).c = cc := ⟨_, rfl⟩
    obtain ⟨ff, hff⟩ : ∃ ff, (S k).f = ff := ⟨_, rfl⟩
    obtain ⟨gg, hgg⟩ : ∃ gg, (S k).g = gg := ⟨_, rfl⟩
    have EC := hide (And.intro hcc (And.intro hff hgg))
    rw [hcc, hff, hgg] at HC6
    clear hcc hff hgg
    have s0 : wr.cell? ⟨W1.heap.size, 0, none⟩ = some (.slice p n c) := HC6.out.c 0 (by omega)
    have s1 : wr.cell? ⟨W1.heap.size, 1, none⟩ = some (.slice f n d) := HC6.out.c 1 (by omega)
    have s2 : wr.cell? ⟨W1.heap.size, 2, none⟩ = some (.slice q n g) := HC6.out.c 2 (by omega)
    have s3 : wr.cell? ⟨W1.heap.size, 3, none⟩ = some (.int .i64 cc) := HC6.out.c 3 (by omega)
    have s4 : wr.cell? ⟨W1.heap.size, 4, none⟩ = some (.int .i64 ff) := HC6.out.c 4 (by omega)
    have s5 : wr.cell? ⟨W1.heap.size, 5, none⟩ = some (.int .i64 gg) := HC6.out.c 5 (by omega)
    by_cases hkm : k < m
    · have ZW := hide (HC6.out.z)
      have kI : (k : Int) < (m : Int) := by omega
      have HKM := hide hkm
      have wk : IntKind.i64.wrap ((k : Int) + 1) = (k : Int) + 1 := by rw [IntKind.wrap_i64]; omega
      rcases (HL.out.below (HK.out.below (Nat.le_trans (Nat.le_of_lt Y.out.1) (Nat.le_trans (Nat.le_of_lt Y.out.2.1) (Nat.le_trans (Nat.le_of_lt Y.out.2.2) S4.out))) (fun b e => by have := Y.out; have e : b = W1.heap.size := e; omega) : Below w.heap.size W4 wr)) with h0 | ⟨blk, off, rfl, hblk, hcl⟩
      · omega
      obtain ⟨cl0, il0⟩ := hcl k hkm
      obtain ⟨m', N, bo, hX, hN, hS⟩ := HC.out k hkm HN.out
      have HX := hide hX
      have HNX := hide hN
      clear hX hN
      obtain ⟨la, hla⟩ : ∃ la, (L k).a = la := ⟨_, rfl⟩
      obtain ⟨lr, hlr⟩ : ∃ lr, (L k).r = lr := ⟨_, rfl⟩
      obtain ⟨lc, hlc⟩ : ∃ lc, (L k).cap = lc := ⟨_, rfl⟩
      rw [hla, hlr, hlc] at cl0 hS
      rw [hla, hlr] at il0
      rw [EC.out.1, EC.out.2.1, EC.out.2.2] at hS
      have IL := hide il0
      have CS := hide hS
      have CL := hide cl0
      have ZB := hide (show blk < wr.heap.size from Nat.lt_of_lt_of_le hblk BK.out.size)
      clear hla hlr hlc hcl il0 cl0 hS hblk
      have FA := hide (fun (Q : World) (hQ : Below wr.heap.size wr Q) => (show Q.cell? ⟨w.heap.size, 0, none⟩ = some (.int .i64 R.d) ∧ Q.cell? ⟨w.heap.size, 1, none⟩ = some (.int .i64 R.r1) ∧ Q.cell? ⟨w.heap.size, 2, none⟩ = some (.int .i64 R.r2) ∧ Q.cell? ⟨w.heap.size, 3, none⟩ = some (.int .i64 R.r3) ∧ Q.cell? ⟨w.heap.size, 4, none⟩ = some (.int .i64 R.r4) ∧ Q.cell? ⟨w.heap.size, 5, none⟩ = some (.int .i64 R.k) ∧ Q.cell? ⟨w.heap.size, 6, none⟩ = some (.int .i64 R.z) ∧ Q.cell? ⟨w.heap.size, 7, none⟩ = some (.int .i64 R.o) ∧ Q.cell? ⟨w.heap.size, 8, none⟩ = some (.int .i64 R.y) ∧ Q.cell? ⟨w.heap.size, 9, none⟩ = some (.int .i64 R.mo) ∧ Q.cell? ⟨w.heap.size, 10, none⟩ = some (.int .i64 R.gr) from ⟨(hQ.cell (p := ⟨w.heap.size, 0, none⟩) (Nat.lt_of_lt_of_le (Nat.lt_trans Y.out.1 (Nat.lt_trans Y.out.2.1 Y.out.2.2)) (Nat.le_trans S4.out HK.out.size))).trans ((World.cell?_of_block (w := W4) (a := ⟨w.heap.size, 0, none⟩) (HK.out.block _ (Nat.lt_of_lt_of_le (Nat.lt_trans Y.out.1 (Nat.lt_trans Y.out.2.1 Y.out.2.2)) S4.out) (Nat.ne_of_lt Y.out.1))).trans (LR.out (⟨w.heap.size, 0, none⟩, .int .i64 R.d) (.head _))), (hQ.cell (p := ⟨w.heap.size, 1, none⟩) (Nat.lt_of_lt_of_le (Nat.lt_trans Y.out.1 (Nat.lt_trans Y.out.2.1 Y.out.2.2)) (Nat.le_trans S4.out HK.out.size))).trans ((World.cell?_of_block (w := W4) (a := ⟨w.heap.size, 1, none⟩) (HK.out.block _ (Nat.lt_of_lt_of_le (Nat.lt_trans Y.out.1 (Nat.lt_trans Y.out.2.1 Y.out.2.2)) S4.out) (Nat.ne_of_lt Y.out.1))).trans (LR.out (⟨w.heap.size, 1, none⟩, .int .i64 R.r1) (.tail _ (.head _)))), (hQ.cell (p := ⟨w.heap.size, 2, none⟩) (Nat.lt_of_lt_of_le (Nat.lt_trans Y.out.1 (Nat.lt_trans Y.out.2.1 Y.out.2.2)) (Nat.le_trans S4.out HK.out.size))).trans ((World.cell?_of_block (w := W4) (a := ⟨w.heap.size, 2, none⟩) (HK.out.block _ (Nat.lt_of_lt_of_le (Nat.lt_trans Y.out.1 (Nat.lt_trans Y.out.2.1 Y.out.2.2)) S4.out) (Nat.ne_of_lt Y.out.1))).trans (LR.out (⟨w.heap.size, 2, none⟩, .int .i64 R.r2) (.tail _ (.tail _ (.head _))))), (hQ.cell (p := ⟨w.heap.size, 3, none⟩) (Nat.lt_of_lt_of_le (Nat.lt_trans Y.out.1 (Nat.lt_trans Y.out.2.1 Y.out.2.2)) (Nat.le_trans S4.out HK.out.size))).trans ((World.cell?_of_block (w := W4) (a := ⟨w.heap.size, 3, none⟩) (HK.out.block _ (Nat.lt_of_lt_of_le (Nat.lt_trans Y.out.1 (Nat.lt_trans Y.out.2.1 Y.out.2.2)) S4.out) (Nat.ne_of_lt Y.out.1))).trans (LR.out (⟨w.heap.size, 3, none⟩, .int .i64 R.r3) (.tail _ (.tail _ (.tail _ (.head _)))))), (hQ.cell (p := ⟨w.heap.size, 4, none⟩) (Nat.lt_of_lt_of_le (Nat.lt_trans Y.out.1 (Nat.lt_trans Y.out.2.1 Y.out.2.2)) (Nat.le_trans S4.out HK.out.size))).trans ((World.cell?_of_block (w := W4) (a := ⟨w.heap.size, 4, none⟩) (HK.out.block _ (Nat.lt_of_lt_of_le (Nat.lt_trans Y.out.1 (Nat.lt_trans Y.out.2.1 Y.out.2.2)) S4.out) (Nat.ne_of_lt Y.out.1))).trans (LR.out (⟨w.heap.size, 4, none⟩, .int .i64 R.r4) (.tail _ (.tail _ (.tail _ (.tail _ (.head _))))))), (hQ.cell (p := ⟨w.heap.size, 5, none⟩) (Nat.lt_of_lt_of_le (Nat.lt_trans Y.out.1 (Nat.lt_trans Y.out.2.1 Y.out.2.2)) (Nat.le_trans S4.out HK.out.size))).trans ((World.cell?_of_block (w := W4) (a := ⟨w.heap.size, 5, none⟩) (HK.out.block _ (Nat.lt_of_lt_of_le (Nat.lt_trans Y.out.1 (Nat.lt_trans Y.out.2.1 Y.out.2.2)) S4.out) (Nat.ne_of_lt Y.out.1))).trans (LR.out (⟨w.heap.size, 5, none⟩, .int .i64 R.k) (.tail _ (.tail _ (.tail _ (.tail _ (.tail _ (.head _)))))))), (hQ.cell (p := ⟨w.heap.size, 6, none⟩) (Nat.lt_of_lt_of_le (Nat.lt_trans Y.out.1 (Nat.lt_trans Y.out.2.1 Y.out.2.2)) (Nat.le_trans S4.out HK.out.size))).trans ((World.cell?_of_block (w := W4) (a := ⟨w.heap.size, 6, none⟩) (HK.out.block _ (Nat.lt_of_lt_of_le (Nat.lt_trans Y.out.1 (Nat.lt_trans Y.out.2.1 Y.out.2.2)) S4.out) (Nat.ne_of_lt Y.out.1))).trans (LR.out (⟨w.heap.size, 6, none⟩, .int .i64 R.z) (.tail _ (.tail _ (.tail _ (.tail _ (.tail _ (.tail _ (.head _))))))))), (hQ.cell (p := ⟨w.heap.size, 7, none⟩) (Nat.lt_of_lt_of_le (Nat.lt_trans Y.out.1 (Nat.lt_trans Y.out.2.1 Y.out.2.2)) (Nat.le_trans S4.out HK.out.size))).trans ((World.cell?_of_block (w := W4) (a := ⟨w.heap.size, 7, none⟩) (HK.out.block _ (Nat.lt_of_lt_of_le (Nat.lt_trans Y.out.1 (Nat.lt_trans Y.out.2.1 Y.out.2.2)) S4.out) (Nat.ne_of_lt Y.out.1))).trans (LR.out (⟨w.heap.size, 7, none⟩, .int .i64 R.o) (.tail _ (.tail _ (.tail _ (.tail _ (.tail _ (.tail _ (.tail _ (.head _)))))))))), (hQ.cell (p := ⟨w.heap.size, 8, none⟩) (Nat.lt_of_lt_of_le (Nat.lt_trans Y.out.1 (Nat.lt_trans Y.out.2.1 Y.out.2.2)) (Nat.le_trans S4.out HK.out.size))).trans ((World.cell?_of_block (w := W4) (a := ⟨w.heap.size, 8, none⟩) (HK.out.block _ (Nat.lt_of_lt_of_le (Nat.lt_trans Y.out.1 (Nat.lt_trans Y.out.2.1 Y.out.2.2)) S4.out) (Nat.ne_of_lt Y.out.1))).trans (LR.out (⟨w.heap.size, 8, none⟩, .int .i64 R.y) (.tail _ (.tail _ (.tail _ (.tail _ (.tail _ (.tail _ (.tail _ (.tail _ (.head _))))))))))), (hQ.cell (p := ⟨w.heap.size, 9, none⟩) (Nat.lt_of_lt_of_le (Nat.lt_trans Y.out.1 (Nat.lt_trans Y.out.2.1 Y.out.2.2)) (Nat.le_trans S4.out HK.out.size))).trans ((World.cell?_of_block (w := W4) (a := ⟨w.heap.size, 9, none⟩) (HK.out.block _ (Nat.lt_of_lt_of_le (Nat.lt_trans Y.out.1 (Nat.lt_trans Y.out.2.1 Y.out.2.2)) S4.out) (Nat.ne_of_lt Y.out.1))).trans (LR.out (⟨w.heap.size, 9, none⟩, .int .i64 R.mo) (.tail _ (.tail _ (.tail _ (.tail _ (.tail _ (.tail _ (.tail _ (.tail _ (.tail _ (.head _)))))))))))), (hQ.cell (p := ⟨w.heap.size, 10, none⟩) (Nat.lt_of_lt_of_le (Nat.lt_trans Y.out.1 (Nat.lt_trans Y.out.2.1 Y.out.2.2)) (Nat.le_trans S4.out HK.out.size))).trans ((World.cell?_of_block (w := W4) (a := ⟨w.heap.size, 10, none⟩) (HK.out.block _ (Nat.lt_of_lt_of_le (Nat.lt_trans Y.out.1 (Nat.lt_trans Y.out.2.1 Y.out.2.2)) S4.out) (Nat.ne_of_lt Y.out.1))).trans (LR.out (⟨w.heap.size, 10, none⟩, .int .i64 R.gr) (.tail _ (.tail _ (.tail _ (.tail _ (.tail _ (.tail _ (.tail _ (.tail _ (.tail _ (.tail _ (.head _)))))))))))))⟩))
      have FB := hide (fun (Q : World) (hQ : Below wr.heap.size wr Q) => (show BoxV6 Q W1.heap.size (.slice p n c) (.slice f n d) (.slice q n g) (.int .i64 cc) (.int .i64 ff) (.int .i64 gg) from boxV6_at ⟨HC6.out.z, HC6.out.c 0 (by omega), HC6.out.c 1 (by omega), HC6.out.c 2 (by omega), HC6.out.c 3 (by omega), HC6.out.c 4 (by omega), HC6.out.c 5 (by omega)⟩ hQ HC6.out.z))
      have FE := hide (fun (Q : World) (hQ : Below wr.heap.size wr Q) => (hQ.cell (p := ⟨blk, off + k, none⟩) ZB.out).trans CL.out)
      have CT := hide (fun (Q : World) (hQ : Below wr.heap.size wr Q) => CS.out c d g p f q Q ((HP.out.below hQ).mono hQ.size) ((HF.out.below hQ).mono hQ.size) ((HS.out.below hQ).mono hQ.size) ((IL.out.below (hQ.mono BK.out.size)).mono (Nat.le_trans BK.out.size hQ.size)))
      go_wp2_with fail
      refine Qk.factsG2 (Below wr.heap.size) (fun _ _ _ => Below.trans) 12 (Below.refl _ _).drew (by kernel_rfl) (by kernel_rfl) (GG 11) (fun i s0 wx => match i with | 0 => s0 0 = .agg #[.int .i64 R.d, .int .i64 R.r1, .int .i64 R.r2, .int .i64 R.r3, .int .i64 R.r4, .int .i64 R.k, .int .i64 R.z, .int .i64 R.o, .int .i64 R.y, .int .i64 R.mo, .int .i64 R.gr] | 1 => s0 1 = .agg #[.slice p n c, .slice f n d, .slice q n g, .int .i64 cc, .int .i64 ff, .int .i64 gg] | 2 => s0 2 = .slice (some ⟨blk, off, none⟩) m cl | 3 => s0 3 = .int .i64 (k : Int) | 4 => s0 4 = .pointer (some ⟨blk, off + k, none⟩) | 5 => s0 5 = .slice la lr lc | 6 => ∃ (p f q : Option Addr) (c d g : Nat), s0 6 = .tuple #[.agg #[.slice p m' c, .slice f m' d, .slice q m' g, .int .i64 N.c, .int .i64 N.f, .int .i64 N.g], .bool bo] ∧ (OwnL wr.heap.size wx p m' N.P ∧ OwnL wr.heap.size wx f m' N.F ∧ OwnL wr.heap.size wx q m' N.S) ∧ ((∀ k k', Blk p m' k → Blk f m' k' → k < k') ∧ (∀ k k', Blk f m' k → Blk q m' k' → k < k')) | 7 => (∃ (p f q : Option Addr) (c d g : Nat), s0 7 = .tuple #[.agg #[.slice p m' c, .slice f m' d, .slice q m' g, .int .i64 N.c, .int .i64 N.f, .int .i64 N.g], .bool bo]) ∧ s0 7 = s0 6 | 8 => (∃ (p f q : Option Addr) (c d g : Nat), s0 8 = .agg #[.slice p m' c, .slice f m' d, .slice q m' g, .int .i64 N.c, .int .i64 N.f, .int .i64 N.g]) ∧ ∀ u v, s0 7 = .tuple #[u, v] → s0 8 = u | 9 => ∀ u v, s0 7 = .tuple #[u, v] → s0 9 = v | 10 => ∃ (g : Nat) (V : Nat → Value), s0 10 = .pointer (some ⟨g, 0, none⟩) ∧ wr.heap.size ≤ g ∧ C6 wx g V ∧ Ls V | 11 => ∀ (gg : Nat) (p f q : Option Addr) (c d g : Nat), s0 10 = .pointer (some ⟨gg, 0, none⟩) → s0 8 = .agg #[.slice p m' c, .slice f m' d, .slice q m' g, .int .i64 N.c, .int .i64 N.f, .int .i64 N.g] → C6 wx gg (OV p f q m' c d g N.c N.f N.g) | _ => True) ?loc ?stable ?steps ?rest
      case loc =>
        intro i s s' w1 hs h
        match i, h with
        | 0, h => exact (hs 0 (.inl rfl)).symm.trans h
        | 1, h => exact (hs 1 (.inl rfl)).symm.trans h
        | 2, h => exact (hs 2 (.inl rfl)).symm.trans h
        | 3, h => exact (hs 3 (.inl rfl)).symm.trans h
        | 4, h => exact (hs 4 (.inl rfl)).symm.trans h
        | 5, h => exact (hs 5 (.inl rfl)).symm.trans h
        | 6, ⟨p, f, q, c, d, g, h1, h2⟩ => exact ⟨p, f, q, c, d, g, (hs 6 (.inl rfl)).symm.trans h1, h2⟩
        | 7, ⟨⟨p, f, q, c, d, g, h0⟩, h⟩ => exact ⟨⟨p, f, q, c, d, g, (hs 7 (.inl rfl)).symm.trans h0⟩, (hs 7 (.inl rfl)).symm.trans (h.trans (hs 6 (.inr (by kernel_rfl))))⟩
        | 8, ⟨⟨p, f, q, c, d, g, h0⟩, h⟩ => exact ⟨⟨p, f, q, c, d, g, (hs 8 (.inl rfl)).symm.trans h0⟩, fun u v e => (hs 8 (.inl rfl)).symm.trans (h u v ((hs 7 (.inr (by kernel_rfl))).trans e))⟩
        | 9, h => exact fun u v e => (hs 9 (.inl rfl)).symm.trans (h u v ((hs 7 (.inr (by kernel_rfl))).trans e))
        | 10, ⟨g, V, h1, h2⟩ => exact ⟨g, V, (hs 10 (.inl rfl)).symm.trans h1, h2⟩
        | 11, h => exact fun gg p f q c d g e1 e2 => h gg p f q c d g ((hs 10 (.inr (by kernel_rfl))).trans e1) ((hs 8 (.inr (by kernel_rfl))).trans e2)
        | _ + 12, h => exact h
      case stable =>
        intro i k s w1 w2 hne hkn h hb hg
        match i, h, hne with
        | 0, h, _ => exact h
        | 1, h, _ => exact h
        | 2, h, _ => exact h
        | 3, h, _ => exact h
        | 4, h, _ => exact h
        | 5, h, _ => exact h
        | 6, ⟨p, f, q, c, d, g, h1, ⟨q1, q2, q3⟩, h3⟩, _ => exact ⟨p, f, q, c, d, g, h1, ⟨hg.own q1, hg.own q2, hg.own q3⟩, h3⟩
        | 7, h, _ => exact h
        | 8, h, _ => exact h
        | 9, h, _ => exact h
        | 10, ⟨g, V, h1, h2, h3, h4⟩, _ => obtain ⟨V', h3, h4⟩ := hg.six h3 h4; exact ⟨g, V', h1, h2, h3, h4⟩
        | 11, h, hne => exact fun gg p f q c d g e1 e2 => hg.six0 hne (h gg p f q c d g e1 e2)
        | _ + 12, h, _ => exact h
      case steps =>
        intro i o hi ho s0 A wS hb hk hA hO
        match i, hi, ho, hk with
        | 0, _, ho, hk =>
          cases ho
          refine Qg.landsG_free rfl ?_
          obtain ⟨l0, l1, l2, l3, l4, l5, l6, l7, l8, l9, l10⟩ := FA.out wS hb
          exact Qf.lands_val _ _ (runLR rfl ((hO 3 (by rfl)).trans rfl) l0 l1 l2 l3 l4 l5 l6 l7 l8 l9 l10) (gp (by decide) hb.size (Below.refl _ _) (by simp [Qf.upd]))
        | 1, _, ho, hk =>
          cases ho
          refine Qg.landsG_free rfl ?_
          exact Qf.lands_val _ _ (runLoadOI rfl ((hO 4 (by rfl)).trans rfl) (FB.out wS hb)) (gp (by decide) hb.size (Below.refl _ _) (by simp [Qf.upd]))
        | 2, _, ho, hk =>
          cases ho
          refine Qg.landsG_free rfl ?_
          exact Qf.lands_move _ rfl (.slice (some ⟨blk, off, none⟩) m cl) ((hO 2 (by rfl)).trans rfl) (gp (by decide) hb.size (Below.refl _ _) (by simp [Qf.upd]))
        | 3, _, ho, hk =>
          cases ho
          refine Qg.landsG_free rfl ?_
          exact Qf.lands_move _ rfl (.int .i64 (k : Int)) ((hO 8 (by rfl)).trans rfl) (gp (by decide) hb.size (Below.refl _ _) (by simp [Qf.upd]))
        | 4, _, ho, hk =>
          cases ho
          refine Qg.landsG_free rfl ?_
          have h2 := hA 2 _ 22 (by decide) rfl rfl (by simp)
          have e2 := hk 2 (by kernel_rfl)
          rw [e2] at h2
          have h3 := hA 3 _ 23 (by decide) rfl rfl (by simp)
          have e3 := hk 3 (by kernel_rfl)
          rw [e3] at h3
          exact Qf.lands_val _ _ (runIxS rfl h2 h3 HKM.out) (gp (by decide) hb.size (Below.refl _ _) (by simp [Qf.upd]))
        | 5, _, ho, hk =>
          cases ho
          refine Qg.landsG_free rfl ?_
          have h4 := hA 4 _ 24 (by decide) rfl rfl (by simp)
          have e4 := hk 4 (by kernel_rfl)
          rw [e4] at h4
          exact Qf.lands_val _ _ (runLL rfl h4 (FE.out wS hb)) (gp (by decide) hb.size (Below.refl _ _) (by simp [Qf.upd]))
        | 6, _, ho, hk =>
          cases ho
          refine Qg.landsG_free rfl ?_
          have h0 := hA 0 _ 20 (by decide) rfl rfl (by simp)
          have e0 := hk 0 (by kernel_rfl)
          rw [e0] at h0
          have h1 := hA 1 _ 21 (by decide) rfl rfl (by simp)
          have e1 := hk 1 (by kernel_rfl)
          rw [e1] at h1
          have h5 := hA 5 _ 25 (by decide) rfl rfl (by simp)
          have e5 := hk 5 (by kernel_rfl)
          rw [e5] at h5
          refine Qf.lands_call 14 _ _ rfl (enters_of Try.func14 (by kernel_rfl) rfl) _ (by first | (simp [h0, h1, h5]; done) | (simp [h0, h1, h5]; rfl)) ((CT.out wS hb).mono ?_)
          rintro e wT ⟨p, f, q, c, d, g, rfl, ⟨o1', o2', o3'⟩, od, bT⟩
          exact ⟨_, rfl, gp (by decide) hb.size bT ⟨p, f, q, c, d, g, by simp [Qf.upd], ⟨o1'.mono hb.size, o2'.mono hb.size, o3'.mono hb.size⟩, od⟩⟩
        | 7, _, ho, hk =>
          cases ho
          refine Qg.landsG_free rfl ?_
          have h6 := hA 6 _ 26 (by decide) rfl rfl (by simp)
          obtain ⟨p, f, q, c, d, g, e6, -⟩ := hk 6 (by kernel_rfl)
          exact Qf.lands_move _ rfl _ h6 (gp (by decide) hb.size (Below.refl _ _) ⟨⟨p, f, q, c, d, g, by simp [Qf.upd, e6]⟩, by simp [Qf.upd]⟩)
        | 8, _, ho, hk =>
          cases ho
          refine Qg.landsG_free rfl ?_
          have h7 := hA 7 _ 19 (by decide) rfl rfl (by simp)
          obtain ⟨⟨p, f, q, c, d, g, e7⟩, -⟩ := hk 7 (by kernel_rfl)
          rw [e7] at h7
          exact Qf.lands_val _ _ (runExt0 rfl h7) (gp (by decide) hb.size (Below.refl _ _) ⟨⟨p, f, q, c, d, g, by simp [Qf.upd]⟩, (fun u v e => by
            have e2 : s0 7 = .tuple #[u, v] := by simpa [Qf.upd] using e
            rw [e7] at e2
            cases e2
            simp [Qf.upd])⟩)
        | 9, _, ho, hk =>
          cases ho
          refine Qg.landsG_free rfl ?_
          have h7 := hA 7 _ 19 (by decide) rfl rfl (by simp)
          obtain ⟨⟨p, f, q, c, d, g, e7⟩, -⟩ := hk 7 (by kernel_rfl)
          rw [e7] at h7
          exact Qf.lands_val _ _ (runExt1 rfl h7) (gp (by decide) hb.size (Below.refl _ _) (fun u v e => by
            have e2 : s0 7 = .tuple #[u, v] := by simpa [Qf.upd] using e
            rw [e7] at e2
            cases e2
            simp [Qf.upd]))
        | 10, _, ho, hk =>
          cases ho
          refine Qg.landsG_free rfl ?_
          exact Qf.lands_val _ _ (runAllocO rfl) (gp (by decide) hb.size ((Below.refl _ _).alloc (Nat.le_refl _) _) ⟨_, _, by simp [Qf.upd], hb.size, ⟨fun i hi => by rcases (by omega : i = 0 ∨ i = 1 ∨ i = 2 ∨ i = 3 ∨ i = 4 ∨ i = 5) with rfl | rfl | rfl | rfl | rfl | rfl <;> simp [go_sem, OV], fun i => by simp [go_sem], by simp⟩, ls_OV none none none 0 0 0 0 0 0 0⟩)
        | 11, _, ho, hk =>
          have ho' : o.op = Op.store 30 (.tmp 9) (.tmp 27) := by cases ho; rfl
          refine Qg.landsG_free (show o.guard = none by cases ho; rfl) ?_
          have hp := hA 10 _ 9 (by decide) rfl rfl (by simp)
          obtain ⟨gg, V, ep, hgg, c6, lv⟩ := hk 10 (by kernel_rfl)
          rw [ep] at hp
          have hv := hA 8 _ 27 (by decide) rfl rfl (by simp)
          obtain ⟨⟨p, f, q, c, d, g, e8⟩, -⟩ := hk 8 (by kernel_rfl)
          rw [e8] at hv
          obtain ⟨w', run, c6', kk⟩ := runStoreO ho' hp hv c6
          refine Qf.lands_skip w' run (gs (kk.below hb.size (fun k e => by subst e; exact hgg)) ⟨gg, V, _, c6, lv, kk, c6', ls_OV ..⟩ (fun gg' p' f' q' c' d' g' a1 a2 => ?_))
          have a1 : s0 10 = .pointer (some ⟨gg', 0, none⟩) := by simpa [Qf.upd] using a1
          have a2 : s0 8 = .agg #[.slice p' m' c', .slice f' m' d', .slice q' m' g', .int .i64 N.c, .int .i64 N.f, .int .i64 N.g] := by simpa [Qf.upd] using a2
          rw [ep] at a1
          cases a1
          rw [e8] at a2
          cases a2
          exact c6'
        | _ + 12, hi, _, _ => exact absurd hi (by omega)
      case rest =>
      intro s' Z bz hk9
      have e0 := hk9 0 (by decide)
      have e1 := hk9 1 (by decide)
      have e2 := hk9 2 (by decide)
      have e3 := hk9 3 (by decide)
      have e4 := hk9 4 (by decide)
      have e5 := hk9 5 (by decide)
      obtain ⟨p1, f1, q1, c1, d1, g1, e6, ⟨oP, oF, oS⟩, od1, od2⟩ := hk9 6 (by decide)
      have e7 := (hk9 7 (by decide)).2
      have e8 := (hk9 8 (by decide)).2 _ _ (Eq.trans e7 e6)
      have e9 := hk9 9 (by decide) _ _ (Eq.trans e7 e6)
      rw [e6] at e7
      obtain ⟨vb, -, e10, hgg, -⟩ := hk9 10 (by decide)
      have c6 := hk9 11 (by decide) _ _ _ _ _ _ _ e10 e8
      have NA := hide (show Ans wr.heap.size vb p1 f1 q1 m' c1 d1 g1 N.P N.F N.S N.c N.f N.g Z from ⟨c6, hgg, oP, oF, oS, od1, od2⟩)
      have BZ0 := hide bz
      clear bz c6 oP oF oS od1 od2 hgg
      simp only [List.take_succ_cons, List.take_zero, List.drop_succ_cons, List.drop_zero, Qf.lay, Qf.all1, if_true, e0, e1, e2, e3, e4, e5, e6, e7, e8, e9, e10]
      simp only [Act.put, List.setIfInBounds_toArray, List.set_cons_succ, List.set_cons_zero]
      clear hk9 e0 e1 e2 e3 e4 e5 e6 e7 e8 e9 e10
      replace HP := hide ((HP.out.below BZ0.out).mono BZ0.out.size)
      replace HF := hide ((HF.out.below BZ0.out).mono BZ0.out.size)
      replace HS := hide ((HS.out.below BZ0.out).mono BZ0.out.size)
      replace HC6 := hide (HC6.out.kept (Kept.of_below (S := fun _ => False) BZ0.out) id)
      replace RW := hide (RW.out.kept (Kept.of_below (S := fun _ => False) BZ0.out) id)
      replace BK := hide (BK.out.trans (BZ0.out.mono BK.out.size))
      replace HK := hide (HK.out.trans (Kept.of_below BZ0.out))
      clear FA FB FE CT CS IL CL s0 s1 s2 s3 s4 s5
      have s0 : Z.cell? ⟨W1.heap.size, 0, none⟩ = some (.slice p n c) := HC6.out.c 0 (by omega)
      have s1 : Z.cell? ⟨W1.heap.size, 1, none⟩ = some (.slice f n d) := HC6.out.c 1 (by omega)
      have s2 : Z.cell? ⟨W1.heap.size, 2, none⟩ = some (.slice q n g) := HC6.out.c 2 (by omega)
      have s3 : Z.cell? ⟨W1.heap.size, 3, none⟩ = some (.int .i64 cc) := HC6.out.c 3 (by omega)
      have s4 : Z.cell? ⟨W1.heap.size, 4, none⟩ = some (.int .i64 ff) := HC6.out.c 4 (by omega)
      have s5 : Z.cell? ⟨W1.heap.size, 5, none⟩ = some (.int .i64 gg) := HC6.out.c 5 (by omega)
      cases bo
      case false =>
        have STOP := hide (show X k from Classical.byContradiction (fun h => by have := (HNX.out h).2.2; cases this))
        clear HX HNX NA
        have CC := hide (specCopyO p f q n c d g (S k).P (S k).F (S k).S cc ff gg Z HP.out HF.out HS.out (nil_ints HP.out) (nil_ints HF.out) (nil_ints HS.out) N4.out)
        go_wp2_with fail
        refine CC.out.mono ?_; rintro e V ⟨p', f', q', c', d', g', rfl, ⟨w1, w2, w3⟩, ⟨v1, v2⟩, bx⟩
        have RZ := hide (RW.out.kept (Kept.of_below (S := fun _ => False) bx) id)
        have BZ := hide (BK.out.trans (bx.mono BK.out.size))
        have LZ := hide (show W3.heap.size ≤ Z.heap.size from Nat.le_trans S4.out HK.out.size)
        have HP2 := hide w1
        have HF2 := hide w2
        have HS2 := hide w3
        have AP := hide (And.intro v1 v2)
        clear w1 w2 w3 v1 v2 bx CC
        obtain ⟨T0, hT0⟩ : ∃ T0, V.setCell ⟨W2.heap.size, 0, none⟩ (.slice p' n c') = T0 := ⟨_, rfl⟩
        have RT0 := hide (hT0 ▸ RZ.out.set 0 (.slice p' n c') (by omega) : C6 T0 W2.heap.size _)
        obtain ⟨vT0, eT0⟩ : ∃ u, V.cell? ⟨W2.heap.size, 0, none⟩ = some u := ⟨_, RZ.out.c 0 (by omega)⟩
        have fT0 := RZ.out.f 0
        have kT0 : Kept (· = W2.heap.size) V T0 := hT0 ▸ Kept.setCell V ⟨W2.heap.size, 0, none⟩ _
        have BT0 := hide (hT0 ▸ BZ.out.setCell (p := ⟨W2.heap.size, 0, none⟩) (by have := Y.out; show w.heap.size ≤ W2.heap.size; omega) _ : Below w.heap.size w T0)
        obtain ⟨T1, hT1⟩ : ∃ T1, T0.setCell ⟨W2.heap.size, 1, none⟩ (.slice f' n d') = T1 := ⟨_, rfl⟩
        have RT1 := hide (hT1 ▸ RT0.out.set 1 (.slice f' n d') (by omega) : C6 T1 W2.heap.size _)
        obtain ⟨vT1, eT1⟩ : ∃ u, T0.cell? ⟨W2.heap.size, 1, none⟩ = some u := ⟨_, RT0.out.c 1 (by omega)⟩
        have fT1 := RT0.out.f 1
        have kT1 : Kept (· = W2.heap.size) T0 T1 := hT1 ▸ Kept.setCell T0 ⟨W2.heap.size, 1, none⟩ _
        have BT1 := hide (hT1 ▸ BT0.out.setCell (p := ⟨W2.heap.size, 1, none⟩) (by have := Y.out; show w.heap.size ≤ W2.heap.size; omega) _ : Below w.heap.size w T1)
        obtain ⟨T2, hT2⟩ : ∃ T2, T1.setCell ⟨W2.heap.size, 2, none⟩ (.slice q' n g') = T2 := ⟨_, rfl⟩
        have RT2 := hide (hT2 ▸ RT1.out.set 2 (.slice q' n g') (by omega) : C6 T2 W2.heap.size _)
        obtain ⟨vT2, eT2⟩ : ∃ u, T1.cell? ⟨W2.heap.size, 2, none⟩ = some u := ⟨_, RT1.out.c 2 (by omega)⟩
        have fT2 := RT1.out.f 2
        have kT2 : Kept (· = W2.heap.size) T1 T2 := hT2 ▸ Kept.setCell T1 ⟨W2.heap.size, 2, none⟩ _
        have BT2 := hide (hT2 ▸ BT1.out.setCell (p := ⟨W2.heap.size, 2, none⟩) (by have := Y.out; show w.heap.size ≤ W2.heap.size; omega) _ : Below w.heap.size w T2)
        obtain ⟨T3, hT3⟩ : ∃ T3, T2.setCell ⟨W2.heap.size, 3, none⟩ (.int .i64 cc) = T3 := ⟨_, rfl⟩
        have RT3 := hide (hT3 ▸ RT2.out.set 3 (.int .i64 cc) (by omega) : C6 T3 W2.heap.size _)
        obtain ⟨vT3, eT3⟩ : ∃ u, T2.cell? ⟨W2.heap.size, 3, none⟩ = some u := ⟨_, RT2.out.c 3 (by omega)⟩
        have fT3 := RT2.out.f 3
        have kT3 : Kept (· = W2.heap.size) T2 T3 := hT3 ▸ Kept.setCell T2 ⟨W2.heap.size, 3, none⟩ _
        have BT3 := hide (hT3 ▸ BT2.out.setCell (p := ⟨W2.heap.size, 3, none⟩) (by have := Y.out; show w.heap.size ≤ W2.heap.size; omega) _ : Below w.heap.size w T3)
        obtain ⟨T4, hT4⟩ : ∃ T4, T3.setCell ⟨W2.heap.size, 4, none⟩ (.int .i64 ff) = T4 := ⟨_, rfl⟩
        have RT4 := hide (hT4 ▸ RT3.out.set 4 (.int .i64 ff) (by omega) : C6 T4 W2.heap.size _)
        obtain ⟨vT4, eT4⟩ : ∃ u, T3.cell? ⟨W2.heap.size, 4, none⟩ = some u := ⟨_, RT3.out.c 4 (by omega)⟩
        have fT4 := RT3.out.f 4
        have kT4 : Kept (· = W2.heap.size) T3 T4 := hT4 ▸ Kept.setCell T3 ⟨W2.heap.size, 4, none⟩ _
        have BT4 := hide (hT4 ▸ BT3.out.setCell (p := ⟨W2.heap.size, 4, none⟩) (by have := Y.out; show w.heap.size ≤ W2.heap.size; omega) _ : Below w.heap.size w T4)
        obtain ⟨T5, hT5⟩ : ∃ T5, T4.setCell ⟨W2.heap.size, 5, none⟩ (.int .i64 gg) = T5 := ⟨_, rfl⟩
        have RT5 := hide (hT5 ▸ RT4.out.set 5 (.int .i64 gg) (by omega) : C6 T5 W2.heap.size _)
        obtain ⟨vT5, eT5⟩ : ∃ u, T4.cell? ⟨W2.heap.size, 5, none⟩ = some u := ⟨_, RT4.out.c 5 (by omega)⟩
        have fT5 := RT4.out.f 5
        have kT5 : Kept (· = W2.heap.size) T4 T5 := hT5 ▸ Kept.setCell T4 ⟨W2.heap.size, 5, none⟩ _
        have BT5 := hide (hT5 ▸ BT4.out.setCell (p := ⟨W2.heap.size, 5, none⟩) (by have := Y.out; show w.heap.size ≤ W2.heap.size; omega) _ : Below w.heap.size w T5)
        have kk : Kept (· = W2.heap.size) V T5 := ((((kT0.trans kT1).trans kT2).trans kT3).trans kT4).trans kT5
        have ZP := hide ((HP2.out.kept kk (fun b hb e => by have := (HP2.out.blk hb).1; have := LZ.out; have := Y.out; have e : b = W2.heap.size := e; omega)).mono BK.out.size)
        have ZF := hide ((HF2.out.kept kk (fun b hb e => by have := (HF2.out.blk hb).1; have := LZ.out; have := Y.out; have e : b = W2.heap.size := e; omega)).mono BK.out.size)
        have ZS := hide ((HS2.out.kept kk (fun b hb e => by have := (HS2.out.blk hb).1; have := LZ.out; have := Y.out; have e : b = W2.heap.size := e; omega)).mono BK.out.size)
        have r0 : T5.cell? ⟨W2.heap.size, 0, none⟩ = some (.slice p' n c') := RT5.out.c 0 (by omega)
        have r1 : T5.cell? ⟨W2.heap.size, 1, none⟩ = some (.slice f' n d') := RT5.out.c 1 (by omega)
        have r2 : T5.cell? ⟨W2.heap.size, 2, none⟩ = some (.slice q' n g') := RT5.out.c 2 (by omega)
        have r3 : T5.cell? ⟨W2.heap.size, 3, none⟩ = some (.int .i64 cc) := RT5.out.c 3 (by omega)
        have r4 : T5.cell? ⟨W2.heap.size, 4, none⟩ = some (.int .i64 ff) := RT5.out.c 4 (by omega)
        have r5 : T5.cell? ⟨W2.heap.size, 5, none⟩ = some (.int .i64 gg) := RT5.out.c 5 (by omega)
        clear kk kT0 kT1 kT2 kT3 kT4 kT5
        go_wp2_with fail
        refine bodyPost_ret (v := .tuple #[.agg #[.slice p' n c', .slice f' n d', .slice q' n g', .int .i64 cc, .int .i64 ff, .int .i64 gg], .int .i64 (k : Int)]) (by simp [results, Try.results10, go_sem, r0, r1, r2, r3, r4, r5]) rfl ?_
        exact ⟨k, p', f', q', c', d', g', ⟨by omega, HN.out, .inr STOP.out⟩, by rw [EC.out.1, EC.out.2.1, EC.out.2.2], ⟨ZP.out, ZF.out, ZS.out⟩, AP.out, HO.out, BT5.out⟩
      case true =>
        have NX := hide (show ¬ X k from fun h => by have := HX.out h; cases this)
        obtain ⟨em, eN, -⟩ := HNX.out NX.out
        have EN := hide eN
        clear eN
        subst em
        obtain ⟨-, n0, n1, n2, n3, n4, n5⟩ := NA.out.box
        have NE := hide (show vb ≠ W1.heap.size from by have := NA.out.hB; have := ZW.out; omega)
        have UP := hide (own_na NA.out.P HC6.out (ls_OV ..))
        have UF := hide (own_na NA.out.F HC6.out (ls_OV ..))
        have US := hide (own_na NA.out.S HC6.out (ls_OV ..))
        obtain ⟨U0, hU0⟩ : ∃ U0, Z.setCell ⟨W1.heap.size, 0, none⟩ (.slice p1 m' c1) = U0 := ⟨_, rfl⟩
        have RU0 := hide (hU0 ▸ HC6.out.set 0 (.slice p1 m' c1) (by omega) : C6 U0 W1.heap.size _)
        obtain ⟨vU0, eU0⟩ : ∃ u, Z.cell? ⟨W1.heap.size, 0, none⟩ = some u := ⟨_, HC6.out.c 0 (by omega)⟩
        have fU0 := HC6.out.f 0
        have kU0 : Kept (· = W1.heap.size) Z U0 := hU0 ▸ Kept.setCell Z ⟨W1.heap.size, 0, none⟩ _
        have BU0 := hide (hU0 ▸ BK.out.setCell (p := ⟨W1.heap.size, 0, none⟩) (Nat.le_of_lt Y.out.1) _ : Below w.heap.size w U0)
        obtain ⟨U1, hU1⟩ : ∃ U1, U0.setCell ⟨W1.heap.size, 1, none⟩ (.slice f1 m' d1) = U1 := ⟨_, rfl⟩
        have RU1 := hide (hU1 ▸ RU0.out.set 1 (.slice f1 m' d1) (by omega) : C6 U1 W1.heap.size _)
        obtain ⟨vU1, eU1⟩ : ∃ u, U0.cell? ⟨W1.heap.size, 1, none⟩ = some u := ⟨_, RU0.out.c 1 (by omega)⟩
        have fU1 := RU0.out.f 1
        have kU1 : Kept (· = W1.heap.size) U0 U1 := hU1 ▸ Kept.setCell U0 ⟨W1.heap.size, 1, none⟩ _
        have BU1 := hide (hU1 ▸ BU0.out.setCell (p := ⟨W1.heap.size, 1, none⟩) (Nat.le_of_lt Y.out.1) _ : Below w.heap.size w U1)
        obtain ⟨U2, hU2⟩ : ∃ U2, U1.setCell ⟨W1.heap.size, 2, none⟩ (.slice q1 m' g1) = U2 := ⟨_, rfl⟩
        have RU2 := hide (hU2 ▸ RU1.out.set 2 (.slice q1 m' g1) (by omega) : C6 U2 W1.heap.size _)
        obtain ⟨vU2, eU2⟩ : ∃ u, U1.cell? ⟨W1.heap.size, 2, none⟩ = some u := ⟨_, RU1.out.c 2 (by omega)⟩
        have fU2 := RU1.out.f 2
        have kU2 : Kept (· = W1.heap.size) U1 U2 := hU2 ▸ Kept.setCell U1 ⟨W1.heap.size, 2, none⟩ _
        have BU2 := hide (hU2 ▸ BU1.out.setCell (p := ⟨W1.heap.size, 2, none⟩) (Nat.le_of_lt Y.out.1) _ : Below w.heap.size w U2)
        obtain ⟨U3, hU3⟩ : ∃ U3, U2.setCell ⟨W1.heap.size, 3, none⟩ (.int .i64 N.c) = U3 := ⟨_, rfl⟩
        have RU3 := hide (hU3 ▸ RU2.out.set 3 (.int .i64 N.c) (by omega) : C6 U3 W1.heap.size _)
        obtain ⟨vU3, eU3⟩ : ∃ u, U2.cell? ⟨W1.heap.size, 3, none⟩ = some u := ⟨_, RU2.out.c 3 (by omega)⟩
        have fU3 := RU2.out.f 3
        have kU3 : Kept (· = W1.heap.size) U2 U3 := hU3 ▸ Kept.setCell U2 ⟨W1.heap.size, 3, none⟩ _
        have BU3 := hide (hU3 ▸ BU2.out.setCell (p := ⟨W1.heap.size, 3, none⟩) (Nat.le_of_lt Y.out.1) _ : Below w.heap.size w U3)
        obtain ⟨U4, hU4⟩ : ∃ U4, U3.setCell ⟨W1.heap.size, 4, none⟩ (.int .i64 N.f) = U4 := ⟨_, rfl⟩
        have RU4 := hide (hU4 ▸ RU3.out.set 4 (.int .i64 N.f) (by omega) : C6 U4 W1.heap.size _)
        obtain ⟨vU4, eU4⟩ : ∃ u, U3.cell? ⟨W1.heap.size, 4, none⟩ = some u := ⟨_, RU3.out.c 4 (by omega)⟩
        have fU4 := RU3.out.f 4
        have kU4 : Kept (· = W1.heap.size) U3 U4 := hU4 ▸ Kept.setCell U3 ⟨W1.heap.size, 4, none⟩ _
        have BU4 := hide (hU4 ▸ BU3.out.setCell (p := ⟨W1.heap.size, 4, none⟩) (Nat.le_of_lt Y.out.1) _ : Below w.heap.size w U4)
        obtain ⟨U5, hU5⟩ : ∃ U5, U4.setCell ⟨W1.heap.size, 5, none⟩ (.int .i64 N.g) = U5 := ⟨_, rfl⟩
        have RU5 := hide (hU5 ▸ RU4.out.set 5 (.int .i64 N.g) (by omega) : C6 U5 W1.heap.size _)
        obtain ⟨vU5, eU5⟩ : ∃ u, U4.cell? ⟨W1.heap.size, 5, none⟩ = some u := ⟨_, RU4.out.c 5 (by omega)⟩
        have fU5 := RU4.out.f 5
        have kU5 : Kept (· = W1.heap.size) U4 U5 := hU5 ▸ Kept.setCell U4 ⟨W1.heap.size, 5, none⟩ _
        have BU5 := hide (hU5 ▸ BU4.out.setCell (p := ⟨W1.heap.size, 5, none⟩) (Nat.le_of_lt Y.out.1) _ : Below w.heap.size w U5)
        have kk : Kept (· = W1.heap.size) Z U5 := ((((kU0.trans kU1).trans kU2).trans kU3).trans kU4).trans kU5
        have OU := hide (RU5.out.same (fun i hi => by rcases (by omega : i = 0 ∨ i = 1 ∨ i = 2 ∨ i = 3 ∨ i = 4 ∨ i = 5) with rfl | rfl | rfl | rfl | rfl | rfl <;> rfl) : C6 U5 W1.heap.size (OV p1 f1 q1 m' c1 d1 g1 N.c N.f N.g))
        have IP := hide ((NA.out.P.kept kk (fun b hb e => UP.out b hb e)).ints)
        have IF := hide ((NA.out.F.kept kk (fun b hb e => UF.out b hb e)).ints)
        have IS := hide ((NA.out.S.kept kk (fun b hb e => US.out b hb e)).ints)
        have KU := hide (HK.out.trans kk)
        clear kk kU0 kU1 kU2 kU3 kU4 kU5
        go_wp2_with fail
        go_roundw
        case rel =>
          refine ⟨k + 1, p1, f1, q1, c1, d1, g1, by omega, by go_num, fun t ht => ?_, ?_, ?_, KU.out⟩
          · by_cases e : t < k
            · exact HN.out t e
            · obtain rfl : t = k := by omega
              exact NX.out
          · rw [← EN.out]; exact OU.out
          · rw [← EN.out]; exact ⟨IP.out, IF.out, IS.out⟩
        case measure => simp [intOf]; omega
    · have lk : decide ((k : Int) < (m : Int)) = false := decide_eq_false (by omega)
      have lk' : decide (k < m) = false := decide_eq_false (by omega)
      obtain rfl : k = m := by omega
      have CC := hide (specCopyO p f q n c d g (S k).P (S k).F (S k).S cc ff gg wr HP.out HF.out HS.out (nil_ints HP.out) (nil_ints HF.out) (nil_ints HS.out) N4.out)
      go_wp2_with fail
      refine CC.out.mono ?_; rintro e V ⟨p', f', q', c', d', g', rfl, ⟨w1, w2, w3⟩, ⟨v1, v2⟩, bx⟩
      have RZ := hide (RW.out.kept (Kept.of_below (S := fun _ => False) bx) id)
      have BZ := hide (BK.out.trans (bx.mono BK.out.size))
      have LZ := hide (show W3.heap.size ≤ wr.heap.size from Nat.le_trans S4.out HK.out.size)
      have HP2 := hide w1
      have HF2 := hide w2
      have HS2 := hide w3
      have AP := hide (And.intro v1 v2)
      clear w1 w2 w3 v1 v2 bx CC
      obtain ⟨T0, hT0⟩ : ∃ T0, V.setCell ⟨W2.heap.size, 0, none⟩ (.slice p' n c') = T0 := ⟨_, rfl⟩
      have RT0 := hide (hT0 ▸ RZ.out.set 0 (.slice p' n c') (by omega) : C6 T0 W2.heap.size _)
      obtain ⟨vT0, eT0⟩ : ∃ u, V.cell? ⟨W2.heap.size, 0, none⟩ = some u := ⟨_, RZ.out.c 0 (by omega)⟩
      have fT0 := RZ.out.f 0
      have kT0 : Kept (· = W2.heap.size) V T0 := hT0 ▸ Kept.setCell V ⟨W2.heap.size, 0, none⟩ _
      have BT0 := hide (hT0 ▸ BZ.out.setCell (p := ⟨W2.heap.size, 0, none⟩) (by have := Y.out; show w.heap.size ≤ W2.heap.size; omega) _ : Below w.heap.size w T0)
      obtain ⟨T1, hT1⟩ : ∃ T1, T0.setCell ⟨W2.heap.size, 1, none⟩ (.slice f' n d') = T1 := ⟨_, rfl⟩
      have RT1 := hide (hT1 ▸ RT0.out.set 1 (.slice f' n d') (by omega) : C6 T1 W2.heap.size _)
      obtain ⟨vT1, eT1⟩ : ∃ u, T0.cell? ⟨W2.heap.size, 1, none⟩ = some u := ⟨_, RT0.out.c 1 (by omega)⟩
      have fT1 := RT0.out.f 1
      have kT1 : Kept (· = W2.heap.size) T0 T1 := hT1 ▸ Kept.setCell T0 ⟨W2.heap.size, 1, none⟩ _
      have BT1 := hide (hT1 ▸ BT0.out.setCell (p := ⟨W2.heap.size, 1, none⟩) (by have := Y.out; show w.heap.size ≤ W2.heap.size; omega) _ : Below w.heap.size w T1)
      obtain ⟨T2, hT2⟩ : ∃ T2, T1.setCell ⟨W2.heap.size, 2, none⟩ (.slice q' n g') = T2 := ⟨_, rfl⟩
      have RT2 := hide (hT2 ▸ RT1.out.set 2 (.slice q' n g') (by omega) : C6 T2 W2.heap.size _)
      obtain ⟨vT2, eT2⟩ : ∃ u, T1.cell? ⟨W2.heap.size, 2, none⟩ = some u := ⟨_, RT1.out.c 2 (by omega)⟩
      have fT2 := RT1.out.f 2
      have kT2 : Kept (· = W2.heap.size) T1 T2 := hT2 ▸ Kept.setCell T1 ⟨W2.heap.size, 2, none⟩ _
      have BT2 := hide (hT2 ▸ BT1.out.setCell (p := ⟨W2.heap.size, 2, none⟩) (by have := Y.out; show w.heap.size ≤ W2.heap.size; omega) _ : Below w.heap.size w T2)
      obtain ⟨T3, hT3⟩ : ∃ T3, T2.setCell ⟨W2.heap.size, 3, none⟩ (.int .i64 cc) = T3 := ⟨_, rfl⟩
      have RT3 := hide (hT3 ▸ RT2.out.set 3 (.int .i64 cc) (by omega) : C6 T3 W2.heap.size _)
      obtain ⟨vT3, eT3⟩ : ∃ u, T2.cell? ⟨W2.heap.size, 3, none⟩ = some u := ⟨_, RT2.out.c 3 (by omega)⟩
      have fT3 := RT2.out.f 3
      have kT3 : Kept (· = W2.heap.size) T2 T3 := hT3 ▸ Kept.setCell T2 ⟨W2.heap.size, 3, none⟩ _
      have BT3 := hide (hT3 ▸ BT2.out.setCell (p := ⟨W2.heap.size, 3, none⟩) (by have := Y.out; show w.heap.size ≤ W2.heap.size; omega) _ : Below w.heap.size w T3)
      obtain ⟨T4, hT4⟩ : ∃ T4, T3.setCell ⟨W2.heap.size, 4, none⟩ (.int .i64 ff) = T4 := ⟨_, rfl⟩
      have RT4 := hide (hT4 ▸ RT3.out.set 4 (.int .i64 ff) (by omega) : C6 T4 W2.heap.size _)
      obtain ⟨vT4, eT4⟩ : ∃ u, T3.cell? ⟨W2.heap.size, 4, none⟩ = some u := ⟨_, RT3.out.c 4 (by omega)⟩
      have fT4 := RT3.out.f 4
      have kT4 : Kept (· = W2.heap.size) T3 T4 := hT4 ▸ Kept.setCell T3 ⟨W2.heap.size, 4, none⟩ _
      have BT4 := hide (hT4 ▸ BT3.out.setCell (p := ⟨W2.heap.size, 4, none⟩) (by have := Y.out; show w.heap.size ≤ W2.heap.size; omega) _ : Below w.heap.size w T4)
      obtain ⟨T5, hT5⟩ : ∃ T5, T4.setCell ⟨W2.heap.size, 5, none⟩ (.int .i64 gg) = T5 := ⟨_, rfl⟩
      have RT5 := hide (hT5 ▸ RT4.out.set 5 (.int .i64 gg) (by omega) : C6 T5 W2.heap.size _)
      obtain ⟨vT5, eT5⟩ : ∃ u, T4.cell? ⟨W2.heap.size, 5, none⟩ = some u := ⟨_, RT4.out.c 5 (by omega)⟩
      have fT5 := RT4.out.f 5
      have kT5 : Kept (· = W2.heap.size) T4 T5 := hT5 ▸ Kept.setCell T4 ⟨W2.heap.size, 5, none⟩ _
      have BT5 := hide (hT5 ▸ BT4.out.setCell (p := ⟨W2.heap.size, 5, none⟩) (by have := Y.out; show w.heap.size ≤ W2.heap.size; omega) _ : Below w.heap.size w T5)
      have kk : Kept (· = W2.heap.size) V T5 := ((((kT0.trans kT1).trans kT2).trans kT3).trans kT4).trans kT5
      have ZP := hide ((HP2.out.kept kk (fun b hb e => by have := (HP2.out.blk hb).1; have := LZ.out; have := Y.out; have e : b = W2.heap.size := e; omega)).mono BK.out.size)
      have ZF := hide ((HF2.out.kept kk (fun b hb e => by have := (HF2.out.blk hb).1; have := LZ.out; have := Y.out; have e : b = W2.heap.size := e; omega)).mono BK.out.size)
      have ZS := hide ((HS2.out.kept kk (fun b hb e => by have := (HS2.out.blk hb).1; have := LZ.out; have := Y.out; have e : b = W2.heap.size := e; omega)).mono BK.out.size)
      have r0 : T5.cell? ⟨W2.heap.size, 0, none⟩ = some (.slice p' n c') := RT5.out.c 0 (by omega)
      have r1 : T5.cell? ⟨W2.heap.size, 1, none⟩ = some (.slice f' n d') := RT5.out.c 1 (by omega)
      have r2 : T5.cell? ⟨W2.heap.size, 2, none⟩ = some (.slice q' n g') := RT5.out.c 2 (by omega)
      have r3 : T5.cell? ⟨W2.heap.size, 3, none⟩ = some (.int .i64 cc) := RT5.out.c 3 (by omega)
      have r4 : T5.cell? ⟨W2.heap.size, 4, none⟩ = some (.int .i64 ff) := RT5.out.c 4 (by omega)
      have r5 : T5.cell? ⟨W2.heap.size, 5, none⟩ = some (.int .i64 gg) := RT5.out.c 5 (by omega)
      clear kk kT0 kT1 kT2 kT3 kT4 kT5
      go_wp2_with fail
      refine bodyPost_ret (v := .tuple #[.agg #[.slice p' n c', .slice f' n d', .slice q' n g', .int .i64 cc, .int .i64 ff, .int .i64 gg], .int .i64 (k : Int)]) (by simp [results, Try.results10, go_sem, r0, r1, r2, r3, r4, r5]) rfl ?_
      exact ⟨k, p', f', q', c', d', g', ⟨by omega, HN.out, .inl rfl⟩, by rw [EC.out.1, EC.out.2.1, EC.out.2.2], ⟨ZP.out, ZF.out, ZS.out⟩, AP.out, HO.out, BT5.out⟩
end Vo
end Go.Proofs.Ytflbhlepmjiejaa

/- RunOpt on both sides (written by tools/genro.py). -/
namespace Go.Proofs.Ytflbhlepmjiejaa
namespace Vo
open Go.ChangeShapes Go.WideShapes Go.ChangeAt Go.RowKit Go.Joins Go.Sort
open Vl
set_option linter.unusedVariables false
set_option linter.unusedSimpArgs false
set_option maxHeartbeats 2000000 in
theorem sRunNo (R : Rl) (n n2 n3 m cP cF cS cl : Nat) (s : St) (aP aF aS ls : Option Addr) (w : World) (h1 : Ints w.heap.size w aP n s.P) (h2 : Ints w.heap.size w aF n2 s.F) (h3 : Ints w.heap.size w aS n3 s.S) (hr1 : (n : Int) ≤ 1048576) (hr2 : (n2 : Int) ≤ 1048576) (hr3 : (n3 : Int) ≤ 1048576) (hb : bd s.c ∧ bd s.f ∧ bd s.g) (hno : ook n n2 n3 s.P s.F s.S s.c s.f s.g = false) :
    Calls Try.prog 10 #[.agg #[.int .i64 R.d, .int .i64 R.r1, .int .i64 R.r2, .int .i64 R.r3, .int .i64 R.r4, .int .i64 R.k, .int .i64 R.z, .int .i64 R.o, .int .i64 R.y, .int .i64 R.mo, .int .i64 R.gr], .agg #[.slice aP n cP, .slice aF n2 cF, .slice aS n3 cS, .int .i64 s.c, .int .i64 s.f, .int .i64 s.g], .slice ls m cl] w fun e w' => e = .returned (.tuple #[ZOpt, .int .i64 0]) ∧ Below w.heap.size w w' := by
  obtain ⟨W1, hW1⟩ : ∃ W1, w.alloc (.cells #[.int .i64 R.d, .int .i64 R.r1, .int .i64 R.r2, .int .i64 R.r3, .int .i64 R.r4, .int .i64 R.k, .int .i64 R.z, .int .i64 R.o, .int .i64 R.y, .int .i64 R.mo, .int .i64 R.gr] 27) = W1 := ⟨_, rfl⟩
  have n1 : Below w.heap.size w W1 := hW1 ▸ (Below.refl _ _).alloc (Nat.le_refl _) _
  have y1 : w.heap.size < W1.heap.size := by rw [← hW1]; simp
  obtain ⟨W2, hW2⟩ : ∃ W2, W1.alloc (.cells #[.slice aP n cP, .slice aF n2 cF, .slice aS n3 cS, .int .i64 s.c, .int .i64 s.f, .int .i64 s.g] 30) = W2 := ⟨_, rfl⟩
  have n2' : Below W1.heap.size W1 W2 := hW2 ▸ (Below.refl _ _).alloc (Nat.le_refl _) _
  have y2 : W1.heap.size < W2.heap.size := by rw [← hW2]; simp
  obtain ⟨W3, hW3⟩ : ∃ W3, W2.alloc (.cells #[.slice none 0 0, .slice none 0 0, .slice none 0 0, .int .i64 0, .int .i64 0, .int .i64 0] 30) = W3 := ⟨_, rfl⟩
  have n3' : Below W2.heap.size W2 W3 := hW3 ▸ (Below.refl _ _).alloc (Nat.le_refl _) _
  have y3 : W2.heap.size < W3.heap.size := by rw [← hW3]; simp
  have K := hide ((hW2 ▸ boxV6_new _ _ _ _ _ _ _ _ : BoxV6 W2 W1.heap.size (.slice aP n cP) (.slice aF n2 cF) (.slice aS n3 cS) (.int .i64 s.c) (.int .i64 s.f) (.int .i64 s.g)).below n3')
  have R1 := hide (show C6 W3 W2.heap.size (OV none none none 0 0 0 0 0 0 0) from ⟨fun i hi => by rcases (by omega : i = 0 ∨ i = 1 ∨ i = 2 ∨ i = 3 ∨ i = 4 ∨ i = 5) with rfl | rfl | rfl | rfl | rfl | rfl <;> (rw [← hW3]; simp [go_sem, OV]), fun i => by rw [← hW3]; simp [go_sem], y3⟩)
  have B3 := hide ((n1.trans (n2'.mono n1.size)).trans (n3'.mono (Nat.le_trans n1.size n2'.size)))
  have Y := hide (And.intro y1 (And.intro y2 y3))
  have CO := hide (specOpt aP aF aS n n2 n3 cP cF cS s.P s.F s.S s.c s.f s.g W3 ((h1.below B3.out).mono B3.out.size) ((h2.below B3.out).mono B3.out.size) ((h3.below B3.out).mono B3.out.size) hr1 hb.1 hb.2.1 hb.2.2 hr2 hr3)
  rw [hno] at CO
  clear h1 h2 h3 hb hno n1 n2' n3' y1 y2 y3
  obtain ⟨-, c0, c1, c2, c3, c4, c5⟩ := K.out
  go_enter Try.func10, Try.ntmps10
  go_wp2_with fail
  refine CO.out.mono ?_; rintro e X ⟨rfl, bx⟩
  have RX := hide (R1.out.kept (Kept.of_below (S := fun _ => False) bx) id)
  have BX := hide (B3.out.trans (bx.mono B3.out.size))
  clear bx CO R1 B3 K c0 c1 c2 c3 c4 c5 hW1 hW2 hW3
  obtain ⟨T0, hT0⟩ : ∃ T0, X.setCell ⟨W2.heap.size, 0, none⟩ (.slice none 0 0) = T0 := ⟨_, rfl⟩
  have RT0 := hide (hT0 ▸ RX.out.set 0 (.slice none 0 0) (by omega) : C6 T0 W2.heap.size _)
  have eT0 : X.cell? ⟨W2.heap.size, 0, none⟩ = some (.slice none 0 0) := RX.out.c 0 (by omega)
  have fT0 := RX.out.f 0
  have BT0 := hide (hT0 ▸ BX.out.setCell (p := ⟨W2.heap.size, 0, none⟩) (by have := Y.out; show w.heap.size ≤ W2.heap.size; omega) _ : Below w.heap.size w T0)
  obtain ⟨T1, hT1⟩ : ∃ T1, T0.setCell ⟨W2.heap.size, 1, none⟩ (.slice none 0 0) = T1 := ⟨_, rfl⟩
  have RT1 := hide (hT1 ▸ RT0.out.set 1 (.slice none 0 0) (by omega) : C6 T1 W2.heap.size _)
  have eT1 : T0.cell? ⟨W2.heap.size, 1, none⟩ = some (.slice none 0 0) := RT0.out.c 1 (by omega)
  have fT1 := RT0.out.f 1
  have BT1 := hide (hT1 ▸ BT0.out.setCell (p := ⟨W2.heap.size, 1, none⟩) (by have := Y.out; show w.heap.size ≤ W2.heap.size; omega) _ : Below w.heap.size w T1)
  obtain ⟨T2, hT2⟩ : ∃ T2, T1.setCell ⟨W2.heap.size, 2, none⟩ (.slice none 0 0) = T2 := ⟨_, rfl⟩
  have RT2 := hide (hT2 ▸ RT1.out.set 2 (.slice none 0 0) (by omega) : C6 T2 W2.heap.size _)
  have eT2 : T1.cell? ⟨W2.heap.size, 2, none⟩ = some (.slice none 0 0) := RT1.out.c 2 (by omega)
  have fT2 := RT1.out.f 2
  have BT2 := hide (hT2 ▸ BT1.out.setCell (p := ⟨W2.heap.size, 2, none⟩) (by have := Y.out; show w.heap.size ≤ W2.heap.size; omega) _ : Below w.heap.size w T2)
  obtain ⟨T3, hT3⟩ : ∃ T3, T2.setCell ⟨W2.heap.size, 3, none⟩ (.int .i64 0) = T3 := ⟨_, rfl⟩
  have RT3 := hide (hT3 ▸ RT2.out.set 3 (.int .i64 0) (by omega) : C6 T3 W2.heap.size _)
  have eT3 : T2.cell? ⟨W2.heap.size, 3, none⟩ = some (.int .i64 0) := RT2.out.c 3 (by omega)
  have fT3 := RT2.out.f 3
  have BT3 := hide (hT3 ▸ BT2.out.setCell (p := ⟨W2.heap.size, 3, none⟩) (by have := Y.out; show w.heap.size ≤ W2.heap.size; omega) _ : Below w.heap.size w T3)
  obtain ⟨T4, hT4⟩ : ∃ T4, T3.setCell ⟨W2.heap.size, 4, none⟩ (.int .i64 0) = T4 := ⟨_, rfl⟩
  have RT4 := hide (hT4 ▸ RT3.out.set 4 (.int .i64 0) (by omega) : C6 T4 W2.heap.size _)
  have eT4 : T3.cell? ⟨W2.heap.size, 4, none⟩ = some (.int .i64 0) := RT3.out.c 4 (by omega)
  have fT4 := RT3.out.f 4
  have BT4 := hide (hT4 ▸ BT3.out.setCell (p := ⟨W2.heap.size, 4, none⟩) (by have := Y.out; show w.heap.size ≤ W2.heap.size; omega) _ : Below w.heap.size w T4)
  obtain ⟨T5, hT5⟩ : ∃ T5, T4.setCell ⟨W2.heap.size, 5, none⟩ (.int .i64 0) = T5 := ⟨_, rfl⟩
  have RT5 := hide (hT5 ▸ RT4.out.set 5 (.int .i64 0) (by omega) : C6 T5 W2.heap.size _)
  have eT5 : T4.cell? ⟨W2.heap.size, 5, none⟩ = some (.int .i64 0) := RT4.out.c 5 (by omega)
  have fT5 := RT4.out.f 5
  have BT5 := hide (hT5 ▸ BT4.out.setCell (p := ⟨W2.heap.size, 5, none⟩) (by have := Y.out; show w.heap.size ≤ W2.heap.size; omega) _ : Below w.heap.size w T5)
  have r0 : T5.cell? ⟨W2.heap.size, 0, none⟩ = some (.slice none 0 0) := RT5.out.c 0 (by omega)
  have r1 : T5.cell? ⟨W2.heap.size, 1, none⟩ = some (.slice none 0 0) := RT5.out.c 1 (by omega)
  have r2 : T5.cell? ⟨W2.heap.size, 2, none⟩ = some (.slice none 0 0) := RT5.out.c 2 (by omega)
  have r3 : T5.cell? ⟨W2.heap.size, 3, none⟩ = some (.int .i64 0) := RT5.out.c 3 (by omega)
  have r4 : T5.cell? ⟨W2.heap.size, 4, none⟩ = some (.int .i64 0) := RT5.out.c 4 (by omega)
  have r5 : T5.cell? ⟨W2.heap.size, 5, none⟩ = some (.int .i64 0) := RT5.out.c 5 (by omega)
  go_wp2_with fail
  exact bodyPost_ret (v := .tuple #[ZOpt, .int .i64 0]) (by simp [results, Try.results10, go_sem, r0, r1, r2, r3, r4, r5, ZOpt]) rfl ⟨rfl, BT5.out⟩
/-- a run's answer, whatever it is -/
def RunU (m : Nat) (N : St) (K : Int) (w : World) (e : Ending) (w' : World) : Prop :=
  ∃ (p f q : Option Addr) (c d g : Nat), e = .returned (.tuple #[.agg #[.slice p m c, .slice f m d, .slice q m g, .int .i64 N.c, .int .i64 N.f, .int .i64 N.g], .int .i64 K]) ∧ (OwnL w.heap.size w' p m N.P ∧ OwnL w.heap.size w' f m N.F ∧ OwnL w.heap.size w' q m N.S) ∧ ((∀ k k', Blk p m k → Blk f m k' → k < k') ∧ (∀ k k', Blk f m k → Blk q m k' → k < k')) ∧ Below w.heap.size w w'
def Ends (m : Nat) (X : Nat → Prop) (k : Nat) : Prop := k ≤ m ∧ (∀ t, t < k → ¬ X t) ∧ (k = m ∨ X k)
theorem run_one (m : Nat) (X : Nat → Prop) : ∃ K, ∀ k, Ends m X k → k = K := by
  by_cases h : ∃ K, Ends m X K
  · obtain ⟨K, K1, K2, K3⟩ := h
    refine ⟨K, fun k ⟨k1, k2, k3⟩ => ?_⟩
    rcases Nat.lt_trichotomy k K with q | q | q
    · rcases k3 with k3 | k3
      · omega
      · exact absurd k3 (K2 k q)
    · exact q
    · rcases K3 with K3 | K3
      · omega
      · exact absurd K3 (k2 K q)
  · exact ⟨0, fun k hk => absurd ⟨k, hk⟩ h⟩
theorem RunR.uni {n m K : Nat} {S : Nat → St} {X : Nat → Prop} {w w' : World} {e : Ending} (h : RunR n m S X w e w') (hK : ∀ k, Ends m X k → k = K) : RunU n (S K) (K : Int) w e w' := by
  obtain ⟨k, p, f, s, c, d, g, hk, e1, o, ⟨b1, b2⟩, -, bl⟩ := h
  obtain rfl := hK k hk
  exact ⟨p, f, s, c, d, g, e1, o, ⟨bhd_lt b1, bhd_lt b2⟩, bl⟩
theorem RunR.turn {n m : Nat} {S S' : Nat → St} {X X' : Nat → Prop} {w w' : World} {e : Ending} (h : RunR n m S X w e w') (hS : ∀ k, k ≤ m → S k = S' k) (hX : ∀ k, k < m → (X k ↔ X' k)) : RunR n m S' X' w e w' := by
  obtain ⟨k, p, f, s, c, d, g, ⟨k1, k2, k3⟩, e1, o, bb, ok, bl⟩ := h
  rw [hS k k1] at e1 o ok
  refine ⟨k, p, f, s, c, d, g, ⟨k1, fun t ht q => k2 t ht ((hX t (by omega)).2 q), ?_⟩, e1, o, bb, ok, bl⟩
  rcases k3 with k3 | k3
  · exact .inl k3
  · by_cases c : k = m
    · exact .inl c
    · exact .inr ((hX k (by omega)).1 k3)
theorem ok_bd {n : Nat} {s : St} (h : s.ok n) : bd s.c ∧ bd s.f ∧ bd s.g := by
  obtain ⟨-, -, -, ⟨c0, c1⟩, ⟨g0, g1⟩, -, hf⟩ := h
  have f0 := fac_rng hf
  unfold bd
  omega
def zSt : St := ⟨fun _ => 0, fun _ => 0, fun _ => 0, 0, 0, 0⟩
theorem run_zero {w w' : World} {e : Ending} (h : e = .returned (.tuple #[ZOpt, .int .i64 0]) ∧ Below w.heap.size w w') : RunU 0 zSt 0 w e w' :=
  ⟨none, none, none, 0, 0, 0, h.1, ⟨.inl rfl, .inl rfl, .inl rfl⟩, ⟨fun k k' h => absurd rfl h.1, fun k k' h => absurd rfl h.1⟩, h.2⟩
theorem step_zero {w w' : World} {e : Ending} (h : e = .returned (.tuple #[ZOpt, .bool false]) ∧ Below w.heap.size w w') : StepU 0 zSt false w e w' :=
  ⟨none, none, none, 0, 0, 0, h.1, ⟨.inl rfl, .inl rfl, .inl rfl⟩, ⟨fun k k' h => absurd rfl h.1, fun k k' h => absurd rfl h.1⟩, h.2⟩
end Vo
end Go.Proofs.Ytflbhlepmjiejaa

/- Clipped gradients are no longer than told, but for rounding: plain. -/
namespace Go.Proofs.Ytflbhlepmjiejaa
namespace Vo
open Vl
set_option linter.unusedVariables false
/-- sums of products -/
def dsm (A B : Nat → Int) : Nat → Int
  | 0 => 0
  | k + 1 => dsm A B k + A k * B k
theorem sq_nn (x : Int) : 0 ≤ x * x := by
  by_cases c : 0 ≤ x
  · exact Int.mul_nonneg c c
  · have := Int.mul_nonneg (a := -x) (b := -x) (by omega) (by omega); rw [Int.neg_mul_neg] at this; exact this
theorem nsum_nn (A : Nat → Int) (k : Nat) : 0 ≤ nsum A k := by
  induction k with
  | zero => exact Int.le_refl _
  | succ k ih => show 0 ≤ nsum A k + A k * A k; have := sq_nn (A k); omega
/-- of squares: the root's order -/
theorem le_of_sq {x y : Int} (y0 : 0 ≤ y) (h : x * x ≤ y * y) : x ≤ y := by
  by_cases c : x ≤ y
  · exact c
  · have h1 : y * y < x * x := by
      have a1 : y * y ≤ y * x := Int.mul_le_mul_of_nonneg_left (by omega) y0
      have a2 : y * x < x * x := Int.mul_lt_mul_of_pos_right (by omega) (by omega)
      omega
    omega
/-- Cauchy and Schwarz -/
theorem cs (A B : Nat → Int) (k : Nat) : dsm A B k * dsm A B k ≤ nsum A k * nsum B k := by
  induction k with
  | zero => exact Int.le_refl _
  | succ k ih =>
    show (dsm A B k + A k * B k) * (dsm A B k + A k * B k) ≤ (nsum A k + A k * A k) * (nsum B k + B k * B k)
    have s0 := nsum_nn A k
    have q0 := nsum_nn B k
    generalize dsm A B k = C at *
    generalize nsum A k = S at *
    generalize nsum B k = Q at *
    generalize A k = a at *
    generalize B k = b at *
    have a0 := sq_nn a
    have b0 := sq_nn b
    -- 2 C a b ≤ S b² + Q a²
    have y0 : 0 ≤ S * (b * b) + Q * (a * a) := Int.add_nonneg (Int.mul_nonneg s0 b0) (Int.mul_nonneg q0 a0)
    have d := sq_nn (S * (b * b) - Q * (a * a))
    have e1 : (2 * C * (a * b)) * (2 * C * (a * b)) = 4 * (C * C) * ((a * a) * (b * b)) := by grind
    have e2 : (S * (b * b) + Q * (a * a)) * (S * (b * b) + Q * (a * a)) = (S * (b * b) - Q * (a * a)) * (S * (b * b) - Q * (a * a)) + 4 * (S * Q) * ((a * a) * (b * b)) := by grind
    have h1 : (C * C) * ((a * a) * (b * b)) ≤ (S * Q) * ((a * a) * (b * b)) := Int.mul_le_mul_of_nonneg_right ih (Int.mul_nonneg a0 b0)
    have h2 : 2 * C * (a * b) ≤ S * (b * b) + Q * (a * a) := by
      refine le_of_sq y0 ?_
      rw [e1, e2, Int.mul_assoc 4, Int.mul_assoc 4]
      omega
    have e3 : (C + a * b) * (C + a * b) = C * C + 2 * C * (a * b) + (a * a) * (b * b) := by grind
    have e4 : (S + a * a) * (Q + b * b) = S * Q + (S * (b * b) + Q * (a * a)) + (a * a) * (b * b) := by grind
    rw [e3, e4]
    omega
end Vo
end Go.Proofs.Ytflbhlepmjiejaa

/- Numbers whose root is asked, gradients that are clipped: what a law draws. -/
namespace Go.Proofs.Ytflbhlepmjiejaa
namespace Vo
open Go.ChangeShapes Go.WideShapes Go.ChangeAt Go.RowKit Go.Joins Go.Sort
open Vl
set_option linter.unusedVariables false
set_option linter.unusedSimpArgs false
theorem sameIntsE (B : Nat) (a a' : Option Addr) (n cap cap' : Nat) (D : Nat → Int) (w : World) (h : Ints B w a n D) (h' : Ints B w a' n D) (hn : (n : Int) ≤ 1048576) :
    Calls Try.prog 15 #[.slice a n cap, .slice a' n cap'] w fun e w' => e = .returned (.bool true) ∧ Below w.heap.size w w' := by
  have H := hide h
  have H' := hide h'
  clear h h'
  go_enter Try.func15, Try.ntmps15
  go_wp2_with fail
  go_loopw [5] (fun i wx => ∃ t : Nat, t ≤ n ∧ i = .int .i64 (t : Int) ∧ ∃ k, wx = w.drewN k) (fun i _ => n - (intOf i).toNat)
  case atStart => exact ⟨0, Nat.zero_le _, rfl, 0, rfl⟩
  case round =>
    obtain ⟨t, ht, rfl, k, rfl⟩ := hrel
    by_cases htl : t < n
    · have tI : (t : Int) < n := by omega
      rcases H.out with q | ⟨b, o, rfl, hb, hc⟩
      · omega
      rcases H'.out with q | ⟨b', o', rfl, hb', hc'⟩
      · omega
      have ct := (hc t htl).1
      have ct' := (hc' t htl).1
      clear hc hc'
      generalize D t = x at ct ct'
      go_wp2_with fail
      go_quiet (fail)
      go_wp2_with fail
      go_roundw
      case rel => exact ⟨t + 1, by omega, by go_num, _, rfl⟩
      case measure => simp [intOf]; omega
    · have tI : decide ((t : Int) < (n : Int)) = false := decide_eq_false (by omega)
      have tI' : decide (t < n) = false := decide_eq_false (by omega)
      clear htl
      go_wp2_with fail
      go_ret
      exact ⟨rfl, ⟨rfl, rfl, rfl, Nat.le_refl _, fun _ _ => rfl⟩⟩
end Vo
end Go.Proofs.Ytflbhlepmjiejaa

/- A step with a factor, and gradients that many times as great. -/
namespace Go.Proofs.Ytflbhlepmjiejaa
namespace Vo
open Go.ChangeShapes Go.WideShapes Go.ChangeAt Go.RowKit Go.Joins Go.Sort
open Vl
set_option linter.unusedVariables false
set_option linter.unusedSimpArgs false
theorem fac_one : fac 1 = true := by decide +kernel
theorem atSeven (a : Option Addr) (len cap : Nat) (i : Nat) (B : Nat) (w : World) (hc : Base.Code B w a len) (hi : i < 7) :
    Calls Try.prog 9 #[.slice a len cap, .int .i64 (i : Int)] w fun e w' => ∃ z, 0 ≤ z ∧ z ≤ 255 ∧ e = .returned (.int .i64 z) ∧ w' = w := by
  obtain ⟨l0, hc⟩ := hc
  have l1 : (len : Int) ≤ 9223372036854775807 := by omega
  have hi' : (i : Int) < 7 := by omega
  by_cases c : i < len
  · rcases hc with h0 | ⟨b, off, rfl, hB, hcell⟩
    · omega
    · obtain ⟨z, hz, z0, z1⟩ := hcell i c
      have c1 : (i : Int) < (len : Int) := by omega
      clear hcell hB l0
      go_enter Try.func9, Try.ntmps9
      go_wp2
      go_ret
      exact ⟨z, z0, z1, rfl, rfl⟩
  · have c1 : decide ((i : Int) < (len : Int)) = false := decide_eq_false (by omega)
    have hmod : Int.tmod ((i : Int) * 37) 251 = (i : Int) * 37 % 251 := Int.tmod_eq_emod_of_nonneg (by omega)
    have c2 : decide (i < len) = false := decide_eq_false c
    have c3 : len ≤ i := by omega
    clear hc
    go_enter Try.func9, Try.ntmps9
    go_wp2
    go_ret
    exact ⟨(i : Int) * 37 % 251, by omega, by omega, by first | rfl | exact Nea.ret_int (by omega), rfl⟩
/-- the model steps -/
def SC1 (R : Rl) (n n2 n3 r : Nat) (s : St) (Gr : Nat → Int) (post : World → Ending → World → Prop) : Prop := ∀ (cP cF cS cl : Nat) (aP aF aS a : Option Addr) (w : World), Ints w.heap.size w aP n s.P → Ints w.heap.size w aF n2 s.F → Ints w.heap.size w aS n3 s.S → (aP = none → n = 0 ∧ cP = 0) → (aF = none → n2 = 0 ∧ cF = 0) → (aS = none → n3 = 0 ∧ cS = 0) → Ints w.heap.size w a r Gr →
      Calls Try.prog 14 #[.agg #[.int .i64 R.d, .int .i64 R.r1, .int .i64 R.r2, .int .i64 R.r3, .int .i64 R.r4, .int .i64 R.k, .int .i64 R.z, .int .i64 R.o, .int .i64 R.y, .int .i64 R.mo, .int .i64 R.gr], .agg #[.slice aP n cP, .slice aF n2 cF, .slice aS n3 cS, .int .i64 s.c, .int .i64 s.f, .int .i64 s.g], .slice a r cl] w (post w)
/-- the program steps -/
def IC1 (R : Rl) (n n2 n3 r : Nat) (s : St) (Gr : Nat → Int) (post : World → Ending → World → Prop) : Prop := ∀ (cP cF cS cl : Nat) (aP aF aS a : Option Addr) (w : World), Ints w.heap.size w aP n s.P → Ints w.heap.size w aF n2 s.F → Ints w.heap.size w aS n3 s.S → (aP = none → n = 0 ∧ cP = 0) → (aF = none → n2 = 0 ∧ cF = 0) → (aS = none → n3 = 0 ∧ cS = 0) → Ints w.heap.size w a r Gr →
      Calls Try.prog 13 #[.agg #[.int .i64 R.d, .int .i64 R.r1, .int .i64 R.r2, .int .i64 R.r3, .int .i64 R.r4, .int .i64 R.k, .int .i64 R.z, .int .i64 R.o, .int .i64 R.y, .int .i64 R.mo, .int .i64 R.gr], .agg #[.slice aP n cP, .slice aF n2 cF, .slice aS n3 cS, .int .i64 s.c, .int .i64 s.f, .int .i64 s.g], .slice a r cl] w (post w)
theorem StepR.yes {n : Nat} {no : Prop} {S : St} {w w' : World} {e : Ending} (h : StepR n no S w e w') (hn : ¬ no) : StepU n S true w e w' := h.uni n S true (fun q => absurd q hn) (fun _ => ⟨rfl, rfl, rfl⟩)
theorem StepR.nay {n : Nat} {no : Prop} {S : St} {w w' : World} {e : Ending} (h : StepR n no S w e w') (hn : no) : e = .returned (.tuple #[ZOpt, .bool false]) ∧ Below w.heap.size w w' := by
  rcases h with ⟨_, h⟩ | ⟨h, _⟩
  · exact h
  · exact absurd hn h
end Vo
end Go.Proofs.Ytflbhlepmjiejaa

/- What the laws on steps hold on their way (written by tools/genfac.py). -/
namespace Go.Proofs.Ytflbhlepmjiejaa
namespace Vo
open Go.ChangeShapes Go.WideShapes Go.ChangeAt Go.RowKit Go.Joins Go.Sort
open Vl
set_option linter.unusedVariables false
set_option linter.unusedSimpArgs false
/-- a rule and a state in variables, its lists behind neither -/
structure FS (w : World) (br bo : Nat) (R : Rl) (a0 a1 a2 : Option Addr) (n0 c0 n1 c1 n2 c2 : Nat) (D0 D1 D2 : Nat → Int) (c f g : Int) (X : World) : Prop where
  b : Below w.heap.size w X
  hr : ∀ i, i < 11 → X.cell? ⟨br, i, none⟩ = some (RVf R i)
  ho : BoxV6 X bo (.slice a0 n0 c0) (.slice a1 n1 c1) (.slice a2 n2 c2) (.int .i64 c) (.int .i64 f) (.int .i64 g)
  fo : ∀ i, X.frozen? ⟨bo, i, none⟩ = false
  l0 : Ints br X a0 n0 D0
  l1 : Ints br X a1 n1 D1
  l2 : Ints br X a2 n2 D2
  z : w.heap.size ≤ br ∧ br < bo ∧ bo < X.heap.size
section
variable {w X X' : World} {br bo : Nat} {R : Rl} {a0 a1 a2 : Option Addr} {n0 c0 n1 c1 n2 c2 : Nat} {D0 D1 D2 : Nat → Int} {c f g : Int}
theorem FS.below (h : FS w br bo R a0 a1 a2 n0 c0 n1 c1 n2 c2 D0 D1 D2 c f g X) (b : Below X.heap.size X X') : FS w br bo R a0 a1 a2 n0 c0 n1 c1 n2 c2 D0 D1 D2 c f g X' := by
  obtain ⟨z0, z1, z2⟩ := h.z
  have bb := b.mono (show br ≤ X.heap.size by omega)
  exact ⟨h.b.trans (b.mono h.b.size), fun i hi => (b.cell (p := ⟨br, i, none⟩) (by show br < _; omega)).trans (h.hr i hi), h.ho.below b, fun i => (b.frozen (p := ⟨bo, i, none⟩) z2).trans (h.fo i), h.l0.below bb, h.l1.below bb, h.l2.below bb, z0, z1, Nat.lt_of_lt_of_le z2 b.size⟩
theorem FS.factor (h : FS w br bo R a0 a1 a2 n0 c0 n1 c1 n2 c2 D0 D1 D2 c f g X) (x : Int) : FS w br bo R a0 a1 a2 n0 c0 n1 c1 n2 c2 D0 D1 D2 c x g (X.setCell ⟨bo, 4, none⟩ (.int .i64 x)) := by
  obtain ⟨z0, z1, z2⟩ := h.z
  obtain ⟨hp, h0, h1, h2, h3, h4, h5⟩ := h.ho
  have bb : Below br X (X.setCell ⟨bo, 4, none⟩ (.int .i64 x)) := (Below.refl br X).setCell (by show br ≤ bo; omega) _
  have oth : ∀ i, i ≠ 4 → (X.setCell ⟨bo, 4, none⟩ (.int .i64 x)).cell? ⟨bo, i, none⟩ = X.cell? ⟨bo, i, none⟩ := fun i hi => World.cell?_setCell_other _ _ _ _ (by intro e; injection e with _ e; exact hi e.symm)
  exact ⟨h.b.trans (bb.mono z0), fun i hi => (World.cell?_setCell_other _ _ _ _ (by intro e; injection e with e; omega)).trans (h.hr i hi), ⟨by simpa [World.setCell] using hp, (oth 0 (by omega)).trans h0, (oth 1 (by omega)).trans h1, (oth 2 (by omega)).trans h2, (oth 3 (by omega)).trans h3, World.cell?_setCell_same _ _ _ h4, (oth 5 (by omega)).trans h5⟩,
    fun i => by rw [World.frozen?_setCell]; exact h.fo i, h.l0.below bb, h.l1.below bb, h.l2.below bb, z0, z1, by simpa [World.setCell] using z2⟩
end
/-- two lists that grow -/
structure G2 (B : Nat) (U X : World) (vg vh : Value) (m k : Nat) (D H : Nat → Int) : Prop where
  b : Below B U X
  g : RowV B X vg m D
  h : RowV B X vh k H
  n : ∀ q, vg.ownBlock = some q → vh.ownBlock ≠ some q
section
variable {B : Nat} {U X w3 : World} {vg vh : Value} {m k : Nat} {D H : Nat → Int} {z : Int}
theorem own_alc {v : Value} {r : Nat} (h : RowV B X v r D) (o : Obj) : RowV B (X.alloc o) v r D := ⟨h.1.alloc _, h.2⟩
theorem G2.new (U : World) : G2 U.heap.size U ((U.alloc (.cells #[] 3)).alloc (.cells #[] 3)) (.slice (some ⟨U.heap.size, 0, none⟩) 0 0) (.slice (some ⟨U.heap.size + 1, 0, none⟩) 0 0) 0 0 (fun _ => 0) (fun _ => 0) := by
  refine ⟨((Below.refl _ _).alloc (Nat.le_refl _) _).alloc (by simp) _, own_alc ⟨⟨rfl, .inr ⟨U.heap.size, 0, #[], rfl, Nat.le_refl _, heap_alloc_new U _, Nat.le_refl _, by simp [maxLen], rfl, rfl⟩⟩, fun j hj => by omega⟩ _, ⟨⟨rfl, .inr ⟨U.heap.size + 1, 0, #[], rfl, by omega, ?_, Nat.le_refl _, by simp [maxLen], rfl, rfl⟩⟩, fun j hj => by omega⟩, fun q h e => ?_⟩
  · have := heap_alloc_new (U.alloc (.cells #[] 3)) (.cells #[] 3)
    simpa using this
  · have h : U.heap.size = q := Option.some.inj h
    have e : U.heap.size + 1 = q := Option.some.inj e
    omega
end
theorem ook_zero (f : Int) (hf : fac f = true) : ook 0 0 0 (fun _ => 0) (fun _ => 0) (fun _ => 0) 0 f 0 = true := decide_eq_true ⟨by decide, rfl, rfl, ⟨by decide, by decide⟩, ⟨by decide, by decide⟩, fun j hj => absurd hj (by omega), hf⟩
end Vo
end Go.Proofs.Ytflbhlepmjiejaa

/- A run in two pieces, and a step that is left out. -/
namespace Go.Proofs.Ytflbhlepmjiejaa
namespace Vo
open Go.ChangeShapes Go.WideShapes Go.ChangeAt Go.RowKit Go.Joins Go.Sort
open Vl
set_option linter.unusedVariables false
set_option linter.unusedSimpArgs false
theorem ends_ex (m : Nat) (X : Nat → Prop) : ∃ K, Ends m X K := by
  induction m with
  | zero => exact ⟨0, Nat.le_refl _, fun t h => absurd h (by omega), .inl rfl⟩
  | succ m ih =>
    obtain ⟨K, h1, h2, h3⟩ := ih
    by_cases c : X K
    · exact ⟨K, by omega, h2, .inr c⟩
    · rcases h3 with rfl | h3
      · refine ⟨K + 1, Nat.le_refl _, fun t ht => ?_, .inl rfl⟩
        by_cases e : t = K
        · exact e ▸ c
        · exact h2 t (by omega)
      · exact absurd h3 c
theorem ends_uni {m : Nat} {X : Nat → Prop} {a b : Nat} (h : Ends m X a) (h' : Ends m X b) : a = b := by
  obtain ⟨K, hK⟩ := run_one m X
  exact (hK a h).trans (hK b h').symm
/-- what comes behind a piece -/
def Lf (k : Nat) (L : Nat → LV) : Nat → LV := fun j => L (k + j)
theorem sq_add (R : Rl) (n : Nat) (U : Int → Int) (GG : Int → (Nat → Int) → Nat → Int) (L : Nat → LV) (s : St) (k j : Nat) : sq R n U GG (Lf k L) (sq R n U GG L s k) j = sq R n U GG L s (k + j) := by
  induction j with
  | zero => rfl
  | succ j ih =>
    show St.next _ _ _ _ _ _ = St.next _ _ _ _ _ _
    rw [ih]
    rfl
theorem stp_add (R : Rl) (n : Nat) (U : Int → Int) (GG : Int → (Nat → Int) → Nat → Int) (L : Nat → LV) (s : St) (k j : Nat) : Stp R n U GG (Lf k L) (sq R n U GG L s k) j ↔ Stp R n U GG L s (k + j) := by
  unfold Stp
  rw [sq_add]
  exact Iff.rfl
theorem ends_add {m k K : Nat} {X Y : Nat → Prop} (hk : k ≤ m) (h0 : ∀ t, t < k → ¬ X t) (hXY : ∀ j, Y j ↔ X (k + j)) (h : Ends (m - k) Y K) : Ends m X (k + K) := by
  obtain ⟨h1, h2, h3⟩ := h
  refine ⟨by omega, fun t ht => ?_, ?_⟩
  · by_cases c : t < k
    · exact h0 t c
    · have q := h2 (t - k) (by omega)
      rw [hXY, show k + (t - k) = t from by omega] at q
      exact q
  · rcases h3 with h3 | h3
    · exact .inl (by omega)
    · exact .inr ((hXY K).1 h3)
theorem LLen.left {m k : Nat} {L : Nat → LV} {b : Int} (h : LLen m L b) (hk : k ≤ m) : LLen k L b := fun i hi => h i (by omega)
theorem LL.part {B k m : Nat} {w : World} {a : Option Addr} {L : Nat → LV} (h : LL B w a m L) (hk : k ≤ m) : LL B w a k L := by
  rcases h with h | ⟨blk, off, e, hB, hc⟩
  · exact .inl (by omega)
  · exact .inr ⟨blk, off, e, hB, fun i hi => hc i (by omega)⟩
theorem LL.behind {B k m off : Nat} {w : World} {blk : Nat} {L : Nat → LV} (h : LL B w (some ⟨blk, off, none⟩) m L) (hk : k ≤ m) : LL B w (some ⟨blk, off + k, none⟩) (m - k) (Lf k L) := by
  rcases h with h | ⟨b, o, e, hB, hc⟩
  · exact .inl (by omega)
  · injection e with e
    injection e with e1 e2
    subst e1 e2
    exact .inr ⟨blk, off + k, rfl, hB, fun i hi => by have := hc (k + i) (by omega); rw [← Nat.add_assoc] at this; exact this⟩
/-- the model runs -/
def SRn (R : Rl) (n n2 n3 : Nat) (s : St) (m : Nat) (L : Nat → LV) (post : World → Ending → World → Prop) : Prop := ∀ (cP cF cS cl : Nat) (aP aF aS ls : Option Addr) (w : World), Ints w.heap.size w aP n s.P → Ints w.heap.size w aF n2 s.F → Ints w.heap.size w aS n3 s.S → LL w.heap.size w ls m L →
      Calls Try.prog 10 #[.agg #[.int .i64 R.d, .int .i64 R.r1, .int .i64 R.r2, .int .i64 R.r3, .int .i64 R.r4, .int .i64 R.k, .int .i64 R.z, .int .i64 R.o, .int .i64 R.y, .int .i64 R.mo, .int .i64 R.gr], .agg #[.slice aP n cP, .slice aF n2 cF, .slice aS n3 cS, .int .i64 s.c, .int .i64 s.f, .int .i64 s.g], .slice ls m cl] w (post w)
/-- the program runs -/
def IRn (R : Rl) (n n2 n3 : Nat) (s : St) (m : Nat) (L : Nat → LV) (post : World → Ending → World → Prop) : Prop := ∀ (cP cF cS cl : Nat) (aP aF aS ls : Option Addr) (w : World), Ints w.heap.size w aP n s.P → Ints w.heap.size w aF n2 s.F → Ints w.heap.size w aS n3 s.S → LL w.heap.size w ls m L →
      Calls Try.prog 8 #[.agg #[.int .i64 R.d, .int .i64 R.r1, .int .i64 R.r2, .int .i64 R.r3, .int .i64 R.r4, .int .i64 R.k, .int .i64 R.z, .int .i64 R.o, .int .i64 R.y, .int .i64 R.mo, .int .i64 R.gr], .agg #[.slice aP n cP, .slice aF n2 cF, .slice aS n3 cS, .int .i64 s.c, .int .i64 s.f, .int .i64 s.g], .slice ls m cl] w (post w)
theorem iRule (R : Rl) (n : Nat) (s : St) (m : Nat) (L : Nat → LV) (hb : bd s.c ∧ bd s.f ∧ bd s.g) (hRb : R.bds) (hs : s.ok n) (hR : R.okB = false) : IRn R n n n s m L (RunU n s 0) := fun cP cF cS cl aP aF aS ls w h1 h2 h3 hL => by
  refine (runOptRule R n m cP cF cS cl s aP aF aS ls w h1 h2 h3 (nil_ints h1) (nil_ints h2) (nil_ints h3) hb hRb hs hR).mono ?_
  rintro e w' ⟨p, f, q, c, d, g, e1, o, ⟨b1, b2⟩, bl⟩
  exact ⟨p, f, q, c, d, g, e1, o, ⟨bhd_lt b1, bhd_lt b2⟩, bl⟩
set_option maxHeartbeats 1000000 in
/-- a run, whole and in two pieces -/
theorem runPieces (R : Rl) (n n2 n3 m : Nat) (s : St) (L : Nat → LV) (hRb : R.bds) (hb : bd s.c ∧ bd s.f ∧ bd s.g) (hr1 : (n : Int) ≤ 1048576) (hr2 : (n2 : Int) ≤ 1048576) (hr3 : (n3 : Int) ≤ 1048576) (hm : (m : Int) ≤ 1048576) (hl : LLen m L 1048576) :
    (ook n n2 n3 s.P s.F s.S s.c s.f s.g = false ∧ (∀ m, SRn R n n2 n3 s m L (RunU 0 zSt 0)) ∧ ∀ m, IRn R n n2 n3 s m L (RunU 0 zSt 0)) ∨
    (n2 = n ∧ n3 = n ∧ ook n n2 n3 s.P s.F s.S s.c s.f s.g = true ∧ ∃ (E : St) (T : Nat), T ≤ m ∧ IRn R n n n s m L (RunU n E (T : Int)) ∧ ∀ k, k ≤ m → ∃ (A : St) (K : Nat), SRn R n n n s k L (RunU n A (K : Int)) ∧ IRn R n n n s k L (RunU n A (K : Int)) ∧ (k ≤ K → ∃ K' : Nat, IRn R n n n A (m - k) (Lf k L) (RunU n E (K' : Int)) ∧ K + K' = T)) := by
  cases hy : ook n n2 n3 s.P s.F s.S s.c s.f s.g
  · exact .inl ⟨rfl, fun m cP cF cS cl aP aF aS ls w h1 h2 h3 hL => (sRunNo R n n2 n3 m cP cF cS cl s aP aF aS ls w h1 h2 h3 hr1 hr2 hr3 hb hy).mono fun e w' q => run_zero q,
      fun m cP cF cS cl aP aF aS ls w h1 h2 h3 hL => (runOptNo R n n2 n3 m cP cF cS cl s aP aF aS ls w h1 h2 h3 hr1 hr2 hr3 hb hy).mono fun e w' q => run_zero q⟩
  have ok : OOk n n2 n3 s.P s.F s.S s.c s.f s.g := of_decide_eq_true hy
  obtain ⟨e2, e3⟩ : n = n2 ∧ n = n3 := by have := ok.2.1; have := ok.2.2.1; omega
  subst e2
  subst e3
  refine .inr ⟨rfl, rfl, rfl, ?_⟩
  have n4 : (n : Int) ≤ 4096 := ok.1
  cases hR : R.okB
  · refine ⟨s, 0, Nat.zero_le _, iRule R n s m L hb hRb ok hR, fun k hk => ⟨s, 0, fun cP cF cS cl aP aF aS ls w h1 h2 h3 hL => ?_, iRule R n s k L hb hRb ok hR, fun _ => ⟨0, iRule R n s _ _ hb hRb ok hR, rfl⟩⟩⟩
    have hkm : (k : Int) ≤ 1048576 := by omega
    refine (sRun R n k cP cF cS cl (fun _ => s) (fun _ => True) aP aF aS ls L w h1 h2 h3 hb (fun t _ _ => ok) hL hkm (fun t ht _ => ⟨0, zSt, false, fun _ => rfl, fun h => absurd trivial h, fun cP cF cS aP aF aS w h1 h2 h3 hI => (sStepNo R n n n (L t).r cP cF cS (L t).cap s aP aF aS (L t).a w h1 h2 h3 hr1 hr1 hr1 hb hRb (.inl hR)).mono fun e w' q => step_zero q⟩)).mono ?_
    intro e w' q
    exact q.uni (K := 0) (fun k hk => by
      by_cases c : k = 0
      · exact c
      · exact absurd trivial (hk.2.1 0 (by omega)))
  obtain ⟨U, hU, hUs⟩ := rateEnv R hRb
  obtain ⟨GG, hG, hGs⟩ := gradEnv R hR hRb n n4
  obtain ⟨T, hT⟩ := ends_ex m (Stp R n U GG L s)
  have hok : ∀ t, (∀ u, u < t → ¬ Stp R n U GG L s u) → (sq R n U GG L s t).ok n := by
    intro t
    induction t with
    | zero => intro _; exact ok
    | succ t ih =>
      intro hn
      have ot := ih (fun u hu => hn u (by omega))
      have hc : 0 ≤ (sq R n U GG L s t).c ∧ (sq R n U GG L s t).c ≤ 1000000 := ot.2.2.2.1
      have c1 : (sq R n U GG L s t).c ≠ 1000000 := fun e => hn t (by omega) (.inl e)
      obtain ⟨u0, u1⟩ := (hU _ hc.1 (by omega)).1
      exact St.next_ok ot hR u0 u1 (fun hb => (hG _ _ ot.2.2.2.2.2.2 hb).1) c1
  have run : ∀ (m : Nat) (s : St) (L : Nat → LV) (K : Nat), (m : Int) ≤ 1048576 → s.ok n → Ends m (Stp R n U GG L s) K → IRn R n n n s m L (RunU n (sq R n U GG L s K) (K : Int)) := fun m s L K hm ok hK cP cF cS cl aP aF aS ls w h1 h2 h3 hL =>
    (runOptYes R n m cP cF cS cl s aP aF aS ls L w h1 h2 h3 (nil_ints h1) (nil_ints h2) (nil_ints h3) (ok_bd ok) hRb ok hR hL hm U GG hU hG).mono (fun e w' q => q.uni fun k hk => ends_uni hk hK)
  refine ⟨sq R n U GG L s T, T, hT.1, run m s L T hm ok hT, fun k hk => ?_⟩
  obtain ⟨K, hK⟩ := ends_ex k (Stp R n U GG L s)
  have hkm : (k : Int) ≤ 1048576 := by omega
  refine ⟨sq R n U GG L s K, K, fun cP cF cS cl aP aF aS ls w h1 h2 h3 hL => ?_, run k s L K hkm ok hK, fun hkK => ?_⟩
  · refine (sRun R n k cP cF cS cl (sq R n U GG L s) (Stp R n U GG L s) aP aF aS ls L w h1 h2 h3 hb (fun t _ hn => hok t hn) hL hkm (fun t ht hn => ?_)).mono (fun e w' q => q.uni fun k hk => ends_uni hk hK)
    have ot := hok t hn
    have hc : 0 ≤ (sq R n U GG L s t).c ∧ (sq R n U GG L s t).c ≤ 1000000 := ot.2.2.2.1
    have hf : fac (sq R n U GG L s t).f = true := ot.2.2.2.2.2.2
    have hra : ((L t).r : Int) ≤ 1048576 := hl t (by omega)
    by_cases hx : Stp R n U GG L s t
    · exact ⟨0, zSt, false, fun _ => rfl, fun h => absurd hx h, fun cP cF cS aP aF aS w h1 h2 h3 hI => (sStepNo2 R n (L t).r cP cF cS (L t).cap (sq R n U GG L s t) aP aF aS (L t).a w h1 h2 h3 hr1 hra (ok_bd ot) hRb hR (decide_eq_true ot) hx).mono fun e w' q => step_zero q⟩
    · have c1 : (sq R n U GG L s t).c ≠ 1000000 := fun e => hx (.inl e)
      refine ⟨n, sq R n U GG L s (t + 1), true, fun h => absurd h hx, fun _ => ⟨rfl, rfl, rfl⟩, fun cP cF cS aP aF aS w h1 h2 h3 hI => ?_⟩
      have er : n = (L t).r := Classical.byContradiction (fun e => hx (.inr (fun h => e h.symm)))
      refine (specStepYes R n (L t).r cP cF cS (L t).cap (sq R n U GG L s t) aP aF aS (L t).a (L t).D w h1 h2 h3 (nil_ints h1) (nil_ints h2) (nil_ints h3) hra (ok_bd ot) hRb hR ot hI c1 er U GG ⟨(hU _ hc.1 (by omega)).1, hUs _ hc.1 (by omega)⟩ (fun hg => ⟨(hG _ _ hf hg).1, (hGs _ _ hf hg).1, (hGs _ _ hf hg).2⟩)).mono (fun e w' q => q.uni _ _ _ False.elim (fun _ => ⟨rfl, rfl, rfl⟩))
  · have e : K = k := by have := hK.1; omega
    subst e
    obtain ⟨K', hK'⟩ := ends_ex (m - K) (Stp R n U GG (Lf K L) (sq R n U GG L s K))
    have eT : K + K' = T := ends_uni (ends_add hk hK.2.1 (stp_add R n U GG L s K) hK') hT
    refine ⟨K', ?_, eT⟩
    have q := run (m - K) (sq R n U GG L s K) (Lf K L) K' (by omega) (hok K hK.2.1) hK'
    rw [sq_add, eT] at q
    exact q
/-- a run, whole and in two pieces, whatever the state is -/
theorem runPieces2 (R : Rl) (n n2 n3 m : Nat) (s : St) (L : Nat → LV) (hRb : R.bds) (hb : bd s.c ∧ bd s.f ∧ bd s.g) (hr1 : (n : Int) ≤ 1048576) (hr2 : (n2 : Int) ≤ 1048576) (hr3 : (n3 : Int) ≤ 1048576) (hm : (m : Int) ≤ 1048576) (hl : LLen m L 1048576) :
    ∃ (n' : Nat) (E : St) (T : Nat), T ≤ m ∧ IRn R n n2 n3 s m L (RunU n' E (T : Int)) ∧ ∀ k, k ≤ m → ∃ (A : St) (K : Nat), SRn R n n2 n3 s k L (RunU n' A (K : Int)) ∧ IRn R n n2 n3 s k L (RunU n' A (K : Int)) ∧
      (ook n n2 n3 s.P s.F s.S s.c s.f s.g = true → n2 = n ∧ n3 = n ∧ n' = n ∧ (k ≤ K → ∃ K' : Nat, IRn R n n n A (m - k) (Lf k L) (RunU n E (K' : Int)) ∧ K + K' = T)) := by
  rcases runPieces R n n2 n3 m s L hRb hb hr1 hr2 hr3 hm hl with ⟨hy, hs, hi⟩ | ⟨e2, e3, hy, E, T, hT, hi, hk⟩
  · exact ⟨0, zSt, 0, Nat.zero_le _, hi m, fun k _ => ⟨zSt, 0, hs k, hi k, fun h => by rw [hy] at h; cases h⟩⟩
  · subst e2
    subst e3
    exact ⟨n3, E, T, hT, hi, fun k hkm => match hk k hkm with | ⟨A, K, h1, h2, h3⟩ => ⟨A, K, h1, h2, fun _ => ⟨rfl, rfl, rfl, h3⟩⟩⟩
set_option maxHeartbeats 1000000 in
/-- a step by gradients that are too great is left out -/
theorem stepSkip (R : Rl) (n : Nat) (s : St) (H : Nat → Int) (hRb : R.bds) (hb : bd s.c ∧ bd s.f ∧ bd s.g) (hr1 : (n : Int) ≤ 1048576) (ok : s.ok n) (hH : ∀ j, j < n → 16777216 < H j) :
    ∃ (m' : Nat) (N : St) (b : Bool), SC1 R n n n n s H (StepU m' N b) ∧ IC1 R n n n n s H (StepU m' N b) ∧ (b = true → m' = n ∧ (n = 0 ∨ (N.P = s.P ∧ N.f ≤ s.f ∧ N.c = s.c + 1))) := by
  cases hR : R.okB
  · exact ⟨0, zSt, false, fun cP cF cS cl aP aF aS a w h1 h2 h3 z1 z2 z3 hI => (sStepNo R n n n n cP cF cS cl s aP aF aS a w h1 h2 h3 hr1 hr1 hr1 hb hRb (.inl hR)).mono fun e w' q => step_zero q, fun cP cF cS cl aP aF aS a w h1 h2 h3 z1 z2 z3 hI => (stepOptNo R n n n n cP cF cS cl s aP aF aS a w h1 h2 h3 hr1 hr1 hr1 hb hRb (.inl hR)).mono fun e w' q => step_zero q, fun h => by cases h⟩
  have n4 : (n : Int) ≤ 4096 := ok.1
  obtain ⟨U, hU, hUs⟩ := rateEnv R hRb
  obtain ⟨GG, hG, hGs⟩ := gradEnv R hR hRb n n4
  have hc : 0 ≤ s.c ∧ s.c ≤ 1000000 := ok.2.2.2.1
  have hf : fac s.f = true := ok.2.2.2.2.2.2
  have fr := fac_rng hf
  by_cases c1 : s.c = 1000000
  · exact ⟨0, zSt, false, fun cP cF cS cl aP aF aS a w h1 h2 h3 z1 z2 z3 hI => (sStepNo2 R n n cP cF cS cl s aP aF aS a w h1 h2 h3 hr1 hr1 hb hRb hR (decide_eq_true ok) (.inl c1)).mono fun e w' q => step_zero q, fun cP cF cS cl aP aF aS a w h1 h2 h3 z1 z2 z3 hI => (stepOptYes R n n cP cF cS cl s aP aF aS a H w h1 h2 h3 z1 z2 z3 hb hRb ok hR hI hr1 U GG hU hG).mono fun e w' q => step_zero (q.nay (.inl c1)), fun h => by cases h⟩
  · have no1 : ¬ (s.c = 1000000 ∨ n ≠ n) := fun q => by rcases q with q | q; exact c1 q; exact q rfl
    refine ⟨n, s.next R n (U s.c) (GG s.f H) H, true, fun cP cF cS cl aP aF aS a w h1 h2 h3 z1 z2 z3 hI => ?_, fun cP cF cS cl aP aF aS a w h1 h2 h3 z1 z2 z3 hI => ?_, fun _ => ⟨rfl, ?_⟩⟩
    · refine (specStepYes R n n cP cF cS cl s aP aF aS a _ w h1 h2 h3 (nil_ints h1) (nil_ints h2) (nil_ints h3) hr1 hb hRb hR ok hI c1 rfl U GG ⟨(hU s.c hc.1 (by omega)).1, hUs s.c hc.1 (by omega)⟩ (fun hg => ⟨(hG s.f _ hf hg).1, (hGs s.f _ hf hg).1, (hGs s.f _ hf hg).2⟩)).mono ?_
      exact fun e w' q => q.yes id
    · exact (stepOptYes R n n cP cF cS cl s aP aF aS a _ w h1 h2 h3 z1 z2 z3 hb hRb ok hR hI hr1 U GG hU hG).mono fun e w' q => q.yes no1
    · by_cases n0 : n = 0
      · exact .inl n0
      · refine .inr ?_
        have nb : ¬ ib (-16777216) 16777216 n H = true := fun h => by
          have h := (of_decide_eq_true h : ∀ j, j < n → -16777216 ≤ H j ∧ H j ≤ 16777216) 0 (by omega)
          have := hH 0 (by omega)
          omega
        unfold St.next
        rw [if_neg nb]
        refine ⟨rfl, ?_, rfl⟩
        show max (s.f.tdiv 2) 1 ≤ s.f
        rw [Int.tdiv_eq_ediv_of_nonneg (by omega)]
        omega
end Vo
end Go.Proofs.Ytflbhlepmjiejaa

/- A rule, a state and a list of gradients that a law draws (written by tools/genbi.py). -/
namespace Go.Proofs.Ytflbhlepmjiejaa
namespace Vo
open Go.ChangeShapes Go.WideShapes Go.ChangeAt Go.RowKit Go.Joins Go.Sort
open Vl
set_option linter.unusedVariables false
set_option linter.unusedSimpArgs false
theorem infoRowD : (Try.prog.info? 28).map (fun i => (i.zero, i.size, i.bytes)) = some (some (.slice none 0 0), 1, 24) := by kernel_rfl
theorem OwnL.monoE {B B' : Nat} {w : World} {a : Option Addr} {r : Nat} {D : Nat → Int} (hB : B ≤ B') (h : OwnL B' w a r D) : OwnL B w a r D := by
  rcases h with h | ⟨g, e, hg, hw⟩
  · exact .inl h
  · exact .inr ⟨g, e, Nat.le_trans hB hg, hw⟩
/-- the heads of rows -/
def hdrD (M : Nat → LV) (n : Nat) : List Value := (List.range n).map (fun i => .slice (M i).a (M i).r (M i).cap)
theorem hdrD_more {M M' : Nat → LV} {n : Nat} {a : Option Addr} {r c : Nat} {D : Nat → Int} (h : ∀ i, i < n → M' i = M i) (e : M' n = ⟨a, r, c, D⟩) : hdrD M n ++ [.slice a r c] = hdrD M' (n + 1) := by
  unfold hdrD
  rw [List.range_succ, List.map_append]
  congr 1
  · apply List.map_congr_left
    intro i hi
    rw [h i (List.mem_range.1 hi)]
  · simp [e]
/-- rows of one's own, their heads in a row that grows -/
structure RowsD (E : Nat) (w : World) (v : Value) (k : Nat) (M : Nat → LV) : Prop where
  heads : w.ownsRow E 28 1 v k (hdrD M k)
  own : ∀ i, i < k → OwnL E w (M i).a (M i).r (M i).D
  ne : ∀ i, i < k → ∀ b, Blk (M i).a (M i).r b → v.ownBlock ≠ some b
theorem ownsRow_keptD {T : Nat → Prop} {B z : Nat} {e : TypeId} {w w' : World} {v : Value} {r : Nat} {xs : List Value} (h : w.ownsRow B e z v r xs) (hk : Kept T w w') (hn : ∀ k, v.ownBlock = some k → ¬ T k) : w'.ownsRow B e z v r xs := by
  obtain ⟨h1, h2⟩ := h
  refine ⟨h1, ?_⟩
  rcases h2 with h2 | ⟨g, cap, cur, e, hg, hh, rest⟩
  · exact .inl h2
  · refine .inr ⟨g, cap, cur, e, hg, ?_, rest⟩
    rw [hk.block g (Array.getElem?_eq_some_iff.1 hh).1 (hn g (by rw [e]; rfl))]; exact hh
theorem RowsD.kept {T : Nat → Prop} {E : Nat} {w w' : World} {v : Value} {k : Nat} {M : Nat → LV} (h : RowsD E w v k M) (hk : Kept T w w') (hT : ∀ b, T b → b < E) : RowsD E w' v k M :=
  ⟨ownsRow_keptD h.heads hk (fun q e t => by have := (h.heads.lt q e).1; have := hT q t; omega), fun i hi => (h.own i hi).kept hk (fun b hb t => by have := ((h.own i hi).blk hb).1; have := hT b t; omega), h.ne⟩
theorem RowsD.put {E : Nat} {w w2 : World} {v : Value} {k g c r cp : Nat} {a : Option Addr} {D : Nat → Int} {M : Nat → LV} (h : RowsD E w v k M) (ro : OwnL E w a r D) (rn : ∀ b, Blk a r b → v.ownBlock ≠ some b)
    (ho : w2.ownsRow E 28 1 (.slice (some ⟨g, 0, none⟩) (k + 1) c) (k + 1) (hdrD M k ++ [.slice a r cp])) (hk : Kept (fun b => v.ownBlock = some b) w w2) (hat : v.ownBlock = some g ∨ w.heap.size ≤ g) :
    RowsD E w2 (.slice (some ⟨g, 0, none⟩) (k + 1) c) (k + 1) (fun i => if i = k then ⟨a, r, cp, D⟩ else M i) := by
  have far : ∀ {x : Option Addr} {n : Nat} {F : Nat → Int}, OwnL E w x n F → (∀ b, Blk x n b → v.ownBlock ≠ some b) → ∀ b, Blk x n b → (Value.slice (some ⟨g, 0, none⟩) (k + 1) c).ownBlock ≠ some b := fun {x n F} o q b hb e => by
    have e : g = b := Option.some.inj e
    rcases hat with u | u
    · exact q b hb (by rw [u, e])
    · have := (o.blk hb).2
      omega
  refine ⟨?_, fun i hi => ?_, fun i hi b hb => ?_⟩
  · rw [← hdrD_more (M := M) (a := a) (r := r) (c := cp) (D := D) (fun i hi => by simp [show ¬ i = k by omega]) (by simp)]
    exact ho
  · by_cases e : i = k
    · subst e
      simp only [if_true]
      exact ro.kept hk (fun b hb q => rn b hb q)
    · simp only [e, if_false]
      exact (h.own i (by omega)).kept hk (fun b hb q => h.ne i (by omega) b hb q)
  · by_cases e : i = k
    · subst e
      simp only [if_true] at hb
      exact far ro rn b hb
    · simp only [e, if_false] at hb
      exact far (h.own i (by omega)) (h.ne i (by omega)) b hb
theorem RowsD.read {E : Nat} {w : World} {k g c : Nat} {M : Nat → LV} (h : RowsD E w (.slice (some ⟨g, 0, none⟩) k c) k M) : LL w.heap.size w (some ⟨g, 0, none⟩) k M := by
  by_cases hk : k = 0
  · exact .inl hk
  · refine .inr ⟨g, 0, rfl, (h.heads.lt g rfl).2, fun i hi => ⟨?_, (h.own i hi).ints⟩⟩
    rw [Nat.zero_add, h.heads.cellAt i (by omega)]
    simp [hdrD, hi]
theorem RowsD.cap {E : Nat} {w : World} {k g c : Nat} {M : Nat → LV} (h : RowsD E w (.slice (some ⟨g, 0, none⟩) k c) k M) : k ≤ c := by
  obtain ⟨-, h2⟩ := h.heads
  rcases h2 with h2 | ⟨g', cap, cur, e, _, _, hc, _⟩
  · simp at h2
  · injection e with _ _ e3
    omega
section
variable {o : Oper} {A : Act} {w : World} {x y : Operand}
theorem runBuildD1 {a : Option Addr} {r c : Nat} (ho : o.op = .buildSlice 31 1 #[(0, x)]) (hx : A.eval x = .slice a r c) : (execOp A.eval o).run Try.prog w = .ok (.value (.slice (some ⟨w.heap.size, 0, none⟩) 1 1)) (w.alloc (.cells #[.slice a r c] 28)) := by
  unfold execOp
  rw [ho]
  simp only [List.map_toArray, List.map_cons, List.map_nil, hx]
  go_simp
theorem runQuoD {z : Int} (ho : o.op = .binOp .quo 3 x (.const (.int .i64 59)) 3) (hx : A.eval x = .int .i64 z) (h0 : 0 ≤ z) (h1 : z ≤ 59) : (execOp A.eval o).run Try.prog w = .ok (.value (.int .i64 (z.tdiv 59))) w := by
  have hw : IntKind.i64.wrap (z.tdiv 59) = z.tdiv 59 := by rw [Int.tdiv_eq_ediv_of_nonneg h0]; exact wid (by omega)
  unfold execOp
  rw [ho]
  simp only [hx]
  go_simp
/-- a row is put behind rows that are one's own -/
theorem lands_appD {K : Value → World → Prop} (ho : o.op = .call { callee := .builtin .append, args := #[x, y], argTypes := #[31, 31] }) {base k g kk cc : Nat} {v : Value} {M : Nat → LV} {b : Option Addr} {D : Nat → Int} (hx : A.eval x = v) (hv : RowsD base w v k M) (hy : A.eval y = .slice (some ⟨g, 0, none⟩) 1 1) (hg : w.heap[g]? = some (.cells #[.slice b kk cc] 28 (0, 0))) (ro : OwnL base w b kk D) (rn : ∀ q, Blk b kk q → v.ownBlock ≠ some q) (hk : k ≤ 4096) (hb : base ≤ w.heap.size)
    (h : ∀ g' c w', RowsD base w' (.slice (some ⟨g', 0, none⟩) (k + 1) c) (k + 1) (fun i => if i = k then ⟨b, kk, cc, D⟩ else M i) → w.grownBy w' v.ownBlock → K (.slice (some ⟨g', 0, none⟩) (k + 1) c) w') : Qf.lands Try.prog o A w K := by
  obtain ⟨i0, hi0, hz0, hz1, hz2⟩ := info_parts infoRowD
  obtain ⟨g', c, w', hr, h2, h3, h4, h5⟩ := run_append_lies (P := Try.prog) w 31 o.type base 28 i0 _ 1 24 Try.underlying31 hi0 hz0 hz1 hz2 rfl (by decide) v k (hdrD M k) hv.heads ⟨g, 0, none⟩ 1 1 [.slice b kk cc] (by rfl) (World.news_of_block (cs := #[.slice b kk cc]) (t := 28) (fr := (0, 0)) hg) (by simp [Value.oneCell']) (by decide) (by unfold maxLen; omega) (by omega) hb _ rfl
  unfold Qf.lands execOp
  simp only [ho, resolve, invoke, builtin, Sem.run_bind, Sem.run_pure, Result.andThen_ok, List.map_toArray, List.map_cons, List.map_nil, hx, hy, hr]
  exact h g' c w' (hv.put ro rn h2 (keptO h3) (h4.imp id (fun e => Nat.le_of_eq e.symm))) h3
end
theorem ints_farE {B n p : Nat} {X X' : World} {a : Option Addr} {D : Nat → Int} {S : Nat → Prop} (hB : B ≤ X.heap.size) (h : Ints B X a n D) (hp : ∀ ad, a = some ad → p < ad.block) (k : Kept S X X') (hs : ∀ b, S b → b ≤ p) : Ints B X' a n D := by
  rcases h with h1 | ⟨b, off, e, hb, hc⟩
  · exact .inl h1
  · exact .inr ⟨b, off, e, hb, fun j hj => ⟨(World.cell?_of_block (w := X) (a := ⟨b, off + j, none⟩) (k.block b (Nat.lt_of_lt_of_le hb hB) (fun q => by have := hs b q; have := hp _ e; have q2 : p < b := this; omega))).trans (hc j hj).1, (hc j hj).2⟩⟩
theorem cur_belE {B p E : Nat} {a : Option Addr} {len cap : Nat} {w w' : World} (h : Base.Cur B w p a len cap) (b : Below E w w') (hl : p < E) : Base.Cur B w' p a len cap := by
  obtain ⟨hp, hcode, c0, ⟨i, g, c1, c2, q⟩, f1, f2⟩ := h
  refine ⟨hp, hcode.below (b.mono (by omega)), ?_, ⟨i, g, ?_, ?_, q⟩, ?_, ?_⟩
  · rw [b.cell (p := ⟨p, 0, none⟩) hl]; exact c0
  · rw [b.cell (p := ⟨p, 1, none⟩) hl]; exact c1
  · rw [b.cell (p := ⟨p, 2, none⟩) hl]; exact c2
  · rw [b.frozen (p := ⟨p, 1, none⟩) hl]; exact f1
  · rw [b.frozen (p := ⟨p, 2, none⟩) hl]; exact f2
/-- what stands below while rows are drawn -/
structure LB (w : World) (p br bo E : Nat) (a : Option Addr) (len cap : Nat) (R : Rl) (a0 a1 a2 : Option Addr) (n0 c0 n1 c1 n2 c2 : Nat) (D0 D1 D2 : Nat → Int) (c f g : Int) (X : World) : Prop where
  sb : SB w p br bo a len cap R a0 a1 a2 n0 c0 n1 c1 n2 c2 D0 D1 D2 c f g X
  l0 : Ints E X a0 n0 D0
  l1 : Ints E X a1 n1 D1
  l2 : Ints E X a2 n2 D2
  rR : (∀ i, i < 11 → X.cell? ⟨w.heap.size, i, none⟩ = some (.int .i64 0)) ∧ ∀ i, X.frozen? ⟨w.heap.size, i, none⟩ = false
  z : br < E ∧ bo < E ∧ E ≤ X.heap.size
section
variable {w X X' : World} {p br bo E : Nat} {a : Option Addr} {len cap : Nat} {R : Rl} {a0 a1 a2 : Option Addr} {n0 c0 n1 c1 n2 c2 : Nat} {D0 D1 D2 : Nat → Int} {c f g : Int}
theorem LB.draw (h : LB w p br bo E a len cap R a0 a1 a2 n0 c0 n1 c1 n2 c2 D0 D1 D2 c f g X) (q : X.grownBy X' (some p)) (cu : Base.Cur p X' p a len cap) : LB w p br bo E a len cap R a0 a1 a2 n0 c0 n1 c1 n2 c2 D0 D1 D2 c f g X' := by
  obtain ⟨z1, z2, z3⟩ := h.z
  have y := h.sb.z
  have hs : ∀ b, (fun b => b = p) b → b ≤ p := fun b e => by have e : b = p := e; omega
  exact ⟨h.sb.draw q cu, ints_farE z3 h.l0 h.sb.l0.2 (keptP q) hs, ints_farE z3 h.l1 h.sb.l1.2 (keptP q) hs, ints_farE z3 h.l2 h.sb.l2.2 (keptP q) hs, ⟨fun i hi => (grown_keep q (by omega) (by omega)).1.trans (h.rR.1 i hi), fun i => (grown_keep (i := i) q (by omega) (by omega)).2.trans (h.rR.2 i)⟩, z1, z2, Nat.le_trans z3 q.size⟩
theorem LB.bel (h : LB w p br bo E a len cap R a0 a1 a2 n0 c0 n1 c1 n2 c2 D0 D1 D2 c f g X) (k : Below E X X') : LB w p br bo E a len cap R a0 a1 a2 n0 c0 n1 c1 n2 c2 D0 D1 D2 c f g X' := by
  obtain ⟨z1, z2, z3⟩ := h.z
  obtain ⟨y1, y2, y3, y4, y5⟩ := h.sb.z
  have hE := k.size
  have s : E ≤ X'.heap.size := Nat.le_trans z3 hE
  have cl : ∀ q i, q < E → X'.cell? ⟨q, i, none⟩ = X.cell? ⟨q, i, none⟩ := fun q i hq => k.cell (p := ⟨q, i, none⟩) hq
  have fz : ∀ q i, q < E → X'.frozen? ⟨q, i, none⟩ = X.frozen? ⟨q, i, none⟩ := fun q i hq => k.frozen (p := ⟨q, i, none⟩) hq
  refine ⟨⟨cur_belE h.sb.cur k (by omega), fun i hi => (cl br i z1).trans (h.sb.hr i hi), fun i hi => (cl bo i z2).trans (h.sb.ho i hi), ⟨(h.l0.below k).mono s, h.sb.l0.2⟩, ⟨(h.l1.below k).mono s, h.sb.l1.2⟩, ⟨(h.l2.below k).mono s, h.sb.l2.2⟩, ⟨fun i hi => (cl _ i (by omega)).trans (h.sb.rO.1 i hi), fun i => (fz _ i (by omega)).trans (h.sb.rO.2 i)⟩, h.sb.b.trans (k.mono (by omega)), by omega⟩, h.l0.below k, h.l1.below k, h.l2.below k, ⟨fun i hi => (cl _ i (by omega)).trans (h.rR.1 i hi), fun i => (fz _ i (by omega)).trans (h.rR.2 i)⟩, z1, z2, s⟩
end
/-- what stands when the answer is laid -/
structure EB (w : World) (p br bo E : Nat) (R : Rl) (a0 a1 a2 : Option Addr) (n0 c0 n1 c1 n2 c2 : Nat) (D0 D1 D2 : Nat → Int) (c f g : Int) (X : World) : Prop where
  hr : ∀ i, i < 11 → X.cell? ⟨br, i, none⟩ = some (RVf R i)
  ho : ∀ i, i < 6 → X.cell? ⟨bo, i, none⟩ = some ((OW (.slice a0 n0 c0) (.slice a1 n1 c1) (.slice a2 n2 c2) c f g) i)
  l0 : Ints E X a0 n0 D0 ∧ ∀ ad, a0 = some ad → p < ad.block
  l1 : Ints E X a1 n1 D1 ∧ ∀ ad, a1 = some ad → p < ad.block
  l2 : Ints E X a2 n2 D2 ∧ ∀ ad, a2 = some ad → p < ad.block
  b : Below w.heap.size w X
  z : (w.heap.size + 1 < p ∧ p < br ∧ p < bo) ∧ br < E ∧ bo < E ∧ E ≤ X.heap.size
section
variable {w X X' : World} {p br bo E : Nat} {R : Rl} {a0 a1 a2 : Option Addr} {n0 c0 n1 c1 n2 c2 : Nat} {D0 D1 D2 : Nat → Int} {c f g : Int}
theorem EB.kept {S : Nat → Prop} (h : EB w p br bo E R a0 a1 a2 n0 c0 n1 c1 n2 c2 D0 D1 D2 c f g X) (k : Kept S X X') (hs : ∀ b, S b → b < p ∧ w.heap.size ≤ b) : EB w p br bo E R a0 a1 a2 n0 c0 n1 c1 n2 c2 D0 D1 D2 c f g X' := by
  obtain ⟨⟨z1, z2, z3⟩, z4, z5, z6⟩ := h.z
  have cl : ∀ q i, q < X.heap.size → ¬ S q → X'.cell? ⟨q, i, none⟩ = X.cell? ⟨q, i, none⟩ := fun q i hq hn => World.cell?_of_block (w := X) (a := ⟨q, i, none⟩) (k.block q hq hn)
  have hl : ∀ b, S b → b ≤ p := fun b e => by have := hs b e; omega
  exact ⟨fun i hi => (cl br i (by omega) (fun e => by have := hs _ e; omega)).trans (h.hr i hi), fun i hi => (cl bo i (by omega) (fun e => by have := hs _ e; omega)).trans (h.ho i hi), ⟨ints_farE z6 h.l0.1 h.l0.2 k hl, h.l0.2⟩, ⟨ints_farE z6 h.l1.1 h.l1.2 k hl, h.l1.2⟩, ⟨ints_farE z6 h.l2.1 h.l2.2 k hl, h.l2.2⟩, h.b.trans (k.below h.b.size (fun b e => (hs b e).2)), ⟨z1, z2, z3⟩, z4, z5, Nat.le_trans z6 k.size⟩
end
theorem runStoreO3 {o : Oper} {A : Act} {w : World} {x y : Operand} {b : Nat} {V : Nat → Value} {a0 a1 a2 : Option Addr} {n0 c0 n1 c1 n2 c2 : Nat} {c f g : Int} (ho : o.op = .store 30 x y) (hx : A.eval x = .pointer (some ⟨b, 0, none⟩)) (hy : A.eval y = .agg #[.slice a0 n0 c0, .slice a1 n1 c1, .slice a2 n2 c2, .int .i64 c, .int .i64 f, .int .i64 g]) (h : C6 w b V) :
    ∃ w', (execOp A.eval o).run Try.prog w = .ok .skip w' ∧ C6 w' b (OW (.slice a0 n0 c0) (.slice a1 n1 c1) (.slice a2 n2 c2) c f g) ∧ Kept (· = b) w w' := by
  have u0 := h.c 0 (by omega)
  have u1 := h.c 1 (by omega)
  have u2 := h.c 2 (by omega)
  have u3 := h.c 3 (by omega)
  have u4 := h.c 4 (by omega)
  have u5 := h.c 5 (by omega)
  have f0 := h.f 0
  have f1 := h.f 1
  have f2 := h.f 2
  have f3 := h.f 3
  have f4 := h.f 4
  have f5 := h.f 5
  refine ⟨((((((w.setCell ⟨b, 0, none⟩ (.slice a0 n0 c0)).setCell ⟨b, 1, none⟩ (.slice a1 n1 c1)).setCell ⟨b, 2, none⟩ (.slice a2 n2 c2)).setCell ⟨b, 3, none⟩ (.int .i64 c)).setCell ⟨b, 4, none⟩ (.int .i64 f)).setCell ⟨b, 5, none⟩ (.int .i64 g)), ?_, ?_, ?_⟩
  · unfold execOp
    rw [ho]
    simp only [hx, hy]
    go_simp
  · refine (((((((h.set 0 _ (by omega)).set 1 _ (by omega)).set 2 _ (by omega)).set 3 _ (by omega)).set 4 _ (by omega)).set 5 _ (by omega))).same (fun i hi => ?_)
    rcases (by omega : i = 0 ∨ i = 1 ∨ i = 2 ∨ i = 3 ∨ i = 4 ∨ i = 5) with rfl | rfl | rfl | rfl | rfl | rfl <;> rfl
  · exact ((((((Kept.setCell w ⟨b, 0, none⟩ _).trans (Kept.setCell _ ⟨b, 1, none⟩ _)).trans (Kept.setCell _ ⟨b, 2, none⟩ _)).trans (Kept.setCell _ ⟨b, 3, none⟩ _)).trans (Kept.setCell _ ⟨b, 4, none⟩ _)).trans (Kept.setCell _ ⟨b, 5, none⟩ _))
/-- what was drawn -/
def DRE (w : World) (e : Ending) (w' : World) : Prop :=
  ∃ (R : Rl) (a0 a1 a2 : Option Addr) (n0 c0 n1 c1 n2 c2 : Nat) (D0 D1 D2 : Nat → Int) (c f g : Int) (b m cc : Nat) (L : Nat → LV), e = .returned (.tuple #[.agg #[.int .i64 R.d, .int .i64 R.r1, .int .i64 R.r2, .int .i64 R.r3, .int .i64 R.r4, .int .i64 R.k, .int .i64 R.z, .int .i64 R.o, .int .i64 R.y, .int .i64 R.mo, .int .i64 R.gr], .agg #[.slice a0 n0 c0, .slice a1 n1 c1, .slice a2 n2 c2, .int .i64 c, .int .i64 f, .int .i64 g], .slice (some ⟨b, 0, none⟩) m cc]) ∧ R.bds ∧ (n0 ≤ 6 ∧ n1 ≤ 6 ∧ n2 ≤ 6) ∧ (Ints w'.heap.size w' a0 n0 D0 ∧ Ints w'.heap.size w' a1 n1 D1 ∧ Ints w'.heap.size w' a2 n2 D2) ∧ ((a0 = none → n0 = 0 ∧ c0 = 0) ∧ (a1 = none → n1 = 0 ∧ c1 = 0) ∧ (a2 = none → n2 = 0 ∧ c2 = 0)) ∧ (bd c ∧ bd f ∧ bd g) ∧ (m ≤ 7 ∧ m ≤ cc ∧ LL w'.heap.size w' (some ⟨b, 0, none⟩) m L ∧ LLen m L 7) ∧ Below w.heap.size w w'
set_option maxHeartbeats 8000000 in
set_option maxRecDepth 100000 in
theorem drawRunOpt (a : Option Addr) (len cap : Nat) (w : World) (hc : Base.Code w.heap.size w a len) (hlen : len ≤ 1048576) :
    Calls Try.prog 6 #[.slice a len cap] w (DRE w) := by
  obtain ⟨W0, hW0⟩ : ∃ W0, w.alloc (.cells #[.int .i64 0, .int .i64 0, .int .i64 0, .int .i64 0, .int .i64 0, .int .i64 0, .int .i64 0, .int .i64 0, .int .i64 0, .int .i64 0, .int .i64 0] 27) = W0 := ⟨_, rfl⟩
  obtain ⟨W1, hW1⟩ : ∃ W1, W0.alloc (.cells #[.slice none 0 0, .slice none 0 0, .slice none 0 0, .int .i64 0, .int .i64 0, .int .i64 0] 30) = W1 := ⟨_, rfl⟩
  have z0 : W0.heap.size = w.heap.size + 1 := by rw [← hW0]; simp
  have z1 : W1.heap.size = w.heap.size + 1 + 1 := by rw [← hW1, ← z0]; simp
  have b0 : Below w.heap.size w W0 := hW0 ▸ (Below.refl _ _).alloc (Nat.le_refl _) _
  have b1 : Below W0.heap.size W0 W1 := hW1 ▸ (Below.refl _ _).alloc (Nat.le_refl _) _
  have RR := Base.hide (show (∀ i, i < 11 → W1.cell? ⟨w.heap.size, i, none⟩ = some (.int .i64 0)) ∧ (∀ i, W1.frozen? ⟨w.heap.size, i, none⟩ = false) from ⟨fun i hi => (b1.cell (p := ⟨w.heap.size, i, none⟩) (by show w.heap.size < _; omega)).trans (by rw [← hW0]; rcases (by omega : i = 0 ∨ i = 1 ∨ i = 2 ∨ i = 3 ∨ i = 4 ∨ i = 5 ∨ i = 6 ∨ i = 7 ∨ i = 8 ∨ i = 9 ∨ i = 10) with rfl | rfl | rfl | rfl | rfl | rfl | rfl | rfl | rfl | rfl | rfl <;> simp [go_sem]), fun i => (b1.frozen (p := ⟨w.heap.size, i, none⟩) (by show w.heap.size < _; omega)).trans (by rw [← hW0]; simp [go_sem])⟩)
  have RO := Base.hide (show (∀ i, i < 6 → W1.cell? ⟨w.heap.size + 1, i, none⟩ = some (Z6 i)) ∧ (∀ i, W1.frozen? ⟨w.heap.size + 1, i, none⟩ = false) from ⟨fun i hi => by rw [← z0, ← hW1]; rcases (by omega : i = 0 ∨ i = 1 ∨ i = 2 ∨ i = 3 ∨ i = 4 ∨ i = 5) with rfl | rfl | rfl | rfl | rfl | rfl <;> simp [go_sem, Z6], fun i => by rw [← z0, ← hW1]; simp [go_sem]⟩)
  have B1 := Base.hide (b0.trans (b1.mono b0.size))
  have Z1 := Base.hide z1
  have HC := Base.hide ((hc.below B1.out).mono B1.out.size)
  have CW := Base.hide (fun (Y : World) (h : Below w.heap.size w Y) => hc.below h)
  clear hc b0 b1 z1
  go_enter Try.func6, Try.ntmps6
  go_wp2_with fail
  refine (Base.l1New a len cap _ HC.out hlen).mono ?_; rintro e w1 ⟨rfl, d1, n1⟩
  have BR := Base.hide n1
  have D1 := Base.hide d1
  have S1 := Base.hide d1.lt
  clear d1 n1 hW0 hW1 z0
  obtain ⟨p, hp⟩ : ∃ p, W1.heap.size = p := ⟨_, rfl⟩
  rw [hp] at D1 S1 BR Z1 ⊢
  go_wp2_with fail
  refine (drawRule p p a len cap _ D1.out (Nat.le_of_lt S1.out)).mono ?_; rintro e w2 ⟨R, rfl, hR, d2, g2⟩
  have RB := Base.hide hR
  have D2 := Base.hide d2
  have G2 := Base.hide g2
  have S2 := Base.hide d2.lt
  clear hR d2 g2
  go_wp2_with fail
  obtain ⟨W3, hW3⟩ : ∃ W3, w2.alloc (.cells #[.int .i64 R.d, .int .i64 R.r1, .int .i64 R.r2, .int .i64 R.r3, .int .i64 R.r4, .int .i64 R.k, .int .i64 R.z, .int .i64 R.o, .int .i64 R.y, .int .i64 R.mo, .int .i64 R.gr] 27) = W3 := ⟨_, rfl⟩
  rw [hW3]
  have KR := Base.hide (show ∀ i, i < 11 → W3.cell? ⟨w2.heap.size, i, none⟩ = some (RVf R i) from fun i hi => by rw [← hW3]; rcases (by omega : i = 0 ∨ i = 1 ∨ i = 2 ∨ i = 3 ∨ i = 4 ∨ i = 5 ∨ i = 6 ∨ i = 7 ∨ i = 8 ∨ i = 9 ∨ i = 10) with rfl | rfl | rfl | rfl | rfl | rfl | rfl | rfl | rfl | rfl | rfl <;> simp [go_sem, RVf])
  have g3 : w2.grownBy W3 (some p) := hW3 ▸ Lib.grownBy_allocR (Base.grown_refl w2 p) _
  have D3 := Base.hide (show Base.Cur p W3 p a len cap from hW3 ▸ D2.out.alloc _)
  have z3 : W3.heap.size = w2.heap.size + 1 := by rw [← hW3]; simp
  have Z3 := Base.hide z3
  have G3 := Base.hide (G2.out.trans g3)
  clear g3 z3 hW3 D2 G2
  obtain ⟨br, hbr⟩ : ∃ br, w2.heap.size = br := ⟨_, rfl⟩
  rw [hbr] at KR Z3 S2 ⊢
  clear hbr
  refine (drawOpt p p a len cap _ D3.out (by have := Z3.out; have := S2.out; omega)).mono ?_; rintro e w4 ⟨a0, a1, a2, n0, c0, n1, c1, n2, c2, D0, D1', D2, c, f, g, rfl, hn, ⟨i0, i1, i2⟩, hz, hb, ⟨k0, k1, k2⟩, d4, g4⟩
  have NN := Base.hide hn
  have NZ := Base.hide hz
  have HB := Base.hide hb
  clear hn hz hb
  go_wp2_with fail
  obtain ⟨W5, hW5⟩ : ∃ W5, w4.alloc (.cells #[.slice a0 n0 c0, .slice a1 n1 c1, .slice a2 n2 c2, .int .i64 c, .int .i64 f, .int .i64 g] 30) = W5 := ⟨_, rfl⟩
  rw [hW5]
  have g5 : w4.grownBy W5 (some p) := hW5 ▸ Lib.grownBy_allocR (Base.grown_refl w4 p) _
  have k5 := keptP g5
  have s4 := g4.size
  have G5 := Base.hide (G3.out.trans (g4.trans g5))
  have GA := Base.hide (g4.trans g5)
  have HS := Base.hide (show SB w p br w4.heap.size a len cap R a0 a1 a2 n0 c0 n1 c1 n2 c2 D0 D1' D2 c f g W5 from
      { cur := hW5 ▸ d4.alloc _
        hr := fun i hi => by have := S2.out; have := Z3.out; rw [(grown_keep GA.out (by omega) (by omega)).1]; exact KR.out i hi
        ho := fun i hi => by rw [← hW5]; rcases (by omega : i = 0 ∨ i = 1 ∨ i = 2 ∨ i = 3 ∨ i = 4 ∨ i = 5) with rfl | rfl | rfl | rfl | rfl | rfl <;> simp [go_sem, OW]
        l0 := ⟨ints_far i0 (p := p) (fun ad e => by have := k0 ad e; have := S2.out; have := Z3.out; omega) k5 (fun q e => by have e : q = p := e; omega), fun ad e => by have := k0 ad e; have := S2.out; have := Z3.out; omega⟩
        l1 := ⟨ints_far i1 (p := p) (fun ad e => by have := k1 ad e; have := S2.out; have := Z3.out; omega) k5 (fun q e => by have e : q = p := e; omega), fun ad e => by have := k1 ad e; have := S2.out; have := Z3.out; omega⟩
        l2 := ⟨ints_far i2 (p := p) (fun ad e => by have := k2 ad e; have := S2.out; have := Z3.out; omega) k5 (fun q e => by have e : q = p := e; omega), fun ad e => by have := k2 ad e; have := S2.out; have := Z3.out; omega⟩
        rO := ⟨fun i hi => by have := Z1.out; have := BR.out.size; rw [(grown_keep G5.out (by omega) (by omega)).1, BR.out.cell (p := ⟨w.heap.size + 1, i, none⟩) (by show w.heap.size + 1 < p; omega)]; exact RO.out.1 i hi, fun i => by have := Z1.out; have := BR.out.size; rw [(grown_keep G5.out (by omega) (by omega)).2, BR.out.frozen (p := ⟨w.heap.size + 1, i, none⟩) (by show w.heap.size + 1 < p; omega)]; exact RO.out.2 i⟩
        b := B1.out.trans (((BR.out).trans (D1.out.below G5.out)).mono (by have := Z1.out; omega))
        z := by have := Z1.out; have := S2.out; have := Z3.out; have : w4.heap.size < W5.heap.size := (by rw [← hW5]; simp); omega })
  have RQ := Base.hide (show (∀ i, i < 11 → W5.cell? ⟨w.heap.size, i, none⟩ = some (.int .i64 0)) ∧ (∀ i, W5.frozen? ⟨w.heap.size, i, none⟩ = false) from ⟨fun i hi => by have := Z1.out; have := BR.out.size; rw [(grown_keep G5.out (by omega) (by omega)).1, BR.out.cell (p := ⟨w.heap.size, i, none⟩) (by show w.heap.size < p; omega)]; exact RR.out.1 i hi, fun i => by have := Z1.out; have := BR.out.size; rw [(grown_keep G5.out (by omega) (by omega)).2, BR.out.frozen (p := ⟨w.heap.size, i, none⟩) (by show w.heap.size < p; omega)]; exact RR.out.2 i⟩)
  have E5 := Base.hide (show W5.heap.size = w4.heap.size + 1 by rw [← hW5]; simp)
  clear i0 i1 i2 k0 k1 k2 d4 g4 g5 k5 s4 GA G5 hW5 D3 G3 KR RR RO BR B1 D1 S1 S2 Z3
  obtain ⟨bo, hbo⟩ : ∃ bo, w4.heap.size = bo := ⟨_, rfl⟩
  rw [hbo] at HS E5 ⊢
  clear hbo
  have LB0 := Base.hide (show LB w p br bo W5.heap.size a len cap R a0 a1 a2 n0 c0 n1 c1 n2 c2 D0 D1' D2 c f g W5 from ⟨HS.out, HS.out.l0.1, HS.out.l1.1, HS.out.l2.1, RQ.out, HS.out.z.2.2.2.1, HS.out.z.2.2.2.2, Nat.le_refl _⟩)
  have PE := Base.hide (show w.heap.size + 1 < p ∧ p < W5.heap.size by have := HS.out.z; omega)
  clear RQ HS
  have gA : W5.grownBy (W5.alloc (.cells #[] 28)) (some p) := Lib.grownBy_allocR (Base.grown_refl W5 p) _
  have LB1 := Base.hide (LB0.out.draw gA (LB0.out.sb.cur.alloc _))
  have RD := Base.hide (show RowsD W5.heap.size (W5.alloc (.cells #[] 28)) (.slice (some ⟨W5.heap.size, 0, none⟩) 0 0) 0 (fun _ => ⟨none, 0, 0, fun _ => 0⟩) from ⟨⟨rfl, .inr ⟨W5.heap.size, 0, #[], rfl, Nat.le_refl _, heap_alloc_new W5 _, Nat.le_refl _, by simp [maxLen], rfl, rfl⟩⟩, fun i hi => by omega, fun i hi => by omega⟩)
  clear gA LB0
  go_wp2_with fail
  refine (Base.l1Below p p a len cap 8 _ LB1.out.sb.cur (by decide) (by decide)).mono ?_; rintro e w6 ⟨z, z0, z1, rfl, d6, g6⟩
  have LB2 := Base.hide (LB1.out.draw g6 d6)
  have RD2 := Base.hide (RD.out.kept (keptP g6) (fun b e => by have e : b = p := e; have := PE.out; omega))
  clear d6 g6 LB1 RD
  obtain ⟨N, rfl⟩ : ∃ N : Nat, (N : Int) = z := ⟨z.toNat, by omega⟩
  have N7 : N ≤ 7 := by omega
  clear z0 z1
  obtain ⟨E, hE⟩ : ∃ E, bo + 1 = E := ⟨_, rfl⟩
  simp only [E5.out, hE] at LB2 RD2 PE
  simp only [hE]
  clear hE E5
  go_wp2_with fail
  go_loopw [8, 9] (fun lv nv wx => ∃ (k m gq cq : Nat) (M : Nat → LV), k + m = N ∧ nv = .int .i64 (m : Int) ∧ lv = .slice (some ⟨gq, 0, none⟩) k cq ∧ LB w p br bo E a len cap R a0 a1 a2 n0 c0 n1 c1 n2 c2 D0 D1' D2 c f g wx ∧ RowsD E wx (.slice (some ⟨gq, 0, none⟩) k cq) k M ∧ LLen k M 7) (fun _ nv _ => (intOf nv).toNat)
  case atStart => exact ⟨0, N, _, 0, _, by omega, rfl, rfl, LB2.out, RD2.out, fun i hi => absurd hi (by omega)⟩
  case round =>
    obtain ⟨k, m, g1, k1, M, hkm, rfl, rfl, hLB, hRD, hLn⟩ := hrel
    have HL := Base.hide hLB
    have HD := Base.hide hRD
    have HN := Base.hide hLn
    clear hLB hRD hLn LB2 RD2
    by_cases hm : 0 < (m : Int)
    · have m0 : 0 < m := by omega
      go_wp2_with fail
      refine Qm.factsO 12 11 (fun X => LB w p br bo E a len cap R a0 a1 a2 n0 c0 n1 c1 n2 c2 D0 D1' D2 c f g X ∧ g1 < X.heap.size) (fun X => RowsD E X (.slice (some ⟨g1, 0, none⟩) k k1) k M) (fun t v wx => match t with | 0 => v = .slice (some ⟨g1, 0, none⟩) k k1 | 1 => v = .pointer (some ⟨p, 0, none⟩) | 2 => v = .pointer (some ⟨bo, 0, none⟩) | 3 => v = .slice a0 n0 c0 | 4 => v = .int .i64 (n0 : Int) | 5 => v = .pointer (some ⟨p, 0, none⟩) | 6 => ∃ z : Int, v = .int .i64 z ∧ 0 ≤ z ∧ z ≤ 59 | 7 => ∃ z : Nat, v = .int .i64 (z : Int) ∧ z ≤ 1 | 8 => ∃ z : Nat, v = .int .i64 (z : Int) ∧ z ≤ 7 | 9 => ∃ (b : Option Addr) (kk cc : Nat) (DD : Nat → Int), v = .slice b kk cc ∧ kk ≤ 7 ∧ OwnL E wx b kk DD ∧ ∀ q, Blk b kk q → ¬ g1 = q | 10 => ∃ (gg : Nat) (b : Option Addr) (kk cc : Nat) (DD : Nat → Int), v = .slice (some ⟨gg, 0, none⟩) 1 1 ∧ (E ≤ gg ∧ ¬ g1 = gg ∧ wx.heap[gg]? = some (.cells #[.slice b kk cc] 28 (0, 0))) ∧ kk ≤ 7 ∧ OwnL E wx b kk DD ∧ ∀ q, Blk b kk q → ¬ g1 = q | 11 => ∃ (gg cc : Nat) (M' : Nat → LV), v = .slice (some ⟨gg, 0, none⟩) (k + 1) cc ∧ RowsD E wx (.slice (some ⟨gg, 0, none⟩) (k + 1) cc) (k + 1) M' ∧ LLen (k + 1) M' 7 | _ => True) (fun w1 w2 => w1.grownBy w2 (some p)) (fun w1 w2 => w1.grownBy w2 (some g1)) (by kernel_rfl) (by kernel_rfl) ?hb0 ?ho0 ?hO ?hF1 ?hF2 ?steps ?r1
      case hb0 => exact ⟨HL.out.draw (Base.grown_drew _ 1 p) (cur_belA HL.out.sb.cur (Below.refl _ _).drew), (HD.out.heads.lt g1 rfl).2⟩
      case ho0 => exact HD.out.kept (keptP (Base.grown_drew _ 1 p)) (fun b e => by have e : b = p := e; have := PE.out; omega)
      case hO => exact fun w1 w2 h q => h.kept (keptP q) (fun b e => by have e : b = p := e; have := PE.out; omega)
      case hF1 =>
        intro t v w1 w2 h q
        match t, h with
        | 0, h => exact h
        | 1, h => exact h
        | 2, h => exact h
        | 3, h => exact h
        | 4, h => exact h
        | 5, h => exact h
        | 6, h => exact h
        | 7, h => exact h
        | 8, h => exact h
        | 9, h => exact match h with | ⟨b, kk, cc, DD, e1, e2, e3, e4⟩ => ⟨b, kk, cc, DD, e1, e2, e3.kept (keptP q) (fun b hb e => by have e : b = p := e; have := (e3.blk hb).1; have := PE.out; omega), e4⟩
        | 10, h => exact match h with | ⟨gg, b, kk, cc, DD, e1, ⟨u1, u2, u3⟩, e2, e3, e4⟩ => ⟨gg, b, kk, cc, DD, e1, ⟨u1, u2, (q.block gg (Array.getElem?_eq_some_iff.1 u3).1 (fun e => by have e : gg = p := Option.some.inj e; have := PE.out; omega)).trans u3⟩, e2, e3.kept (keptP q) (fun b hb e => by have e : b = p := e; have := (e3.blk hb).1; have := PE.out; omega), e4⟩
        | 11, h => exact match h with | ⟨gg, cc, M', e1, e2, e3⟩ => ⟨gg, cc, M', e1, e2.kept (keptP q) (fun b e => by have e : b = p := e; have := PE.out; omega), e3⟩
        | _ + 12, h => exact h
      case hF2 =>
        intro t v w1 w2 hne h q
        match t, h, hne with
        | 0, h, _ => exact h
        | 1, h, _ => exact h
        | 2, h, _ => exact h
        | 3, h, _ => exact h
        | 4, h, _ => exact h
        | 5, h, _ => exact h
        | 6, h, _ => exact h
        | 7, h, _ => exact h
        | 8, h, _ => exact h
        | 9, h, _ => exact match h with | ⟨b, kk, cc, DD, e1, e2, e3, e4⟩ => ⟨b, kk, cc, DD, e1, e2, e3.kept (keptO q) (fun b hb e => e4 b hb (Option.some.inj e)), e4⟩
        | 10, h, _ => exact match h with | ⟨gg, b, kk, cc, DD, e1, ⟨u1, u2, u3⟩, e2, e3, e4⟩ => ⟨gg, b, kk, cc, DD, e1, ⟨u1, u2, (q.block gg (Array.getElem?_eq_some_iff.1 u3).1 (fun e => u2 (Option.some.inj e).symm)).trans u3⟩, e2, e3.kept (keptO q) (fun b hb e => e4 b hb (Option.some.inj e)), e4⟩
        | 11, _, hne => exact absurd rfl hne
        | _ + 12, h, _ => exact h
      case steps =>
        intro i o hi ho s A wS hb hold hk hA hO
        match i, hi, ho, hk, hold with
        | 0, _, ho, hk, hold =>
          cases ho
          refine Qg.landsG_free rfl ?_
          exact Qf.lands_move _ rfl (.slice (some ⟨g1, 0, none⟩) k k1) ((hO 8 (by rfl)).trans rfl) ⟨hb, fun _ => Base.grown_refl _ _, fun e => absurd e (by decide), rfl⟩
        | 1, _, ho, hk, hold =>
          cases ho
          refine Qg.landsG_free rfl ?_
          exact Qf.lands_move _ rfl (.pointer (some ⟨p, 0, none⟩)) ((hO 5 (by rfl)).trans rfl) ⟨hb, fun _ => Base.grown_refl _ _, fun e => absurd e (by decide), rfl⟩
        | 2, _, ho, hk, hold =>
          cases ho
          refine Qg.landsG_free rfl ?_
          exact Qf.lands_val _ _ (runFO0 rfl ((hO 7 (by rfl)).trans rfl)) ⟨hb, fun _ => Base.grown_refl _ _, fun e => absurd e (by decide), rfl⟩
        | 3, _, ho, hk, hold =>
          cases ho
          refine Qg.landsG_free rfl ?_
          have h2 := hA 2 _ 25 (by decide) rfl rfl (by simp)
          rw [show s 2 = _ from hk 2 (by kernel_rfl)] at h2
          exact Qf.lands_val _ _ (runLL rfl h2 (hb.1.sb.ho 0 (by omega))) ⟨hb, fun _ => Base.grown_refl _ _, fun e => absurd e (by decide), rfl⟩
        | 4, _, ho, hk, hold =>
          cases ho
          refine Qg.landsG_free rfl ?_
          have h3 := hA 3 _ 26 (by decide) rfl rfl (by simp)
          rw [show s 3 = _ from hk 3 (by kernel_rfl)] at h3
          exact Qf.lands_val _ _ (runLn rfl h3) ⟨hb, fun _ => Base.grown_refl _ _, fun e => absurd e (by decide), rfl⟩
        | 5, _, ho, hk, hold =>
          cases ho
          refine Qg.landsG_free rfl ?_
          exact Qf.lands_move _ rfl (.pointer (some ⟨p, 0, none⟩)) ((hO 5 (by rfl)).trans rfl) ⟨hb, fun _ => Base.grown_refl _ _, fun e => absurd e (by decide), rfl⟩
        | 6, _, ho, hk, hold =>
          cases ho
          refine Qg.landsG_free rfl ?_
          have h5 := hA 5 _ 28 (by decide) rfl rfl (by simp)
          rw [show s 5 = _ from hk 5 (by kernel_rfl)] at h5
          refine Qf.lands_call 20 _ _ rfl (enters_of Try.func20 (by kernel_rfl) rfl) _ (by first | (simp [h5]; done) | (simp [h5]; rfl)) ((Base.l1Below p p a len cap 60 _ hb.1.sb.cur (by decide) (by decide)).mono ?_)
          rintro e wT ⟨z, z0, z1, rfl, dT, gT⟩
          exact ⟨_, rfl, ⟨hb.1.draw gT dT, Nat.lt_of_lt_of_le hb.2 gT.size⟩, fun _ => gT, fun e => absurd e (by decide), z, rfl, z0, by omega⟩
        | 7, _, ho, hk, hold =>
          cases ho
          refine Qg.landsG_free rfl ?_
          have h6 := hA 6 _ 29 (by decide) rfl rfl (by simp)
          obtain ⟨z, ez, z0, z1⟩ := hk 6 (by kernel_rfl)
          rw [ez] at h6
          have eq : z.tdiv 59 = ((z.tdiv 59).toNat : Int) := by rw [Int.tdiv_eq_ediv_of_nonneg z0]; omega
          have q1 : (z.tdiv 59).toNat ≤ 1 := by rw [Int.tdiv_eq_ediv_of_nonneg z0]; omega
          exact Qf.lands_val _ _ (runQuoD rfl h6 z0 z1) ⟨hb, fun _ => Base.grown_refl _ _, fun e => absurd e (by decide), (z.tdiv 59).toNat, by rw [← eq], q1⟩
        | 8, _, ho, hk, hold =>
          cases ho
          refine Qg.landsG_free rfl ?_
          have h4 := hA 4 _ 27 (by decide) rfl rfl (by simp)
          rw [show s 4 = _ from hk 4 (by kernel_rfl)] at h4
          have h7 := hA 7 _ 30 (by decide) rfl rfl (by simp)
          obtain ⟨z, ez, z1⟩ := hk 7 (by kernel_rfl)
          rw [ez] at h7
          have n6 := NN.out.1
          exact Qf.lands_val _ _ (runAddI rfl h4 h7 (wid (by omega))) ⟨hb, fun _ => Base.grown_refl _ _, fun e => absurd e (by decide), n0 + z, by simp, by omega⟩
        | 9, _, ho, hk, hold =>
          cases ho
          refine Qg.landsG_free rfl ?_
          have h1 := hA 1 _ 24 (by decide) rfl rfl (by simp)
          rw [show s 1 = _ from hk 1 (by kernel_rfl)] at h1
          have h8 := hA 8 _ 31 (by decide) rfl rfl (by simp)
          obtain ⟨z, ez, z1⟩ := hk 8 (by kernel_rfl)
          rw [ez] at h8
          refine Qf.lands_call 21 _ _ rfl (enters_of Try.func21 (by kernel_rfl) rfl) _ (by first | (simp [h1, h8]; done) | (simp [h1, h8]; rfl)) ((drawGrad p p a len cap z _ hb.1.sb.cur (by have := hb.1.sb.z; omega) (by omega)).mono ?_)
          rintro e wT ⟨bb, kb, cb, DD, rfl, kz, -, oo, dT, gT⟩
          have hz := hb.1.z.2.2
          exact ⟨_, rfl, ⟨hb.1.draw gT dT, Nat.lt_of_lt_of_le hb.2 gT.size⟩, fun _ => gT, fun e => absurd e (by decide), bb, kb, cb, DD, rfl, by omega, OwnL.monoE hz oo, fun q hq e => by have := (oo.blk hq).1; have := hb.2; omega⟩
        | 10, _, ho, hk, hold =>
          cases ho
          refine Qg.landsG_free rfl ?_
          have h9 := hA 9 _ 32 (by decide) rfl rfl (by simp)
          obtain ⟨bb, kb, cb, DD, e9, q1, q2, q3⟩ := hk 9 (by kernel_rfl)
          rw [e9] at h9
          have gT : wS.grownBy (wS.alloc (.cells #[.slice bb kb cb] 28)) (some p) := Lib.grownBy_allocR (Base.grown_refl wS p) _
          have hz := hb.1.z.2.2
          exact Qf.lands_val _ _ (runBuildD1 rfl h9) ⟨⟨hb.1.draw gT (hb.1.sb.cur.alloc _), Nat.lt_of_lt_of_le hb.2 gT.size⟩, fun _ => gT, fun e => absurd e (by decide), wS.heap.size, bb, kb, cb, DD, rfl, ⟨hz, by have := hb.2; omega, heap_alloc_new wS _⟩, q1, q2.kept (keptP gT) (fun b hb' e => by have e : b = p := e; have := (q2.blk hb').1; have := PE.out; omega), q3⟩
        | 11, _, ho, hk, hold =>
          cases ho
          refine Qg.landsG_free rfl ?_
          have h0 := hA 0 _ 23 (by decide) rfl rfl (by simp)
          rw [show s 0 = _ from hk 0 (by kernel_rfl)] at h0
          have h10 := hA 10 _ 33 (by decide) rfl rfl (by simp)
          obtain ⟨gg, bb, kb, cb, DD, e10, ⟨u1, u2, u3⟩, q1, q2, q3⟩ := hk 10 (by kernel_rfl)
          rw [e10] at h10
          have hz := hb.1.z.2.2
          have gE := ((hold rfl).heads.lt g1 rfl).1
          refine lands_appD rfl h0 (hold rfl) h10 u3 q2 (fun q hq e => q3 q hq (Option.some.inj e)) (by omega) hz (fun g' c' w' hD hg => ?_)
          exact ⟨⟨hb.1.bel ((Below.refl _ _).grown hg hz (by rintro j hj; have hj : g1 = j := Option.some.inj hj; omega)), Nat.lt_of_lt_of_le hb.2 hg.size⟩, fun e => absurd rfl e, fun _ => hg, g', c', _, rfl, hD, fun i hi => by
            by_cases e : i = k
            · simp only [e, if_true]; omega
            · simp only [e, if_false]; exact HN.out i (by omega)⟩
        | _ + 12, hi, _, _, _ => exact absurd hi (by omega)
      case r1 =>
      intro s' X hb hk
      obtain ⟨g2, c2', M', e11, hD2, hL2⟩ := hk 11 (by decide)
      have HX := Base.hide hb.1
      have HD2 := Base.hide hD2
      have HN2 := Base.hide hL2
      simp only [List.take_succ_cons, List.take_zero, List.drop_succ_cons, List.drop_zero, Qf.lay, Qf.all1, if_true, e11]
      simp only [Act.put, List.setIfInBounds_toArray, List.set_cons_succ, List.set_cons_zero]
      clear hb hk e11 hD2 hL2 HL HD HN
      go_wp2_with fail
      go_roundw
      case rel => exact ⟨k + 1, m - 1, g2, c2', M', by omega, by go_num, rfl, HX.out, HD2.out, HN2.out⟩
      case measure => simp [intOf]; omega
    · have hm' : decide (0 < (m : Int)) = false := decide_eq_false hm
      have hm'' : decide (0 < m) = false := decide_eq_false (by omega)
      have k7 : k ≤ 7 := by omega
      clear hm hkm
      go_wp2_with fail
      have H9 := Base.hide (show EB w p br bo E R a0 a1 a2 n0 c0 n1 c1 n2 c2 D0 D1' D2 c f g wr from ⟨HL.out.sb.hr, HL.out.sb.ho, ⟨HL.out.l0, HL.out.sb.l0.2⟩, ⟨HL.out.l1, HL.out.sb.l1.2⟩, ⟨HL.out.l2, HL.out.sb.l2.2⟩, HL.out.sb.b, ⟨HL.out.sb.z.1, HL.out.sb.z.2.1, HL.out.sb.z.2.2.1⟩, HL.out.z⟩)
      have kd : Kept (fun _ => False) wr { wr with drawn := wr.drawn + 1 } := ⟨rfl, rfl, rfl, Nat.le_refl _, fun _ _ _ => rfl⟩
      refine Qm.invJ2 5 (fun d s X => EB w p br bo E R a0 a1 a2 n0 c0 n1 c1 n2 c2 D0 D1' D2 c f g X ∧ RowsD E X (.slice (some ⟨g1, 0, none⟩) k k1) k M ∧ (d 0 = true → s 0 = .agg #[.int .i64 R.d, .int .i64 R.r1, .int .i64 R.r2, .int .i64 R.r3, .int .i64 R.r4, .int .i64 R.k, .int .i64 R.z, .int .i64 R.o, .int .i64 R.y, .int .i64 R.mo, .int .i64 R.gr]) ∧ (d 1 = true → s 1 = .agg #[.slice a0 n0 c0, .slice a1 n1 c1, .slice a2 n2 c2, .int .i64 c, .int .i64 f, .int .i64 g]) ∧ (d 2 = true → s 2 = .slice (some ⟨g1, 0, none⟩) k k1) ∧ (d 3 = true → (∀ i, i < 11 → X.cell? ⟨w.heap.size, i, none⟩ = some (RVf R i))) ∧ (d 3 = false → ((∀ i, i < 11 → X.cell? ⟨w.heap.size, i, none⟩ = some (.int .i64 0)) ∧ ∀ i, X.frozen? ⟨w.heap.size, i, none⟩ = false)) ∧ (d 4 = true → C6 X (w.heap.size + 1) (OW (.slice a0 n0 c0) (.slice a1 n1 c1) (.slice a2 n2 c2) c f g)) ∧ (d 4 = false → C6 X (w.heap.size + 1) Z6)) ⟨H9.out.kept kd (fun _ e => e.elim), HD.out.kept kd (fun _ e => e.elim), nofun, nofun, nofun, nofun, fun _ => HL.out.rR, nofun, fun _ => ⟨HL.out.sb.rO.1, HL.out.sb.rO.2, by have := HL.out.sb.z; show w.heap.size + 1 < wr.heap.size; omega⟩⟩ (by kernel_rfl) (by kernel_rfl) ?steps ?r2
      case steps =>
        intro i o hi ho d s A wS hd hk ⟨jb, jr, j0, j1, j2, j3, j3', j4, j4'⟩ hA hO
        match i, hi, ho, hd, hk with
        | 0, _, ho, hd, hk =>
          cases ho
          refine Qg.landsG_free rfl ?_
          exact Qf.lands_val _ _ (runLR rfl ((hO 6 (by rfl)).trans rfl) (jb.hr 0 (by omega)) (jb.hr 1 (by omega)) (jb.hr 2 (by omega)) (jb.hr 3 (by omega)) (jb.hr 4 (by omega)) (jb.hr 5 (by omega)) (jb.hr 6 (by omega)) (jb.hr 7 (by omega)) (jb.hr 8 (by omega)) (jb.hr 9 (by omega)) (jb.hr 10 (by omega))) ⟨jb, jr, fun _ => rfl, fun h => j1 h, fun h => j2 h, fun h => j3 h, fun h => j3' h, fun h => j4 h, fun h => j4' h⟩
        | 1, _, ho, hd, hk =>
          cases ho
          refine Qg.landsG_free rfl ?_
          exact Qf.lands_val _ _ (runLoadOI rfl ((hO 7 (by rfl)).trans rfl) ⟨by have := jb.z; omega, jb.ho 0 (by omega), jb.ho 1 (by omega), jb.ho 2 (by omega), jb.ho 3 (by omega), jb.ho 4 (by omega), jb.ho 5 (by omega)⟩) ⟨jb, jr, fun h => j0 h, fun _ => rfl, fun h => j2 h, fun h => j3 h, fun h => j3' h, fun h => j4 h, fun h => j4' h⟩
        | 2, _, ho, hd, hk =>
          cases ho
          refine Qg.landsG_free rfl ?_
          exact Qf.lands_move _ rfl (.slice (some ⟨g1, 0, none⟩) k k1) ((hO 8 (by rfl)).trans rfl) ⟨jb, jr, fun h => j0 h, fun h => j1 h, fun _ => rfl, fun h => j3 h, fun h => j3' h, fun h => j4 h, fun h => j4' h⟩
        | 3, _, ho, hd, hk =>
          have ho' : o.op = Op.store 27 (.tmp 2) (.tmp 35) := by cases ho; rfl
          refine Qg.landsG_free (show o.guard = none by cases ho; rfl) ?_
          have h0 := hA 0 _ 35 (by decide) rfl rfl (by simp)
          rw [j0 (hk 0 (by kernel_rfl))] at h0
          obtain ⟨q1, q2⟩ := j3' hd
          obtain ⟨w', run, hc', kk⟩ := runStoreR ho' ((hO 2 (by rfl)).trans rfl) h0 q1 q2
          have ht : ¬ (w.heap.size + 1 = w.heap.size) := by omega
          exact Qf.lands_skip w' run ⟨jb.kept kk (fun b e => by have e : b = w.heap.size := e; have := jb.z; omega), jr.kept kk (fun b e => by have e : b = w.heap.size := e; have := PE.out; omega), fun h => j0 h, fun h => j1 h, fun h => j2 h, fun _ => hc', nofun, fun h => (j4 h).kept kk ht, fun h => (j4' h).kept kk ht⟩
        | 4, _, ho, hd, hk =>
          have ho' : o.op = Op.store 30 (.tmp 3) (.tmp 36) := by cases ho; rfl
          refine Qg.landsG_free (show o.guard = none by cases ho; rfl) ?_
          have h1 := hA 1 _ 36 (by decide) rfl rfl (by simp)
          rw [j1 (hk 1 (by kernel_rfl))] at h1
          obtain ⟨w', run, hc', kk⟩ := runStoreO3 ho' ((hO 3 (by rfl)).trans rfl) h1 (j4' hd)
          have z0 : w.heap.size < wS.heap.size := by have := jb.z; omega
          have cl : ∀ i, w'.cell? ⟨w.heap.size, i, none⟩ = wS.cell? ⟨w.heap.size, i, none⟩ := fun i => World.cell?_of_block (w := wS) (a := ⟨w.heap.size, i, none⟩) (kk.block _ z0 (by show ¬ w.heap.size = w.heap.size + 1; omega))
          have fl : ∀ i, w'.frozen? ⟨w.heap.size, i, none⟩ = wS.frozen? ⟨w.heap.size, i, none⟩ := fun i => World.frozen?_of_block (w := wS) (a := ⟨w.heap.size, i, none⟩) (kk.block _ z0 (by show ¬ w.heap.size = w.heap.size + 1; omega))
          exact Qf.lands_skip w' run ⟨jb.kept kk (fun b e => by have e : b = w.heap.size + 1 := e; have := jb.z; omega), jr.kept kk (fun b e => by have e : b = w.heap.size + 1 := e; have := PE.out; omega), fun h => j0 h, fun h => j1 h, fun h => j2 h, fun h i hi => (cl i).trans (j3 h i hi), fun h => ⟨fun i hi => (cl i).trans ((j3' h).1 i hi), fun i => (fl i).trans ((j3' h).2 i)⟩, fun _ => hc', nofun⟩
        | _ + 5, hi, _, _, _ => exact absurd hi (by omega)
      case r2 =>
      rintro s' X ⟨jb, jr, j0, j1, j2, j3, -, j4, -⟩
      have e2 : s' 2 = .slice (some ⟨g1, 0, none⟩) k k1 := j2 (by decide)
      have hr : ∀ i, i < 11 → X.cell? ⟨w.heap.size, i, none⟩ = some (RVf R i) := j3 (by decide)
      have CC := Base.hide (j4 (by decide))
      have HX := Base.hide jb
      have HZ := Base.hide jr
      have HR := Base.hide hr
      clear hr
      simp only [List.take_succ_cons, List.take_zero, List.drop_succ_cons, List.drop_zero, Qf.lay, Qf.all1, if_true, e2]
      simp only [Act.put, List.setIfInBounds_toArray, List.set_cons_succ, List.set_cons_zero]
      clear jb jr j0 j1 j2 j3 j4 e2 HL HD H9 kd
      have o0 : X.cell? ⟨w.heap.size + 1, 0, none⟩ = some (.slice a0 n0 c0) := CC.out.c 0 (by omega)
      have o1 : X.cell? ⟨w.heap.size + 1, 1, none⟩ = some (.slice a1 n1 c1) := CC.out.c 1 (by omega)
      have o2 : X.cell? ⟨w.heap.size + 1, 2, none⟩ = some (.slice a2 n2 c2) := CC.out.c 2 (by omega)
      have o3 : X.cell? ⟨w.heap.size + 1, 3, none⟩ = some (.int .i64 c) := CC.out.c 3 (by omega)
      have o4 : X.cell? ⟨w.heap.size + 1, 4, none⟩ = some (.int .i64 f) := CC.out.c 4 (by omega)
      have o5 : X.cell? ⟨w.heap.size + 1, 5, none⟩ = some (.int .i64 g) := CC.out.c 5 (by omega)
      have r0 : X.cell? ⟨w.heap.size, 0, none⟩ = some (.int .i64 R.d) := HR.out 0 (by omega)
      have r1 : X.cell? ⟨w.heap.size, 1, none⟩ = some (.int .i64 R.r1) := HR.out 1 (by omega)
      have r2 : X.cell? ⟨w.heap.size, 2, none⟩ = some (.int .i64 R.r2) := HR.out 2 (by omega)
      have r3 : X.cell? ⟨w.heap.size, 3, none⟩ = some (.int .i64 R.r3) := HR.out 3 (by omega)
      have r4 : X.cell? ⟨w.heap.size, 4, none⟩ = some (.int .i64 R.r4) := HR.out 4 (by omega)
      have r5 : X.cell? ⟨w.heap.size, 5, none⟩ = some (.int .i64 R.k) := HR.out 5 (by omega)
      have r6 : X.cell? ⟨w.heap.size, 6, none⟩ = some (.int .i64 R.z) := HR.out 6 (by omega)
      have r7 : X.cell? ⟨w.heap.size, 7, none⟩ = some (.int .i64 R.o) := HR.out 7 (by omega)
      have r8 : X.cell? ⟨w.heap.size, 8, none⟩ = some (.int .i64 R.y) := HR.out 8 (by omega)
      have r9 : X.cell? ⟨w.heap.size, 9, none⟩ = some (.int .i64 R.mo) := HR.out 9 (by omega)
      have r10 : X.cell? ⟨w.heap.size, 10, none⟩ = some (.int .i64 R.gr) := HR.out 10 (by omega)
      have LL := Base.hide (show Ints X.heap.size X a0 n0 D0 ∧ Ints X.heap.size X a1 n1 D1' ∧ Ints X.heap.size X a2 n2 D2 from ⟨HX.out.l0.1.mono HX.out.z.2.2.2, HX.out.l1.1.mono HX.out.z.2.2.2, HX.out.l2.1.mono HX.out.z.2.2.2⟩)
      have BT := Base.hide HX.out.b
      have HC := Base.hide HZ.out.cap
      go_wp2_with fail
      exact bodyPost_ret (v := .tuple #[.agg #[.int .i64 R.d, .int .i64 R.r1, .int .i64 R.r2, .int .i64 R.r3, .int .i64 R.r4, .int .i64 R.k, .int .i64 R.z, .int .i64 R.o, .int .i64 R.y, .int .i64 R.mo, .int .i64 R.gr], .agg #[.slice a0 n0 c0, .slice a1 n1 c1, .slice a2 n2 c2, .int .i64 c, .int .i64 f, .int .i64 g], .slice (some ⟨g1, 0, none⟩) k k1]) (by simp [results, Try.results6, go_sem, o0, o1, o2, o3, o4, o5, r0, r1, r2, r3, r4, r5, r6, r7, r8, r9, r10]) rfl ⟨R, a0, a1, a2, n0, c0, n1, c1, n2, c2, D0, D1', D2, c, f, g, g1, k, k1, M, rfl, RB.out, NN.out, LL.out, NZ.out, HB.out, ⟨k7, HC.out, HZ.out.read, HN.out⟩, BT.out⟩
end Vo
end Go.Proofs.Ytflbhlepmjiejaa

/- What the law on the pieces of a run holds on its way (written by tools/genbj.py). -/
namespace Go.Proofs.Ytflbhlepmjiejaa
namespace Vo
open Go.ChangeShapes Go.WideShapes Go.ChangeAt Go.RowKit Go.Joins Go.Sort
open Vl
set_option linter.unusedVariables false
set_option linter.unusedSimpArgs false
section
variable {o : Oper} {A : Act} {w : World} {x y : Operand} {b m n c : Nat}
theorem runHeadL (ho : o.op = .slice 31 x none (some y) none) (hx : A.eval x = .slice (some ⟨b, 0, none⟩) n c) (hy : A.eval y = .int .i64 (m : Int)) (hm : m ≤ c) : (execOp A.eval o).run Try.prog w = .ok (.value (.slice (some ⟨b, 0, none⟩) m c)) w := by
  have h1 : (m : Int) ≤ c := by omega
  unfold execOp
  rw [ho]
  simp only [hx, hy, Option.map_some, Option.map_none]
  go_simp
theorem runTailL (ho : o.op = .slice 31 x (some y) none none) (hx : A.eval x = .slice (some ⟨b, 0, none⟩) n c) (hy : A.eval y = .int .i64 (m : Int)) (hm : m ≤ n) (hc : n ≤ c) : (execOp A.eval o).run Try.prog w = .ok (.value (.slice (if c = m then some ⟨b, 0, none⟩ else some ⟨b, m, none⟩) (n - m) (c - m))) w := by
  have h1 : (m : Int) ≤ n := by omega
  have h2 : (n : Int) ≤ c := by omega
  unfold execOp
  rw [ho]
  simp only [hx, hy, Option.map_some, Option.map_none]
  by_cases e : c = m
  · rw [if_pos e]; go_simp
  · rw [if_neg e]; go_simp
end
theorem LL.tail {B k m c : Nat} {w : World} {blk : Nat} {L : Nat → LV} (h : LL B w (some ⟨blk, 0, none⟩) m L) (hk : k ≤ m) (hc : m ≤ c) : LL B w (if c = k then some ⟨blk, 0, none⟩ else some ⟨blk, k, none⟩) (m - k) (Lf k L) := by
  by_cases e : c = k
  · exact .inl (by omega)
  · rw [if_neg e]
    have q := h.behind hk
    rw [Nat.zero_add] at q
    exact q
/-- a run's answer, as a tuple -/
def TU (U X : World) (n : Nat) (A : St) (K : Int) (v : Value) : Prop := ∃ (p f q : Option Addr) (c d g : Nat), v = .tuple #[.agg #[.slice p n c, .slice f n d, .slice q n g, .int .i64 A.c, .int .i64 A.f, .int .i64 A.g], .int .i64 K] ∧ OwnL U.heap.size X p n A.P ∧ OwnL U.heap.size X f n A.F ∧ OwnL U.heap.size X q n A.S
/-- its state -/
def AG (U X : World) (n : Nat) (A : St) (v : Value) : Prop := ∃ (p f q : Option Addr) (c d g : Nat), v = .agg #[.slice p n c, .slice f n d, .slice q n g, .int .i64 A.c, .int .i64 A.f, .int .i64 A.g] ∧ OwnL U.heap.size X p n A.P ∧ OwnL U.heap.size X f n A.F ∧ OwnL U.heap.size X q n A.S
/-- its state in a variable -/
def VA (U X : World) (n : Nat) (A : St) (b : Nat) : Prop := ∃ (p f q : Option Addr) (c d g : Nat), C6 X b (OV p f q n c d g A.c A.f A.g) ∧ OwnL U.heap.size X p n A.P ∧ OwnL U.heap.size X f n A.F ∧ OwnL U.heap.size X q n A.S
theorem TU.below {U X X' : World} {n : Nat} {A : St} {K : Int} {v : Value} (h : TU U X n A K v) (b : Below X.heap.size X X') : TU U X' n A K v := match h with
  | ⟨p, f, q, c, d, g, e, h1, h2, h3⟩ => ⟨p, f, q, c, d, g, e, h1.below b, h2.below b, h3.below b⟩
theorem AG.below {U X X' : World} {n : Nat} {A : St} {v : Value} (h : AG U X n A v) (b : Below X.heap.size X X') : AG U X' n A v := match h with
  | ⟨p, f, q, c, d, g, e, h1, h2, h3⟩ => ⟨p, f, q, c, d, g, e, h1.below b, h2.below b, h3.below b⟩
theorem VA.below {U X X' : World} {n k : Nat} {A : St} (h : VA U X n A k) (b : Below X.heap.size X X') : VA U X' n A k := match h with
  | ⟨p, f, q, c, d, g, e, h1, h2, h3⟩ => ⟨p, f, q, c, d, g, e.kept (Kept.of_below (S := fun _ => False) b) id, h1.below b, h2.below b, h3.below b⟩
theorem TU.sto {U X X' : World} {n : Nat} {A : St} {K : Int} {v : Value} (h : TU U X n A K v) (b : Sto X X') : TU U X' n A K v := match h with
  | ⟨p, f, q, c, d, g, e, h1, h2, h3⟩ => ⟨p, f, q, c, d, g, e, own_sto h1 b, own_sto h2 b, own_sto h3 b⟩
theorem AG.sto {U X X' : World} {n : Nat} {A : St} {v : Value} (h : AG U X n A v) (b : Sto X X') : AG U X' n A v := match h with
  | ⟨p, f, q, c, d, g, e, h1, h2, h3⟩ => ⟨p, f, q, c, d, g, e, own_sto h1 b, own_sto h2 b, own_sto h3 b⟩
/-- a piece is run and laid: what holds when the operations d are done -/
structure RJ (U : World) (F : Nat → Value) (n : Nat) (A : St) (K : Int) (d : Nat → Bool) (s : Nat → Value) (X : World) : Prop where
  b : Below U.heap.size U X
  f : ∀ i, i < 5 → d i = true → s i = F i
  t5 : d 5 = true → TU U X n A K (s 5)
  t6 : d 6 = true → TU U X n A K (s 6)
  a7 : d 7 = true → AG U X n A (s 7)
  k8 : d 8 = true → s 8 = .int .i64 K
  q9 : d 9 = true → ∃ q, s 9 = .pointer (some ⟨q, 0, none⟩) ∧ U.heap.size ≤ q ∧ (d 10 = false → C6 X q Z6) ∧ (d 10 = true → VA U X n A q)
  l10 : d 10 = true → d 9 = true
section
variable {U X X' : World} {F : Nat → Value} {n : Nat} {A : St} {K : Int} {d : Nat → Bool} {s : Nat → Value}
theorem RJ.below (h : RJ U F n A K d s X) (b : Below X.heap.size X X') : RJ U F n A K d s X' where
  b := h.b.trans (b.mono h.b.size)
  f := h.f
  t5 e := (h.t5 e).below b
  t6 e := (h.t6 e).below b
  a7 e := (h.a7 e).below b
  k8 := h.k8
  q9 e := match h.q9 e with | ⟨q, e1, e2, e3, e4⟩ => ⟨q, e1, e2, fun z => (e3 z).kept (Kept.of_below (S := fun _ => False) b) id, fun z => (e4 z).below b⟩
  l10 := h.l10
theorem RJ.done {i : Nat} {v : Value} (h : RJ U F n A K d s X) (hi : i ≠ 10) (h9 : i = 9 → d 10 = false) (f : i < 5 → v = F i) (t5 : i = 5 → TU U X n A K v) (t6 : i = 6 → TU U X n A K v) (a7 : i = 7 → AG U X n A v) (k8 : i = 8 → v = .int .i64 K) (q9 : i = 9 → ∃ q, v = .pointer (some ⟨q, 0, none⟩) ∧ U.heap.size ≤ q ∧ C6 X q Z6) : RJ U F n A K (Qf.upd d i true) (Qf.upd s i v) X where
  b := h.b
  f j hj e := by
    by_cases c : j = i
    · subst c; simpa [Qf.upd] using f hj
    · simp [Qf.upd, c] at e ⊢; exact h.f j hj e
  t5 e := by
    by_cases c : (5 : Nat) = i
    · subst c; simpa [Qf.upd] using t5 rfl
    · simp [Qf.upd, c] at e ⊢; exact h.t5 e
  t6 e := by
    by_cases c : (6 : Nat) = i
    · subst c; simpa [Qf.upd] using t6 rfl
    · simp [Qf.upd, c] at e ⊢; exact h.t6 e
  a7 e := by
    by_cases c : (7 : Nat) = i
    · subst c; simpa [Qf.upd] using a7 rfl
    · simp [Qf.upd, c] at e ⊢; exact h.a7 e
  k8 e := by
    by_cases c : (8 : Nat) = i
    · subst c; simpa [Qf.upd] using k8 rfl
    · simp [Qf.upd, c] at e ⊢; exact h.k8 e
  q9 e := by
    by_cases c : (9 : Nat) = i
    · subst c
      obtain ⟨q, e1, e2, e3⟩ := q9 rfl
      have d10 := h9 rfl
      exact ⟨q, by simpa [Qf.upd] using e1, e2, fun _ => e3, fun z => by simp [Qf.upd, d10] at z⟩
    · have c10 : (10 : Nat) ≠ i := fun q => hi q.symm
      simp [Qf.upd, c, c10] at e ⊢; exact h.q9 e
  l10 e := by
    have c10 : (10 : Nat) ≠ i := fun q => hi q.symm
    by_cases c : (9 : Nat) = i
    · subst c; simp [Qf.upd]
    · simp [Qf.upd, c, c10] at e ⊢; exact h.l10 e
theorem z6_ls : Ls Z6 := ⟨none, 0, 0, rfl⟩
theorem RJ.store {q : Nat} {p0 f0 q0 : Option Addr} {c0 d0 g0 : Nat} {v : Value} (h : RJ U F n A K d s X) (e9 : s 9 = .pointer (some ⟨q, 0, none⟩)) (h9 : d 9 = true) (h10 : d 10 = false) (k : Kept (· = q) X X') (c : C6 X' q (OV p0 f0 q0 n c0 d0 g0 A.c A.f A.g)) (o1 : OwnL U.heap.size X p0 n A.P) (o2 : OwnL U.heap.size X f0 n A.F) (o3 : OwnL U.heap.size X q0 n A.S) : RJ U F n A K (Qf.upd d 10 true) (Qf.upd s 10 v) X' := by
  obtain ⟨q', e', z, hz, -⟩ := h.q9 h9
  rw [e9] at e'
  injection e' with e'
  injection e' with e'
  injection e' with e'
  subst e'
  have st : Sto X X' := ⟨q, Z6, _, hz h10, z6_ls, k, c, ls_OV _ _ _ _ _ _ _ _ _ _⟩
  exact {
    b := h.b.trans (k.below h.b.size (fun b e => by have e : b = q := e; omega))
    f := fun i hi e => by have c : i ≠ 10 := by omega
                          simp [Qf.upd, c] at e ⊢; exact h.f i hi e
    t5 := fun e => (h.t5 e).sto st
    t6 := fun e => (h.t6 e).sto st
    a7 := fun e => (h.a7 e).sto st
    k8 := fun e => h.k8 e
    q9 := fun _ => ⟨q, e9, z, nofun, fun _ => ⟨p0, f0, q0, c0, d0, g0, c, own_sto o1 st, own_sto o2 st, own_sto o3 st⟩⟩
    l10 := fun _ => h9 }
theorem RJ.new (F : Nat → Value) (n : Nat) (A : St) (K : Int) (s : Nat → Value) : RJ U F n A K (fun _ => false) s { U with drawn := U.drawn + 1 } where
  b := (Below.refl _ _).drew
  f := nofun
  t5 := nofun
  t6 := nofun
  a7 := nofun
  k8 := nofun
  q9 := nofun
  l10 := nofun
end
theorem VA.box {U X : World} {n b : Nat} {A : St} (h : VA U X n A b) : ∃ (p f q : Option Addr) (c d g : Nat), BoxV6 X b (.slice p n c) (.slice f n d) (.slice q n g) (.int .i64 A.c) (.int .i64 A.f) (.int .i64 A.g) ∧ OwnL U.heap.size X p n A.P ∧ OwnL U.heap.size X f n A.F ∧ OwnL U.heap.size X q n A.S := match h with
  | ⟨p, f, q, c, d, g, k, h1, h2, h3⟩ => ⟨p, f, q, c, d, g, ⟨k.z, k.c 0 (by omega), k.c 1 (by omega), k.c 2 (by omega), k.c 3 (by omega), k.c 4 (by omega), k.c 5 (by omega)⟩, h1, h2, h3⟩
/-- one list that grows -/
structure G1 (B : Nat) (U X : World) (vg : Value) (m : Nat) (D : Nat → Int) : Prop where
  b : Below B U X
  g : RowV B X vg m D
section
variable {B : Nat} {U X w3 : World} {vg : Value} {m : Nat} {D : Nat → Int} {z : Int}
theorem G1.push {v' : Value} (q : G1 B U X vg m D) (hB : B ≤ U.heap.size) (hz : bd z) (own : w3.ownsRow B 3 1 v' (m + 1) (ints m D ++ [.int .i64 z])) (grow : (X.alloc (.cells #[.int .i64 z] 3)).grownBy w3 vg.ownBlock) : G1 B U w3 v' (m + 1) (upI D m z) :=
  ⟨(q.b.alloc (by have := q.b.size; omega) _).grown grow (by have := q.b.size; simp; omega) (fun k hk => (own_lt q.g k hk).1), ⟨by rw [← ints_up]; exact own, bd_up q.g.2 hz⟩⟩
theorem G1.new (U : World) : G1 U.heap.size U (U.alloc (.cells #[] 3)) (.slice (some ⟨U.heap.size, 0, none⟩) 0 0) 0 (fun _ => 0) :=
  ⟨(Below.refl _ _).alloc (Nat.le_refl _) _, ⟨⟨rfl, .inr ⟨U.heap.size, 0, #[], rfl, Nat.le_refl _, heap_alloc_new U _, Nat.le_refl _, by simp [maxLen], rfl, rfl⟩⟩, fun j hj => by omega⟩⟩
end
theorem c6_newZ (w : World) : C6 (w.alloc (.cells #[.slice none 0 0, .slice none 0 0, .slice none 0 0, .int .i64 0, .int .i64 0, .int .i64 0] 30)) w.heap.size Z6 where
  c i hi := by rcases (by omega : i = 0 ∨ i = 1 ∨ i = 2 ∨ i = 3 ∨ i = 4 ∨ i = 5) with rfl | rfl | rfl | rfl | rfl | rfl <;> simp [go_sem, Z6]
  f i := by simp [go_sem]
  z := by simp
theorem ook_cnt {n n2 n3 : Nat} {P F S : Nat → Int} {c f g : Int} (h : ook n n2 n3 P F S c f g = true) : -9223372036854775808 ≤ c + 1 ∧ c + 1 ≤ 9223372036854775807 := by
  have h : OOk n n2 n3 P F S c f g := of_decide_eq_true h
  have := h.2.2.2.1
  omega
set_option maxHeartbeats 4000000 in
set_option maxRecDepth 100000 in
theorem sameOptF (p1 p2 p3 v1 v2 v3 : Option Addr) (n k1 k2 k3 h1 h2 h3 : Nat) (P F S : Nat → Int) (c f g : Int) (w : World) (x1 : Ints w.heap.size w p1 n P) (x2 : Ints w.heap.size w p2 n F) (x3 : Ints w.heap.size w p3 n S) (y1 : Ints w.heap.size w v1 n P) (y2 : Ints w.heap.size w v2 n F) (y3 : Ints w.heap.size w v3 n S) (hn : (n : Int) ≤ 1048576) :
    Calls Try.prog 12 #[.agg #[.slice p1 n k1, .slice p2 n k2, .slice p3 n k3, .int .i64 c, .int .i64 f, .int .i64 g], .agg #[.slice v1 n h1, .slice v2 n h2, .slice v3 n h3, .int .i64 c, .int .i64 f, .int .i64 g]] w fun e w' => e = .returned (.bool true) ∧ Below w.heap.size w w' := by
  obtain ⟨W1, hW1⟩ : ∃ W, w.alloc (.cells #[.slice p1 n k1, .slice p2 n k2, .slice p3 n k3, .int .i64 c, .int .i64 f, .int .i64 g] 30) = W := ⟨_, rfl⟩
  obtain ⟨W2, hW2⟩ : ∃ W, W1.alloc (.cells #[.slice v1 n h1, .slice v2 n h2, .slice v3 n h3, .int .i64 c, .int .i64 f, .int .i64 g] 30) = W := ⟨_, rfl⟩
  have b1 : Below w.heap.size w W1 := hW1 ▸ (Below.refl _ _).alloc (Nat.le_refl _) _
  have b2 : Below W1.heap.size W1 W2 := hW2 ▸ (Below.refl _ _).alloc (Nat.le_refl _) _
  have z1 : W1.heap.size = w.heap.size + 1 := by rw [← hW1]; simp
  have BB := Base.hide (b1.trans (b2.mono b1.size))
  have KA := Base.hide ((show BoxV6 W1 w.heap.size (.slice p1 n k1) (.slice p2 n k2) (.slice p3 n k3) (.int .i64 c) (.int .i64 f) (.int .i64 g) from hW1 ▸ boxV6_new _ _ _ _ _ _ _ _).below b2)
  have KB := Base.hide (show BoxV6 W2 W1.heap.size (.slice v1 n h1) (.slice v2 n h2) (.slice v3 n h3) (.int .i64 c) (.int .i64 f) (.int .i64 g) from hW2 ▸ boxV6_new _ _ _ _ _ _ _ _)
  have X1 := Base.hide ((x1.below BB.out).mono BB.out.size)
  have X2 := Base.hide ((x2.below BB.out).mono BB.out.size)
  have X3 := Base.hide ((x3.below BB.out).mono BB.out.size)
  have Y1 := Base.hide ((y1.below BB.out).mono BB.out.size)
  have Y2 := Base.hide ((y2.below BB.out).mono BB.out.size)
  have Y3 := Base.hide ((y3.below BB.out).mono BB.out.size)
  have HN := Base.hide hn
  clear x1 x2 x3 y1 y2 y3 hn b1 b2 z1
  go_enter Try.func12, Try.ntmps12
  obtain ⟨-, u0, u1, u2, u3, u4, u5⟩ := KA.out
  obtain ⟨-, t0, t1, t2, t3, t4, t5⟩ := KB.out
  go_wp2_with fail
  refine (sameIntsE _ p1 v1 n k1 h1 P _ X1.out Y1.out HN.out).mono ?_; rintro e Q1 ⟨rfl, bb⟩
  clear hW1 hW2
  clear u0 u1 u2 u3 u4 u5 t0 t1 t2 t3 t4 t5
  replace KA := Base.hide (KA.out.below bb)
  replace KB := Base.hide (KB.out.below bb)
  replace X2 := Base.hide ((X2.out.below bb).mono bb.size)
  replace X3 := Base.hide ((X3.out.below bb).mono bb.size)
  replace Y2 := Base.hide ((Y2.out.below bb).mono bb.size)
  replace Y3 := Base.hide ((Y3.out.below bb).mono bb.size)
  replace BB := Base.hide (BB.out.trans (bb.mono BB.out.size))
  clear bb
  obtain ⟨-, u0, u1, u2, u3, u4, u5⟩ := KA.out
  obtain ⟨-, t0, t1, t2, t3, t4, t5⟩ := KB.out
  go_wp2_with fail
  refine (sameIntsE _ p2 v2 n k2 h2 F _ X2.out Y2.out HN.out).mono ?_; rintro e Q2 ⟨rfl, bb⟩
  clear u0 u1 u2 u3 u4 u5 t0 t1 t2 t3 t4 t5
  replace KA := Base.hide (KA.out.below bb)
  replace KB := Base.hide (KB.out.below bb)
  replace X2 := Base.hide ((X2.out.below bb).mono bb.size)
  replace X3 := Base.hide ((X3.out.below bb).mono bb.size)
  replace Y2 := Base.hide ((Y2.out.below bb).mono bb.size)
  replace Y3 := Base.hide ((Y3.out.below bb).mono bb.size)
  replace BB := Base.hide (BB.out.trans (bb.mono BB.out.size))
  clear bb
  obtain ⟨-, u0, u1, u2, u3, u4, u5⟩ := KA.out
  obtain ⟨-, t0, t1, t2, t3, t4, t5⟩ := KB.out
  go_wp2_with fail
  refine (sameIntsE _ p3 v3 n k3 h3 S _ X3.out Y3.out HN.out).mono ?_; rintro e Q3 ⟨rfl, bb⟩
  clear u0 u1 u2 u3 u4 u5 t0 t1 t2 t3 t4 t5
  replace KA := Base.hide (KA.out.below bb)
  replace KB := Base.hide (KB.out.below bb)
  replace X2 := Base.hide ((X2.out.below bb).mono bb.size)
  replace X3 := Base.hide ((X3.out.below bb).mono bb.size)
  replace Y2 := Base.hide ((Y2.out.below bb).mono bb.size)
  replace Y3 := Base.hide ((Y3.out.below bb).mono bb.size)
  replace BB := Base.hide (BB.out.trans (bb.mono BB.out.size))
  clear bb
  obtain ⟨-, u0, u1, u2, u3, u4, u5⟩ := KA.out
  obtain ⟨-, t0, t1, t2, t3, t4, t5⟩ := KB.out
  go_wp2_with fail
  go_ret
  exact ⟨rfl, BB.out⟩
end Vo
end Go.Proofs.Ytflbhlepmjiejaa
