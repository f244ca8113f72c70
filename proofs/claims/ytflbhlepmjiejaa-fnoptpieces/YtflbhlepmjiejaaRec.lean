/- The model's step under way. -/
import Derived.Test.YtflbhlepmjiejaaRdc
namespace Go.Proofs.Ytflbhlepmjiejaa
namespace Vo
open Go.ChangeShapes Go.WideShapes Go.ChangeAt Go.RowKit Go.Joins Go.Sort
open Vl
set_option linter.unusedVariables false
/-- the new state lies in block v, its lists are p, f, q; what lay in X2 lies as it lay -/
structure SM (X2 X : World) (v n : Nat) (V : Nat → Value) (p f q : Option Addr) (PP FF SS : Nat → Int) : Prop where
  k : Kept (fun b => X2.heap.size ≤ b) X2 X
  cv : C6 X v V
  hv : X2.heap.size ≤ v
  P : OwnL X2.heap.size X p n PP
  F : OwnL X2.heap.size X f n FF
  S : OwnL X2.heap.size X q n SS
  uP : ∀ b, Blk p n b → b ≠ v
  uF : ∀ b, Blk f n b → b ≠ v
  uS : ∀ b, Blk q n b → b ≠ v
  pf : ∀ b b', Blk p n b → Blk f n b' → b < b'
  fs : ∀ b b', Blk f n b → Blk q n b' → b < b'
theorem bhd_lt {a b : Option Addr} {n : Nat} (h : Bhd a b n) : ∀ k k', Blk a n k → Blk b n k' → k < k' := by
  obtain ⟨N, h1, h2⟩ := h
  intro k k' h3 h4
  have := h1 k h3
  have := h2 k' h4
  omega
section
variable {X2 X X' : World} {v n : Nat} {V : Nat → Value} {p f q : Option Addr} {PP FF SS : Nat → Int}
theorem SM.below (h : SM X2 X v n V p f q PP FF SS) (b : Below X.heap.size X X') : SM X2 X' v n V p f q PP FF SS :=
  ⟨h.k.trans (Kept.of_below b), h.cv.kept (Kept.of_below (S := fun _ => False) b) id, h.hv, h.P.below b, h.F.below b, h.S.below b, h.uP, h.uF, h.uS, h.pf, h.fs⟩
theorem SM.cell (h : SM X2 X v n V p f q PP FF SS) {b o : Nat} {x : Value} (c : X2.cell? ⟨b, o, none⟩ = some x) : X.cell? ⟨b, o, none⟩ = some x := by
  have lt := World.block_lt_of_cell? _ _ c
  exact (World.cell?_of_block (w := X2) (a := ⟨b, o, none⟩) (h.k.block b lt (fun e => by have : X2.heap.size ≤ b := e; have : b < X2.heap.size := lt; omega))).trans c
theorem SM.ints (h : SM X2 X v n V p f q PP FF SS) {B r : Nat} {a : Option Addr} {D : Nat → Int} (i : Ints B X2 a r D) (hB : B ≤ X2.heap.size) : Ints B X a r D :=
  i.kept hB h.k (fun b hb e => by have : X2.heap.size ≤ b := e; omega)
theorem SM.size (h : SM X2 X v n V p f q PP FF SS) : X2.heap.size ≤ X.heap.size := h.k.size
theorem SM.setV (h : SM X2 X v n V p f q PP FF SS) (k : Nat) (x : Value) (hk : k < 6) : SM X2 (X.setCell ⟨v, k, none⟩ x) v n (upv V k x) p f q PP FF SS := by
  have kk : Kept (· = v) X (X.setCell ⟨v, k, none⟩ x) := Kept.setCell X ⟨v, k, none⟩ x
  exact ⟨h.k.trans (kk.mono fun b _ (e : b = v) => by show X2.heap.size ≤ b; have := h.hv; omega), h.cv.set k x hk, h.hv, h.P.kept kk (fun b hb e => h.uP b hb e), h.F.kept kk (fun b hb e => h.uF b hb e), h.S.kept kk (fun b hb e => h.uS b hb e), h.uP, h.uF, h.uS, h.pf, h.fs⟩
theorem SM.sameV (h : SM X2 X v n V p f q PP FF SS) {V' : Nat → Value} (e : ∀ i, i < 6 → V i = V' i) : SM X2 X v n V' p f q PP FF SS :=
  ⟨h.k, h.cv.same e, h.hv, h.P, h.F, h.S, h.uP, h.uF, h.uS, h.pf, h.fs⟩
theorem SM.same (h : SM X2 X v n V p f q PP FF SS) {A B C : Nat → Int} (e1 : ∀ i, i < n → A i = PP i) (e2 : ∀ i, i < n → B i = FF i) (e3 : ∀ i, i < n → C i = SS i) : SM X2 X v n V p f q A B C :=
  ⟨h.k, h.cv, h.hv, h.P.same e1, h.F.same e2, h.S.same e3, h.uP, h.uF, h.uS, h.pf, h.fs⟩
/-- number i turned -/
def upn (D : Nat → Int) (i : Nat) (x : Int) : Nat → Int := fun t => if t = i then x else D t
theorem own_put {B n : Nat} {W : World} {g i : Nat} {D : Nat → Int} {x : Int} (h : OwnL B W (some ⟨g, 0, none⟩) n D) (hi : i < n) (hx : bd x) : OwnL B (W.setCell ⟨g, i, none⟩ (.int .i64 x)) (some ⟨g, 0, none⟩) n (upn D i x) := by
  rcases h with h | ⟨g', e, hg, hr⟩
  · omega
  · cases e
    exact .inr ⟨g, rfl, hg, hr.set i x hx⟩
theorem blk_at {n g : Nat} (h : n ≠ 0) : Blk (some ⟨g, 0, none⟩) n g := ⟨h, _, rfl, rfl⟩
theorem blk_is {n g b : Nat} (h : Blk (some ⟨g, 0, none⟩) n b) : b = g := by obtain ⟨_, ad, e, rfl⟩ := h; cases e; rfl
theorem SM.setP0 {g i : Nat} {x : Int} (h : SM X2 X v n V (some ⟨g, 0, none⟩) f q PP FF SS) (hi : i < n) (hx : bd x) : SM X2 (X.setCell ⟨g, i, none⟩ (.int .i64 x)) v n V (some ⟨g, 0, none⟩) f q (upn PP i x) FF SS := by
  have kk : Kept (· = g) X (X.setCell ⟨g, i, none⟩ (.int .i64 x)) := Kept.setCell X ⟨g, i, none⟩ _
  have bg := blk_at (g := g) (show n ≠ 0 by omega)
  exact ⟨h.k.trans (kk.mono fun b _ (e : b = g) => by subst e; exact (h.P.blk bg).1), h.cv.kept kk (fun e => h.uP g bg e.symm), h.hv, own_put h.P hi hx, h.F.kept kk (fun b hb (e : b = g) => by have := h.pf g b bg hb; omega), h.S.kept kk (fun b hb (e : b = g) => by
    rcases h.F with h0 | ⟨g2, e2, _, _⟩
    · omega
    · have q1 := h.pf g g2 bg (e2 ▸ blk_at (by omega)); have q2 := h.fs g2 b (e2 ▸ blk_at (by omega)) hb; omega), h.uP, h.uF, h.uS, h.pf, h.fs⟩
theorem SM.setF0 {g i : Nat} {x : Int} (h : SM X2 X v n V p (some ⟨g, 0, none⟩) q PP FF SS) (hi : i < n) (hx : bd x) : SM X2 (X.setCell ⟨g, i, none⟩ (.int .i64 x)) v n V p (some ⟨g, 0, none⟩) q PP (upn FF i x) SS := by
  have kk : Kept (· = g) X (X.setCell ⟨g, i, none⟩ (.int .i64 x)) := Kept.setCell X ⟨g, i, none⟩ _
  have bg := blk_at (g := g) (show n ≠ 0 by omega)
  exact ⟨h.k.trans (kk.mono fun b _ (e : b = g) => by subst e; exact (h.F.blk bg).1), h.cv.kept kk (fun e => h.uF g bg e.symm), h.hv, h.P.kept kk (fun b hb (e : b = g) => by have := h.pf b g hb bg; omega), own_put h.F hi hx, h.S.kept kk (fun b hb (e : b = g) => by have := h.fs g b bg hb; omega), h.uP, h.uF, h.uS, h.pf, h.fs⟩
theorem SM.setS0 {g i : Nat} {x : Int} (h : SM X2 X v n V p f (some ⟨g, 0, none⟩) PP FF SS) (hi : i < n) (hx : bd x) : SM X2 (X.setCell ⟨g, i, none⟩ (.int .i64 x)) v n V p f (some ⟨g, 0, none⟩) PP FF (upn SS i x) := by
  have kk : Kept (· = g) X (X.setCell ⟨g, i, none⟩ (.int .i64 x)) := Kept.setCell X ⟨g, i, none⟩ _
  have bg := blk_at (g := g) (show n ≠ 0 by omega)
  exact ⟨h.k.trans (kk.mono fun b _ (e : b = g) => by subst e; exact (h.S.blk bg).1), h.cv.kept kk (fun e => h.uS g bg e.symm), h.hv, h.P.kept kk (fun b hb (e : b = g) => by
    rcases h.F with h0 | ⟨g2, e2, _, _⟩
    · omega
    · have q1 := h.pf b g2 hb (e2 ▸ blk_at (by omega)); have q2 := h.fs g2 g (e2 ▸ blk_at (by omega)) bg; omega), h.F.kept kk (fun b hb (e : b = g) => by have := h.fs b g hb bg; omega), own_put h.S hi hx, h.uP, h.uF, h.uS, h.pf, h.fs⟩
theorem SM.setP {g i : Nat} {x : Int} (h : SM X2 X v n V p f q PP FF SS) (hp : p = some ⟨g, 0, none⟩) (hi : i < n) (hx : bd x) : SM X2 (X.setCell ⟨g, i, none⟩ (.int .i64 x)) v n V p f q (upn PP i x) FF SS := by subst hp; exact h.setP0 hi hx
theorem SM.setF {g i : Nat} {x : Int} (h : SM X2 X v n V p f q PP FF SS) (hp : f = some ⟨g, 0, none⟩) (hi : i < n) (hx : bd x) : SM X2 (X.setCell ⟨g, i, none⟩ (.int .i64 x)) v n V p f q PP (upn FF i x) SS := by subst hp; exact h.setF0 hi hx
theorem SM.setS {g i : Nat} {x : Int} (h : SM X2 X v n V p f q PP FF SS) (hp : q = some ⟨g, 0, none⟩) (hi : i < n) (hx : bd x) : SM X2 (X.setCell ⟨g, i, none⟩ (.int .i64 x)) v n V p f q PP FF (upn SS i x) := by subst hp; exact h.setS0 hi hx
end
theorem ints_at {B n k : Nat} {W : World} {a : Option Addr} {D : Nat → Int} (h : Ints B W a n D) (hk : k < n) : ∃ b o, a = some ⟨b, o, none⟩ ∧ W.cell? ⟨b, o + k, none⟩ = some (.int .i64 (D k)) := by
  rcases h with h | ⟨b, o, e, _, hc⟩
  · omega
  · exact ⟨b, o, e, (hc k hk).1⟩
theorem own_at {B n k : Nat} {W : World} {p : Option Addr} {D : Nat → Int} (h : OwnL B W p n D) (hk : k < n) : ∃ g, p = some ⟨g, 0, none⟩ := by
  rcases h with h | ⟨g, e, _, _⟩
  · omega
  · exact ⟨g, e⟩
theorem own_cell {B n k g : Nat} {W : World} {p : Option Addr} {D : Nat → Int} (h : OwnL B W p n D) (hp : p = some ⟨g, 0, none⟩) (hk : k < n) : W.cell? ⟨g, k, none⟩ = some (.int .i64 (D k)) ∧ W.frozen? ⟨g, k, none⟩ = false := by
  rcases h with h | ⟨g', e, _, hr⟩
  · omega
  · rw [hp] at e; cases e; exact ⟨(hr k hk).1, (hr k hk).2.1⟩
theorem blk_of {n g : Nat} {p : Option Addr} (hp : p = some ⟨g, 0, none⟩) (h : n ≠ 0) : Blk p n g := ⟨h, _, hp, rfl⟩
end Vo
end Go.Proofs.Ytflbhlepmjiejaa
