/- Two floats taken apart in one statement, in whatever order: the program's way into FLess, FMul, FDiv, FAdd. -/
import Derived.Test.YtmghmcnihiepiaaDoorFlV
import Derived.Lib.SmallJoins
import Derived.Deep.RegionHeld3
import Derived.Deep.DeepCutAuto
namespace Go.Proofs.YtmghmcnihiepiaaDoor
namespace FlV
open Go.ChangeShapes Go.WideShapes Go.ChangeAt Go.RowKit Go.Joins
open Flo (hide ret_int ret_bool)
set_option linter.unusedVariables false
set_option linter.unusedSimpArgs false

theorem drew_old {w : World} {a : Addr} {v : Value} (h : w.cell? a = some v) : w.drew.cell? a = some v := h
theorem alloc_old' {w : World} {o : Obj} {a : Addr} {v : Value} (h : w.cell? a = some v) : (w.alloc o).cell? a = some v := by
  rw [World.cell?_of_block (w := w) (Below.heap_alloc w o a.block (block_lt_of_cell h))]; exact h
theorem set_old {w : World} {p a : Addr} {u v : Value} (hp : a.block ≠ p.block) (h : w.cell? a = some v) : (w.setCell p u).cell? a = some v := by
  rw [World.cell?_of_block (w := w) (Below.heap_setCell w p u a.block hp)]; exact h
theorem below_old {w w' : World} {a : Addr} {v : Value} (b : Below w.heap.size w w') (h : w.cell? a = some v) : w'.cell? a = some v := (b.cell (block_lt_of_cell h)).trans h
theorem ne_then (a b : Nat) {G : Prop} (hk : a ≠ b) (h : (a = b) = False → (b = a) = False → G) : G := h (eq_false hk) (eq_false (Ne.symm hk))
theorem keep_then {w w' : World} (b : Below w.heap.size w w') (k : Nat) {G : Prop} (hk : k < w.heap.size) (h : (∀ i, w'.cell? ⟨k, i, none⟩ = w.cell? ⟨k, i, none⟩) → (∀ i, w'.frozen? ⟨k, i, none⟩ = w.frozen? ⟨k, i, none⟩) →
    (∀ o i, (w'.alloc o).cell? ⟨k, i, none⟩ = w.cell? ⟨k, i, none⟩) → (∀ o i, (w'.alloc o).frozen? ⟨k, i, none⟩ = w.frozen? ⟨k, i, none⟩) →
    (∀ o o' i, ((w'.alloc o).alloc o').cell? ⟨k, i, none⟩ = w.cell? ⟨k, i, none⟩) → (∀ o o' i, ((w'.alloc o).alloc o').frozen? ⟨k, i, none⟩ = w.frozen? ⟨k, i, none⟩) → G) : G := by
  have hk' : k < w'.heap.size := Nat.lt_of_lt_of_le hk b.size
  have e1 : ∀ i, w'.cell? ⟨k, i, none⟩ = w.cell? ⟨k, i, none⟩ := fun i => b.cell hk
  have e2 : ∀ i, w'.frozen? ⟨k, i, none⟩ = w.frozen? ⟨k, i, none⟩ := fun i => b.frozen hk
  have e3 : ∀ o i, (w'.alloc o).cell? ⟨k, i, none⟩ = w.cell? ⟨k, i, none⟩ := fun o i => (World.cell?_alloc_lt w' o ⟨k, i, none⟩ hk').trans (e1 i)
  have e4 : ∀ o i, (w'.alloc o).frozen? ⟨k, i, none⟩ = w.frozen? ⟨k, i, none⟩ := fun o i => (World.frozen?_alloc_old w' o ⟨k, i, none⟩ (Nat.ne_of_lt hk')).trans (e2 i)
  have hk2 : ∀ o, k < (w'.alloc o).heap.size := fun o => by rw [World.size_alloc]; omega
  exact h e1 e2 e3 e4 (fun o o' i => (World.cell?_alloc_lt (w'.alloc o) o' ⟨k, i, none⟩ (hk2 o)).trans (e3 o i)) (fun o o' i => (World.frozen?_alloc_old (w'.alloc o) o' ⟨k, i, none⟩ (Nat.ne_of_lt (hk2 o))).trans (e4 o i))
/-- two structures of four numbers, each in a variable of its own -/
def Pair (w wx : World) (p q : Value) (k1 s1 x1 y1 k2 s2 x2 y2 : Int) : Prop :=
  ∃ P Q : Nat, p = .pointer (some ⟨P, 0, none⟩) ∧ q = .pointer (some ⟨Q, 0, none⟩) ∧
    (wx.cell? ⟨P, 0, none⟩ = some (.int .u8 k1) ∧ wx.cell? ⟨P, 1, none⟩ = some (.int .u8 s1) ∧ wx.cell? ⟨P, 2, none⟩ = some (.int .i16 x1) ∧ wx.cell? ⟨P, 3, none⟩ = some (.int .u32 y1)) ∧
    (wx.cell? ⟨Q, 0, none⟩ = some (.int .u8 k2) ∧ wx.cell? ⟨Q, 1, none⟩ = some (.int .u8 s2) ∧ wx.cell? ⟨Q, 2, none⟩ = some (.int .i16 x2) ∧ wx.cell? ⟨Q, 3, none⟩ = some (.int .u32 y2)) ∧ Below w.heap.size w wx
theorem bl_drew {a w : World} (h : Below a.heap.size a w) : Below a.heap.size a w.drew := h.drew
theorem bl_alloc {a w : World} {o : Obj} (h : Below a.heap.size a w) : Below a.heap.size a (w.alloc o) := h.alloc h.size o
theorem bl_set {a w : World} {p : Addr} {u : Value} (hp : a.heap.size ≤ p.block) (h : Below a.heap.size a w) : Below a.heap.size a (w.setCell p u) := h.setCell hp u
theorem bl_below {a w w' : World} (b : Below w.heap.size w w') (h : Below a.heap.size a w) : Below a.heap.size a w' := h.trans (b.mono h.size)

/-- what a float's parts are, whatever it is -/
def Cls (a k s x y : Int) : Prop := (k = 3 ∧ FlP.Bad a) ∨ (k = 2 ∧ FlP.Inf a s) ∨ (k = 0 ∧ x = -149 ∧ y = 0 ∧ FlP.Fin a s 0 (-149)) ∨ (k = 1 ∧ y ≠ 0 ∧ FlP.Fin a s y x)
theorem splitAny (a : Int) : ∃ k s x y, Cls a k s x y ∧ ∀ w, Calls Tryd.prog 24 #[.agg #[.int .u8 8, .int .u8 23], .int .i64 a] w fun e w' => e = .returned (.agg #[.int .u8 k, .int .u8 s, .int .i16 x, .int .u32 y]) ∧ Below w.heap.size w w' := by
  rcases FlP.kinds a with h | ⟨s, h⟩ | ⟨s, m, e, h⟩
  · have h' := h
    unfold FlP.Bad at h'
    by_cases c : a < 0 ∨ 4294967296 ≤ a
    · exact ⟨3, _, _, _, .inl ⟨rfl, h⟩, fun w => FlP.splitBigS a w c⟩
    · exact ⟨3, _, _, _, .inl ⟨rfl, h⟩, fun w => FlP.splitNanS a (a / 2147483648) (a % 8388608) 255 w rfl rfl (by omega) (by omega) (by omega) rfl (by omega)⟩
  · exact ⟨2, s, _, _, .inr (.inl ⟨rfl, h⟩), fun w => splitInf a s w h⟩
  · by_cases m0 : m = 0
    · subst m0
      have e1 : e = -149 := by unfold FlP.Fin at h; omega
      subst e1
      exact ⟨0, s, _, _, .inr (.inr (.inl ⟨rfl, rfl, rfl, h⟩)), fun w => splitZero a s (-149) w h⟩
    · exact ⟨1, s, e, m, .inr (.inr (.inr ⟨rfl, m0, h⟩)), fun w => splitFin a s m e w h m0⟩
theorem Cls.num {a k s x y : Int} (h : Cls a k s x y) : (k = 3 ∧ FlP.Bad a) ∨ ((k == 3) = false ∧ Num a s) := by
  rcases h with ⟨rfl, h⟩ | ⟨rfl, h⟩ | ⟨rfl, _, _, h⟩ | ⟨rfl, _, h⟩
  · exact .inl ⟨rfl, h⟩
  · exact .inr ⟨by decide, .inl h⟩
  · exact .inr ⟨by decide, .inr ⟨_, _, h⟩⟩
  · exact .inr ⟨by decide, .inr ⟨_, _, h⟩⟩

end FlV
end Go.Proofs.YtmghmcnihiepiaaDoor
