/- Twice and Meet, the program's side: ranges over the places. -/
import Derived.Test.YtejfodkobfdelaaVx
import Derived.Test.YtejfodkobfdelaaVy
import Derived.Shelf.Abstract
namespace Go.Proofs.Ytejfodkobfdelaa
namespace Vo
open Go.ChangeShapes Go.WideShapes Go.ChangeAt Go.RowKit Go.Joins
open Vl Vp Vr
set_option linter.unusedVariables false
attribute [local go_sem] Oper.semAt_some

theorem cnt_pos {r s : Nat} {D S : Nat → Int} {o n : Int} {k : Nat} (h : k < cnt r s D S o n) : VOk r s D S o n := by
  unfold cnt at h
  by_cases c : vok r s D S o n = true
  · exact vok_iff.1 c
  · rw [if_neg c] at h; omega
/-- a world by what is known of it -/
theorem abs_wp {P : Program} {c : Code} {Q : Exit → Act → World → Prop} {a : Act} {w0 : World} (F : World → Prop) (h0 : F w0) (h : ∀ W, F W → c.wp P Q a W) : c.wp P Q a w0 := h w0 h0
theorem below_cell {B : Nat} {A W : World} {p : Addr} {v : Value} (hb : Below B A W) (hp : p.block < B) (h : A.cell? p = some v) : W.cell? p = some v := (hb.cell hp).trans h
theorem below_mark {B : Nat} {A W : World} {p : Addr} {v : Bool} (hb : Below B A W) (hp : p.block < B) (h : A.frozen? p = v) : W.frozen? p = v := (hb.frozen hp).trans h
theorem put_cell {W : World} {D : Nat} {o : Obj} {p : Addr} {v : Value} (h : p.block ≠ D) (hc : W.cell? p = some v) : (W.putObj D o).cell? p = some v := (World.cell?_of_block (w := W) (World.putObj_heap_other h)).trans hc
theorem set_obj {W : World} {p : Addr} {u : Value} {D : Nat} {o : Option Obj} (h : D ≠ p.block) (hD : W.heap[D]? = o) : (W.setCell p u).heap[D]? = o := (Below.heap_setCell W p u D h).trans hD
theorem set_other {W : World} {p q : Addr} {u v : Value} (h : q.block ≠ p.block) (hc : W.cell? q = some v) : (W.setCell p u).cell? q = some v := (World.cell?_of_block (w := W) (Below.heap_setCell W p u q.block h)).trans hc
theorem eachPlaceF (v : Value) (v0 v1 v2 v3 : Value) (w : World) (hv : v = .agg #[v0, v1, v2, v3]) :
    Calls Try.prog 98 #[v] w fun e w' => e = .returned (.func (.func 102) #[] #[.pointer (some ⟨w.heap.size, 0, none⟩)]) ∧ w' = w.alloc (.cells #[v0, v1, v2, v3] 26) := by
  subst hv
  go_enter Try.func98, Try.ntmps98
  go_wp2_with fail
  go_ret
  exact ⟨rfl, rfl⟩
end Vo
end Go.Proofs.Ytejfodkobfdelaa
