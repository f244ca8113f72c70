/- Windows of the model. -/
import Derived.Test.YtejfodkobfdelaaVas
namespace Go.Proofs.Ytejfodkobfdelaa
namespace Vo
open Go.ChangeShapes Go.WideShapes Go.ChangeAt Go.RowKit Go.Joins
open Vl Vp Vr
set_option linter.unusedVariables false
set_option linter.unusedSimpArgs false

theorem kept_row {v : Value} {w w1 : World} {x : Int} (hg : (w.alloc (.cells #[.int .i64 x] 3)).grownBy w1 v.ownBlock) : Kept (fun k => v.ownBlock = some k) w w1 :=
  (Kept.of_below ((Below.refl _ w).alloc (Nat.le_refl _) _)).trans ⟨hg.os, hg.tape, hg.output, hg.size, fun j hj hn => hg.block j hj (fun e => hn e.symm)⟩
theorem WS.growA {W : World} {C P : Nat} {A : Nat → Prop} {va vb v' : Value} {r s : Nat} {D S : Nat → Int} {o n x : Int} {X w1 : World} (h : WS W C P A va vb r s D S o n X) (hx : bd x) (hown : w1.ownsRow C 3 1 v' (r + 1) (ints r D ++ [.int .i64 x]))
    (hg : (X.alloc (.cells #[.int .i64 x] 3)).grownBy w1 va.ownBlock) (hat : v'.ownBlock = va.ownBlock ∨ v'.ownBlock = some (X.alloc (.cells #[.int .i64 x] 3)).heap.size) : WS W C P A v' vb (r + 1) s (upd D r x) S o n (w1.setCell ⟨P, 0, none⟩ v') := by
  have np : ¬ va.ownBlock = some P := fun q => h.pb.np P (.inl q) rfl
  obtain ⟨q1, q2, q3⟩ := grow_one 0 h.pb.ra hx h.pb.lt np hown hg hat v'
  have K1 := kept_row hg
  have sz := h.sz
  have lt := h.pb.lt
  have nn : ¬ (W.heap.size + 1 = P ∨ va.ownBlock = some (W.heap.size + 1)) := by
    rintro (q | q)
    · exact h.nP q.symm
    · exact h.nr _ (.inl q) rfl
  refine ⟨⟨box_set0 (h.pb.box.kept K1 lt np) _, (h.pb.free.kept K1 lt np).set _ _, q1, h.pb.rb.kept q2 (fun k q => ?_), fun k a b => ?_, fun k a => ?_, Nat.lt_of_lt_of_le lt q2.size, Nat.le_trans h.pb.hB q2.size⟩, h.rbox.kept q2 sz nn, h.rfree.kept q2 sz nn, fun k a => ?_, h.lP, h.nP, Nat.lt_of_lt_of_le sz q2.size, Kept.then h.kept q2 (fun i a => ?_), fun k a => ?_⟩
  · rintro (e | e)
    · exact h.pb.np k (.inr q) e
    · exact h.pb.ne k e q
  · rcases q3 k a with e | e
    · exact h.pb.ne k e b
    · have := (h.pb.rb.lt b).2; omega
  · rcases a with a | a
    · rcases q3 k a with e | e
      · exact h.pb.np k (.inl e)
      · omega
    · exact h.pb.np k (.inr a)
  · rcases a with a | a
    · rcases q3 k a with e | e
      · exact h.nr k (.inl e)
      · omega
    · exact h.nr k (.inr a)
  · rcases a with a | a
    · exact .inl (by rw [a]; exact h.lP)
    · rcases h.wA i (.inl a) with e | e
      · exact .inr e
      · exact .inl e
  · rcases a with a | a
    · rcases q3 k a with e | e
      · exact h.wA k (.inl e)
      · exact .inr (by omega)
    · exact h.wA k (.inr a)
theorem WS.growB {W : World} {C P : Nat} {A : Nat → Prop} {va vb v' : Value} {r s : Nat} {D S : Nat → Int} {o n x : Int} {X w1 : World} (h : WS W C P A va vb r s D S o n X) (hx : bd x) (hown : w1.ownsRow C 3 1 v' (s + 1) (ints s S ++ [.int .i64 x]))
    (hg : (X.alloc (.cells #[.int .i64 x] 3)).grownBy w1 vb.ownBlock) (hat : v'.ownBlock = vb.ownBlock ∨ v'.ownBlock = some (X.alloc (.cells #[.int .i64 x] 3)).heap.size) : WS W C P A va v' r (s + 1) D (upd S s x) o n (w1.setCell ⟨P, 1, none⟩ v') := by
  have np : ¬ vb.ownBlock = some P := fun q => h.pb.np P (.inr q) rfl
  obtain ⟨q1, q2, q3⟩ := grow_one 1 h.pb.rb hx h.pb.lt np hown hg hat v'
  have K1 := kept_row hg
  have sz := h.sz
  have lt := h.pb.lt
  have nn : ¬ (W.heap.size + 1 = P ∨ vb.ownBlock = some (W.heap.size + 1)) := by
    rintro (q | q)
    · exact h.nP q.symm
    · exact h.nr _ (.inr q) rfl
  refine ⟨⟨box_set1 (h.pb.box.kept K1 lt np) _, (h.pb.free.kept K1 lt np).set _ _, h.pb.ra.kept q2 (fun k q => ?_), q1, fun k a b => ?_, fun k a => ?_, Nat.lt_of_lt_of_le lt q2.size, Nat.le_trans h.pb.hB q2.size⟩, h.rbox.kept q2 sz nn, h.rfree.kept q2 sz nn, fun k a => ?_, h.lP, h.nP, Nat.lt_of_lt_of_le sz q2.size, Kept.then h.kept q2 (fun i a => ?_), fun k a => ?_⟩
  · rintro (e | e)
    · exact h.pb.np k (.inl q) e
    · exact h.pb.ne k q e
  · rcases q3 k b with e | e
    · exact h.pb.ne k a e
    · have := (h.pb.ra.lt a).2; omega
  · rcases a with a | a
    · exact h.pb.np k (.inl a)
    · rcases q3 k a with e | e
      · exact h.pb.np k (.inr e)
      · omega
  · rcases a with a | a
    · exact h.nr k (.inl a)
    · rcases q3 k a with e | e
      · exact h.nr k (.inr e)
      · omega
  · rcases a with a | a
    · exact .inl (by rw [a]; exact h.lP)
    · rcases h.wA i (.inr a) with e | e
      · exact .inr e
      · exact .inl e
  · rcases a with a | a
    · exact h.wA k (.inl a)
    · rcases q3 k a with e | e
      · exact h.wA k (.inr e)
      · exact .inr (by omega)
theorem WS.own {W : World} {C P : Nat} {A : Nat → Prop} {a b : Option Addr} {r s c d : Nat} {D S : Nat → Int} {o n : Int} {X : World} (h : WS W C P A (.slice a r c) (.slice b s d) r s D S o n X) : VOwn C X a b r s D S := by
  obtain ⟨_, _, ea, oa⟩ := h.pb.ra.own
  obtain ⟨_, _, eb, ob⟩ := h.pb.rb.own
  injection ea with ea1 _ _
  injection eb with eb1 _ _
  subst ea1 eb1
  refine ⟨oa, ob, fun k q1 q2 => ?_⟩
  have q3 : (Value.slice a r c).ownBlock = some k := by obtain ⟨_, ad', e', e''⟩ := q1; rw [e']; exact congrArg some e''
  have q4 : (Value.slice b s d).ownBlock = some k := by obtain ⟨_, ad', e', e''⟩ := q2; rw [e']; exact congrArg some e''
  exact h.pb.ne k q3 q4
theorem WS.cellA {W : World} {C P : Nat} {A : Nat → Prop} {vb : Value} {g r s c k : Nat} {D S : Nat → Int} {o n : Int} {X : World} (h : WS W C P A (.slice (some ⟨g, 0, none⟩) r c) vb r s D S o n X) (hk : k < r) : X.cell? ⟨g, k, none⟩ = some (.int .i64 (D k)) ∧ X.frozen? ⟨g, k, none⟩ = false := by
  obtain ⟨_, _, ea, oa⟩ := h.pb.ra.own
  injection ea with ea1 _ _
  rcases oa with h0 | ⟨g', e, _, rw1⟩
  · omega
  · rw [← ea1] at e
    injection e with e
    injection e with e
    subst e
    exact ⟨(rw1 k hk).1, (rw1 k hk).2.1⟩
theorem WS.cellB {W : World} {C P : Nat} {A : Nat → Prop} {va : Value} {g r s c k : Nat} {D S : Nat → Int} {o n : Int} {X : World} (h : WS W C P A va (.slice (some ⟨g, 0, none⟩) s c) r s D S o n X) (hk : k < s) : X.cell? ⟨g, k, none⟩ = some (.int .i64 (S k)) ∧ X.frozen? ⟨g, k, none⟩ = false := by
  obtain ⟨_, _, ea, oa⟩ := h.pb.rb.own
  injection ea with ea1 _ _
  rcases oa with h0 | ⟨g', e, _, rw1⟩
  · omega
  · rw [← ea1] at e
    injection e with e
    injection e with e
    subst e
    exact ⟨(rw1 k hk).1, (rw1 k hk).2.1⟩
/-- of the model's: nothing of w is written -/
def NoA : Nat → Prop := fun _ => False
theorem WS.below {W : World} {C P : Nat} {va vb : Value} {r s : Nat} {D S : Nat → Int} {o n : Int} {X : World} (h : WS W C P NoA va vb r s D S o n X) : Below W.heap.size W X := h.kept.below (Nat.le_refl _) (fun k q => absurd q id)
end Vo
end Go.Proofs.Ytejfodkobfdelaa
