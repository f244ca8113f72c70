/- An argument that is a rule's state. -/
import Derived.Test.YtmdgkbmifaajgaaEn
import Derived.Test.YtmdgkbmifaajgaaVn
import Derived.Test.YtmdgkbmifaajgaaAr
namespace Go.Proofs.Ytmdgkbmifaajgaa
namespace Vo
open Go.ChangeShapes Go.WideShapes Go.ChangeAt Go.RowKit Go.Joins Go.Sort
open Vl
set_option linter.unusedVariables false
theorem opt_of {H : Type} {enc : TypeId × Value → H} {w : World} {base : Nat} {spare : Nat → Bool} {held : Bool} {fuel : Nat} {c0 c1 c2 c3 c4 c5 : Value} {x : DataW H × List MemPlace} (h : DataW.trod enc Try.prog w base spare held fuel 24 [c0, c1, c2, c3, c4, c5] = some x) :
    ∃ (a b c : Option Addr) (r q s cap dap eap : Nat) (n f o : Int), (c0 = .slice a r cap ∧ c1 = .slice b q dap ∧ c2 = .slice c s eap ∧ c3 = .int .i64 n ∧ c4 = .int .i64 f ∧ c5 = .int .i64 o) ∧ Arg w a r ∧ Arg w b q ∧ Arg w c s ∧ bd n ∧ bd f ∧ bd o := by
  obtain ⟨y0, n0, q0⟩ := field_of Try.underlying24 h 0 _ rfl 1 (by kernel_rfl)
  obtain ⟨y1, n1, q1⟩ := field_of Try.underlying24 h 1 _ rfl 1 (by kernel_rfl)
  obtain ⟨y2, n2, q2⟩ := field_of Try.underlying24 h 2 _ rfl 1 (by kernel_rfl)
  obtain ⟨y3, n3, q3⟩ := field_of Try.underlying24 h 3 _ rfl 1 (by kernel_rfl)
  obtain ⟨y4, n4, q4⟩ := field_of Try.underlying24 h 4 _ rfl 1 (by kernel_rfl)
  obtain ⟨y5, n5, q5⟩ := field_of Try.underlying24 h 5 _ rfl 1 (by kernel_rfl)
  have q0 : DataW.trod enc Try.prog w base spare held n0 22 [c0] = some y0 := q0
  have q1 : DataW.trod enc Try.prog w base spare held n1 22 [c1] = some y1 := q1
  have q2 : DataW.trod enc Try.prog w base spare held n2 22 [c2] = some y2 := q2
  have q3 : DataW.trod enc Try.prog w base spare held n3 3 [c3] = some y3 := q3
  have q4 : DataW.trod enc Try.prog w base spare held n4 3 [c4] = some y4 := q4
  have q5 : DataW.trod enc Try.prog w base spare held n5 3 [c5] = some y5 := q5
  obtain ⟨a, r, cap, rfl, ha⟩ := arg_of q0
  obtain ⟨b, q, dap, rfl, hb⟩ := arg_of q1
  obtain ⟨c, s, eap, rfl, hc⟩ := arg_of q2
  obtain ⟨n, rfl, hn⟩ := int_of q3
  obtain ⟨f, rfl, hf⟩ := int_of q4
  obtain ⟨o, rfl, ho⟩ := int_of q5
  exact ⟨a, b, c, r, q, s, cap, dap, eap, n, f, o, ⟨rfl, rfl, rfl, rfl, rfl, rfl⟩, ha, hb, hc, hn, hf, ho⟩
theorem opt_at {H : Type} {enc : TypeId × Value → H} {w : World} {base : Nat} {spare : Nat → Bool} {held : Bool} {b0 : Nat} {v : Value} {d : DataW H} {p : List MemPlace} (hv : Value.okWide Try.prog w .any b0 24 v) (h : DataW.Trod enc Try.prog w base spare held 24 v d p) :
    ∃ (a b c : Option Addr) (r q s cap dap eap : Nat) (n f o : Int), v = .agg #[.slice a r cap, .slice b q dap, .slice c s eap, .int .i64 n, .int .i64 f, .int .i64 o] ∧ Arg w a r ∧ Arg w b q ∧ Arg w c s ∧ bd n ∧ bd f ∧ bd o := by
  obtain ⟨cs, rfl, hsz⟩ := okWide_struct Try.underlying24 hv
  have hC : Try.prog.cellsOf 24 = 6 := by kernel_rfl
  obtain ⟨l⟩ := cs
  match l, hsz.trans hC with
  | [c0, c1, c2, c3, c4, c5], _ =>
    obtain ⟨fuel, hf⟩ := h
    obtain ⟨a, b, c, r, q, s, cap, dap, eap, n, f, o, ⟨rfl, rfl, rfl, rfl, rfl, rfl⟩, ha, hb, hc, hn, hf, ho⟩ := opt_of (by simpa [Value.cells] using hf)
    exact ⟨a, b, c, r, q, s, cap, dap, eap, n, f, o, rfl, ha, hb, hc, hn, hf, ho⟩
theorem ook_same {r q s : Nat} {P Q S P' Q' S' : Nat → Int} {n f o : Int} (h1 : ∀ j, j < r → P j = P' j) (h2 : ∀ j, j < q → Q j = Q' j) (h3 : ∀ j, j < s → S j = S' j) : ook r q s P Q S n f o = ook r q s P' Q' S' n f o := by
  unfold ook
  rw [decide_eq_decide]
  unfold OOk OIn
  constructor
  · rintro ⟨a, rfl, rfl, b, c, d, e⟩
    exact ⟨a, rfl, rfl, b, c, fun j hj => by rw [← h1 j hj, ← h2 j hj, ← h3 j hj]; exact d j hj, e⟩
  · rintro ⟨a, rfl, rfl, b, c, d, e⟩
    exact ⟨a, rfl, rfl, b, c, fun j hj => by rw [h1 j hj, h2 j hj, h3 j hj]; exact d j hj, e⟩
end Vo
end Go.Proofs.Ytmdgkbmifaajgaa
