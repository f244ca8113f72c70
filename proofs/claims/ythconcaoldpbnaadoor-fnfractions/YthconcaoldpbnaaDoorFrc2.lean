/- The program's functions at numbers of fractions, their answers under a name. -/
import Derived.Test.YthconcaoldpbnaaDoorFrc
import Derived.Test.YthconcaoldpbnaaDoorLaid2
namespace Go.Proofs.YthconcaoldpbnaaDoor
namespace Base
open Go.ChangeShapes Go.WideShapes Go.ChangeAt Go.RowKit

theorem overO (n d r : Int) (w : World) (n0 : -40000 ≤ n) (n1 : n ≤ 40000) (d0 : -40000 ≤ d) (d1 : d ≤ 40000) (ho : okB n d = true) (h : ofF n d = r) :
    Calls Tryd.prog 8 #[.int .i64 n, .int .i64 d] w fun e w' => e = .returned (.int .i64 r) ∧ w' = w := by
  rw [← h, ofF, if_pos ho]; exact implOver n d w (by omega) (by omega) (by omega) (by omega)
theorem ofFracO (n d r : Int) (w : World) (h : ofF n d = r) :
    Calls Tryd.prog 10 #[.agg #[.int .i64 n, .int .i64 d]] w fun e w' => e = .returned (.int .i64 r) ∧ Below w.heap.size w w' := by
  rw [← h]; exact implOfFrac n d w
theorem plusO (a b r : Int) (w : World) (a0 : 0 ≤ a) (a1 : a < 2147483647) (b0 : 0 ≤ b) (b1 : b < 2147483647) (h : (a + b) % 2147483647 = r) :
    Calls Tryd.prog 14 #[.int .i64 a, .int .i64 b] w fun e w' => e = .returned (.int .i64 r) ∧ w' = w := by
  rw [← h]; exact implPlus a b w (by omega) (by omega) (by omega) (by omega)
theorem timesO (a b r : Int) (w : World) (a0 : 0 ≤ a) (a1 : a < 2147483647) (b0 : 0 ≤ b) (b1 : b < 2147483647) (h : a * b % 2147483647 = r) :
    Calls Tryd.prog 15 #[.int .i64 a, .int .i64 b] w fun e w' => e = .returned (.int .i64 r) ∧ w' = w := by
  have := implTimes a b w (by omega) (by omega) (by omega) (by omega)
  rw [← Int.mul_emod, h] at this
  exact this
theorem showO (x n d : Int) (l : List UInt8) (w : World) (x0 : 0 ≤ x) (x1 : x < 2147483647) (hv : Vars w) (h : Rec.Ans x n d true) (hl : showL x n d true = l) :
    Calls Tryd.prog 7 #[.int .i64 x] w fun e w' => e = .returned (.string ⟨l.toArray⟩) ∧ Below w.heap.size w w' := by
  have e : x % 2147483647 = x := by omega
  refine (implShowNum x w (by omega) (by omega) hv.pows).mono ?_
  rintro e' w' ⟨n', d', b', r, rfl, b⟩
  rw [e] at r ⊢
  obtain ⟨rfl, rfl, rfl⟩ := Rec.Ans_one h r
  exact ⟨by rw [hl], b⟩
theorem toFracO (x n d : Int) (w : World) (x0 : 0 ≤ x) (x1 : x < 2147483647) (h : Rec.Ans x n d true) :
    Calls Tryd.prog 11 #[.int .i64 x] w fun e w' => e = .returned (.tuple #[.agg #[.int .i64 n, .int .i64 d], .bool true]) ∧ Below w.heap.size w w' := by
  have e : x % 2147483647 = x := by omega
  refine (implToFrac x w (by omega) (by omega)).mono ?_
  rintro e' w' ⟨n', d', b', rfl, r, b⟩
  rw [e] at r
  obtain ⟨rfl, rfl, rfl⟩ := Rec.Ans_one h r
  exact ⟨rfl, b⟩
theorem readO (x n d : Int) (l : List UInt8) (w : World) (x0 : 0 ≤ x) (x1 : x < 2147483647) (hv : Vars w) (h : Rec.Ans x n d true) (hl : showL x n d true = l) :
    Calls Tryd.prog 12 #[.string ⟨l.toArray⟩] w fun e w' => e = .returned (.tuple #[.int .i64 x, .bool true]) ∧ Below w.heap.size w w' := by
  have hs : Shown l x := ⟨x0, x1, n, d, true, h, hl.symm⟩
  have hn := (shown_specG hs).2
  refine (implReadNum ⟨l.toArray⟩ w (by rw [list_size]; omega) hv).mono ?_
  rintro e' w' ⟨r, b, rfl, hr, hb⟩
  rw [list_data] at hr
  obtain ⟨rfl, rfl⟩ := Reading_one (.inl ⟨rfl, hs⟩) hr
  exact ⟨rfl, hb⟩
/-- any number's fraction, told by a fraction that it is known to have -/
theorem toFracAny (x : Int) (w : World) (x0 : 0 ≤ x) (x1 : x < 2147483647) :
    Calls Tryd.prog 11 #[.int .i64 x] w fun e w' => Fracs x w e w' := by
  have e : x % 2147483647 = x := by omega
  have := implToFrac x w (by omega) (by omega)
  rw [e] at this
  exact this
theorem abs_bd {a b : Int} (a0 : -32767 ≤ a) (a1 : a ≤ 32767) (b0 : -32767 ≤ b) (b1 : b ≤ 32767) : -1073676289 ≤ a * b ∧ a * b ≤ 1073676289 := by
  have h : (a * b).natAbs ≤ 32767 * 32767 := by
    rw [Int.natAbs_mul]; exact Nat.mul_le_mul (by omega) (by omega)
  generalize a * b = z at *
  omega
/-- the fraction that a number is known to have, where it has one -/
theorem told {x n d n' d' : Int} {b : Bool} {k : Bool} (h : k = true → Rec.Ans x n d true) (r : Rec.Ans x n' d' b) (hk : k = true) : n' = n ∧ d' = d := by
  obtain ⟨e1, e2, _⟩ := Rec.Ans_one (h hk) r
  exact ⟨e1.symm, e2.symm⟩
theorem ok12 : okB 1 2 = true := by decide
theorem half_text : showL (ofF 1 2) 1 2 true = [49, 47, 50] := by
  unfold showL
  rw [if_pos rfl, if_neg (by omega), Lib.itoa, if_neg (by omega), Lib.itoa, if_neg (by omega), Lib.decDigits_one (by decide), Lib.decDigits_one (by decide)]
  rfl

end Base
end Go.Proofs.YthconcaoldpbnaaDoor
