/- Products of matrices of bytes: both sides answer the same. -/
import Derived.Test.YtnnjkanmcfjblaaOd
namespace Go.Proofs.Ytnnjkanmcfjblaa
namespace Vo
open Go.ChangeShapes Go.WideShapes Go.ChangeAt Go.RowKit Go.Joins Go.Sort
open Vl
set_option linter.unusedVariables false
theorem Box2.belowB {B : Nat} {w w' : World} {p : Nat} {s z : Int} (h : Box2 w p s z) (hp : p < B) (b : Below B w w') : Box2 w' p s z :=
  ⟨Nat.lt_of_lt_of_le h.1 b.size, by rw [b.cell (p := ⟨p, 0, none⟩) hp]; exact h.2.1, by rw [b.cell (p := ⟨p, 1, none⟩) hp]; exact h.2.2⟩
theorem matBoth (r s q : Nat) (X Y Z : Nat → Int) (n m sa za sb zb sc zc : Int) (hn : bd n) (hm : bd m) (hsa : bd sa) (hza : bd za) (hsb : bd sb) (hzb : bd zb) (hsc : bd sc) (hzc : bd zc) (hr : (r : Int) ≤ 1048576) (hs : (s : Int) ≤ 1048576) (hq : (q : Int) ≤ 1048576) :
    ∃ (N : Nat) (V : Nat → Int), N ≤ 4096 ∧
    (∀ (w : World) (xa ya za' : Option Addr) (cap dap eap : Nat), r ≤ cap → s ≤ dap → Ints w.heap.size w xa r X → Ints w.heap.size w ya s Y → Ints w.heap.size w za' q Z →
      Calls Try.prog 8 #[.slice xa r cap, .int .i64 n, .agg #[.int .i64 sa, .int .i64 za], .slice ya s dap, .int .i64 m, .agg #[.int .i64 sb, .int .i64 zb], .slice za' q eap, .agg #[.int .i64 sc, .int .i64 zc]] w (ListR N V w)) ∧
    (∀ (w : World) (xa ya za' : Option Addr) (cap dap eap : Nat), r ≤ cap → s ≤ dap → Ints w.heap.size w xa r X → Ints w.heap.size w ya s Y → Ints w.heap.size w za' q Z →
      Calls Try.prog 10 #[.slice xa r cap, .int .i64 n, .agg #[.int .i64 sa, .int .i64 za], .slice ya s dap, .int .i64 m, .agg #[.int .i64 sb, .int .i64 zb], .slice za' q eap, .agg #[.int .i64 sc, .int .i64 zc]] w (ListR N V w)) := by
  obtain ⟨mu, sh, ok, ⟨⟨mu0, mu1⟩, sh0, sh1⟩, -, hS, hI⟩ := facBoth sa za sb zb sc zc hsa hza hsb hzb hsc hzc
  by_cases h : MOk ok r s q X Y Z n m
  · have hq' : ∀ k : Nat, ∃ v : Int, bd v ∧ (∀ w, Calls Try.prog 22 #[.int .i64 (cl (-1073741824) 1073741824 (mtD sa za sb zb n.toNat m.toNat X Y Z k)), .int .i64 mu, .int .i64 sh, .agg #[.int .i64 sc, .int .i64 zc]] w fun e w' => e = .returned (.int .i64 v) ∧ Below w.heap.size w w') ∧
        (∀ w, Calls Try.prog 29 #[.int .i64 (cl (-1073741824) 1073741824 (mtD sa za sb zb n.toNat m.toNat X Y Z k)), .int .i64 mu, .int .i64 sh, .agg #[.int .i64 sc, .int .i64 zc]] w fun e w' => e = .returned (.int .i64 v) ∧ Below w.heap.size w w') := fun k => by
      have := cl_rng (l := -1073741824) (m := 1073741824) (mtD sa za sb zb n.toNat m.toNat X Y Z k) (by decide)
      obtain ⟨v, ⟨v0, v1⟩, h1, h2⟩ := reqBoth (cl (-1073741824) 1073741824 (mtD sa za sb zb n.toNat m.toNat X Y Z k)) mu sh sc zc ⟨by omega, by omega⟩ ⟨by omega, by omega⟩ ⟨by omega, by omega⟩ hsc hzc
      exact ⟨v, ⟨by omega, by omega⟩, h1, h2⟩
    obtain ⟨V, hV⟩ := Classical.skolem.1 hq'
    refine ⟨r / n.toNat * m.toNat, V, h.2.1.2.2.2.2.2.1, fun w xa ya za' cap dap eap rc sd hx hy hz => ?_, fun w xa ya za' cap dap eap rc sd hx hy hz => ?_⟩
    · exact (sMat xa ya za' r s q cap dap eap X Y Z n m sa za sb zb sc zc mu sh ok w hx hy hz hn hm hr hs hq hS rc sd hsa hza hsb hzb V (fun _ k _ => ⟨(hV k).1, (hV k).2.1⟩)).mono fun e w' q => q.1 h
    · exact iMat_yes xa ya za' r s q cap dap eap X Y Z n m sa za sb zb sc zc mu sh ok w hx hy hz hn hm hr hs hq hI rc sd hsa hza hsb hzb h V (fun k _ => ⟨(hV k).1, (hV k).2.2⟩)
  · refine ⟨0, fun _ => 0, by omega, fun w xa ya za' cap dap eap rc sd hx hy hz => ?_, fun w xa ya za' cap dap eap rc sd hx hy hz => ?_⟩
    · exact (sMat xa ya za' r s q cap dap eap X Y Z n m sa za sb zb sc zc mu sh ok w hx hy hz hn hm hr hs hq hS rc sd hsa hza hsb hzb _ (fun h' => absurd h' h)).mono fun e w' q => q.2 h
    · exact iMat_no xa ya za' r s q cap dap eap X Y Z n m sa za sb zb sc zc mu sh ok w hx hy hz hn hm hr hs hq hI h _
end Vo
end Go.Proofs.Ytnnjkanmcfjblaa
