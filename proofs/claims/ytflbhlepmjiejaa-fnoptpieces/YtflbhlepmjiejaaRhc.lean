/- StepOpt: both sides make the same state. -/
import Derived.Test.YtflbhlepmjiejaaRfc
namespace Go.Proofs.Ytflbhlepmjiejaa
namespace Vo
open Go.ChangeShapes Go.WideShapes Go.ChangeAt Go.RowKit Go.Joins Go.Sort
open Vl
set_option linter.unusedVariables false
theorem StepR.turn {n : Nat} {A B : Prop} {S : St} {w w' : World} {e : Ending} (h : StepR n A S w e w') (q : A ↔ B) : StepR n B S w e w' := by
  rcases h with ⟨h1, h2⟩ | ⟨h1, h2⟩
  · exact .inl ⟨q.1 h1, h2⟩
  · exact .inr ⟨fun b => h1 (q.2 b), h2⟩
/-- a step of the model, whatever the gradients -/
theorem specStepYes (R : Rl) (n r cP cF cS cl : Nat) (s : St) (aP aF aS a : Option Addr) (Gr : Nat → Int) (w : World) (h1 : Ints w.heap.size w aP n s.P) (h2 : Ints w.heap.size w aF n s.F) (h3 : Ints w.heap.size w aS n s.S) (z1 : aP = none → n = 0 ∧ True) (z2 : aF = none → n = 0 ∧ True) (z3 : aS = none → n = 0 ∧ True) (hra : (r : Int) ≤ 1048576) (hb : bd s.c ∧ bd s.f ∧ bd s.g) (hRb : R.bds) (hR : R.okB = true) (hs : s.ok n) (hI : Ints w.heap.size w a r Gr) (hc : s.c ≠ 1000000) (hrn : n = r) (U : Int → Int) (GG : Int → (Nat → Int) → Nat → Int)
    (hU : (0 ≤ U s.c ∧ U s.c ≤ 16777216) ∧ ∀ w, Calls Try.prog 35 #[.agg #[.int .i64 R.r1, .int .i64 R.r2, .int .i64 R.r3, .int .i64 R.r4], .int .i64 s.c] w fun e w' => e = .returned (.int .i64 (U s.c)) ∧ Below w.heap.size w w')
    (hGG : ib (-16777216) 16777216 n Gr = true → (∀ j, j < n → -16777216 ≤ GG s.f Gr j ∧ GG s.f Gr j ≤ 16777216) ∧ (R.mo ≤ 0 → GG s.f Gr = gr0 Gr s.f) ∧ (0 < R.mo → ∀ B w a cap, B ≤ w.heap.size → Ints B w a n (gr0 Gr s.f) → Calls Try.prog 34 #[.slice a n cap, .int .i64 R.mo] w (ListR n (GG s.f Gr) w))) :
    Calls Try.prog 14 #[.agg #[.int .i64 R.d, .int .i64 R.r1, .int .i64 R.r2, .int .i64 R.r3, .int .i64 R.r4, .int .i64 R.k, .int .i64 R.z, .int .i64 R.o, .int .i64 R.y, .int .i64 R.mo, .int .i64 R.gr], .agg #[.slice aP n cP, .slice aF n cF, .slice aS n cS, .int .i64 s.c, .int .i64 s.f, .int .i64 s.g], .slice a r cl] w (StepR n False (s.next R n (U s.c) (GG s.f Gr) Gr) w) := by
  cases hg : ib (-16777216) 16777216 n Gr
  · have e : s.next R n (U s.c) (GG s.f Gr) Gr = ⟨s.P, s.F, s.S, s.c + 1, max (s.f.tdiv 2) 1, 0⟩ := by unfold St.next; rw [if_neg (by rw [hg]; decide)]
    rw [e]
    exact sStepBad R n r cP cF cS cl s aP aF aS a Gr w h1 h2 h3 z1 z2 z3 hra hb hRb hR hs hI hc hrn hg
  · exact sStepGood R n r cP cF cS cl s aP aF aS a Gr w h1 h2 h3 z1 z2 z3 hra hb hRb hR hs hI hc hrn hg U GG hU (hGG hg)
set_option maxHeartbeats 2000000 in
set_option maxRecDepth 100000 in
/-- a step: there is a state that both sides make of it, or both say no -/
theorem stepBoth (R : Rl) (n n2 n3 r : Nat) (s : St) (Gr : Nat → Int) (hRb : R.bds) (hb : bd s.c ∧ bd s.f ∧ bd s.g) (hr1 : (n : Int) ≤ 1048576) (hr2 : (n2 : Int) ≤ 1048576) (hr3 : (n3 : Int) ≤ 1048576) (hra : (r : Int) ≤ 1048576) : ∃ (no : Prop) (N : St), (¬ no → n2 = n ∧ n3 = n ∧ N.ok n) ∧
    (∀ (cP cF cS cl : Nat) (aP aF aS a : Option Addr) (w : World), Ints w.heap.size w aP n s.P → Ints w.heap.size w aF n2 s.F → Ints w.heap.size w aS n3 s.S → (aP = none → n = 0 ∧ cP = 0) → (aF = none → n2 = 0 ∧ cF = 0) → (aS = none → n3 = 0 ∧ cS = 0) → Ints w.heap.size w a r Gr →
      Calls Try.prog 14 #[.agg #[.int .i64 R.d, .int .i64 R.r1, .int .i64 R.r2, .int .i64 R.r3, .int .i64 R.r4, .int .i64 R.k, .int .i64 R.z, .int .i64 R.o, .int .i64 R.y, .int .i64 R.mo, .int .i64 R.gr], .agg #[.slice aP n cP, .slice aF n2 cF, .slice aS n3 cS, .int .i64 s.c, .int .i64 s.f, .int .i64 s.g], .slice a r cl] w (StepR n no N w)) ∧
    (∀ (cP cF cS cl : Nat) (aP aF aS a : Option Addr) (w : World), Ints w.heap.size w aP n s.P → Ints w.heap.size w aF n2 s.F → Ints w.heap.size w aS n3 s.S → (aP = none → n = 0 ∧ cP = 0) → (aF = none → n2 = 0 ∧ cF = 0) → (aS = none → n3 = 0 ∧ cS = 0) → Ints w.heap.size w a r Gr →
      Calls Try.prog 13 #[.agg #[.int .i64 R.d, .int .i64 R.r1, .int .i64 R.r2, .int .i64 R.r3, .int .i64 R.r4, .int .i64 R.k, .int .i64 R.z, .int .i64 R.o, .int .i64 R.y, .int .i64 R.mo, .int .i64 R.gr], .agg #[.slice aP n cP, .slice aF n2 cF, .slice aS n3 cS, .int .i64 s.c, .int .i64 s.f, .int .i64 s.g], .slice a r cl] w (StepR n no N w)) := by
  by_cases hy : R.okB = true ∧ ook n n2 n3 s.P s.F s.S s.c s.f s.g = true
  · obtain ⟨hR, hs⟩ := hy
    have ok : OOk n n2 n3 s.P s.F s.S s.c s.f s.g := of_decide_eq_true hs
    obtain ⟨e2, e3⟩ : n = n2 ∧ n = n3 := by have := ok.2.1; have := ok.2.2.1; omega
    subst e2
    subst e3
    have n4 : (n : Int) ≤ 4096 := ok.1
    obtain ⟨U, hU, hUs⟩ := rateEnv R hRb
    obtain ⟨GG, hG, hGs⟩ := gradEnv R hR hRb n n4
    have hc : 0 ≤ s.c ∧ s.c ≤ 1000000 := ok.2.2.2.1
    have hf : fac s.f = true := ok.2.2.2.2.2.2
    refine ⟨s.c = 1000000 ∨ r ≠ n, s.next R n (U s.c) (GG s.f Gr) Gr, fun hno => ⟨rfl, rfl, ?_⟩, fun cP cF cS cl aP aF aS a w h1 h2 h3 z1 z2 z3 hI => ?_, fun cP cF cS cl aP aF aS a w h1 h2 h3 z1 z2 z3 hI => ?_⟩
    · obtain ⟨u0, u1⟩ := (hU s.c hc.1 (by omega)).1
      exact St.next_ok ok hR u0 u1 (fun hb => (hG s.f Gr hf hb).1) (fun e => hno (.inl e))
    · by_cases hno : s.c = 1000000 ∨ r ≠ n
      · refine (sStepNo2 R n r cP cF cS cl s aP aF aS a w h1 h2 h3 hr1 hra hb hRb hR hs hno).mono ?_
        rintro e w' ⟨q1, q2⟩
        exact .inl ⟨hno, q1, q2⟩
      · have c1 : s.c ≠ 1000000 := fun e => hno (.inl e)
        refine (specStepYes R n r cP cF cS cl s aP aF aS a Gr w h1 h2 h3 (fun e => ⟨(z1 e).1, trivial⟩) (fun e => ⟨(z2 e).1, trivial⟩) (fun e => ⟨(z3 e).1, trivial⟩) hra hb hRb hR ok hI c1 (by omega) U GG ⟨(hU s.c hc.1 (by omega)).1, hUs s.c hc.1 (by omega)⟩ (fun hg => ⟨(hG s.f Gr hf hg).1, (hGs s.f Gr hf hg).1, (hGs s.f Gr hf hg).2⟩)).mono ?_
        intro e w' q
        exact q.turn ⟨False.elim, fun h => hno h⟩
    · exact stepOptYes R n r cP cF cS cl s aP aF aS a Gr w h1 h2 h3 z1 z2 z3 hb hRb ok hR hI hra U GG hU hG
  · have hno : R.okB = false ∨ ook n n2 n3 s.P s.F s.S s.c s.f s.g = false := by
      cases e : R.okB
      · exact .inl rfl
      · cases e' : ook n n2 n3 s.P s.F s.S s.c s.f s.g
        · exact .inr rfl
        · exact absurd ⟨e, e'⟩ hy
    refine ⟨True, s, fun q => absurd trivial q, fun cP cF cS cl aP aF aS a w h1 h2 h3 z1 z2 z3 hI => ?_, fun cP cF cS cl aP aF aS a w h1 h2 h3 z1 z2 z3 hI => ?_⟩
    · refine (sStepNo R n n2 n3 r cP cF cS cl s aP aF aS a w h1 h2 h3 hr1 hr2 hr3 hb hRb hno).mono ?_
      rintro e w' ⟨q1, q2⟩
      exact .inl ⟨trivial, q1, q2⟩
    · refine (stepOptNo R n n2 n3 r cP cF cS cl s aP aF aS a w h1 h2 h3 hr1 hr2 hr3 hb hRb hno).mono ?_
      rintro e w' ⟨q1, q2⟩
      exact .inl ⟨trivial, q1, q2⟩
end Vo
end Go.Proofs.Ytflbhlepmjiejaa
