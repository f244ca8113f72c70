/- A whole step of the program, its lists wherever they lie. -/
import Derived.Test.YtajljeegkmkkcaaOu
import Derived.Test.YtajljeegkmkkcaaOq
namespace Go.Proofs.Ytajljeegkmkkcaa
namespace Vo
open Go.ChangeShapes Go.WideShapes Go.ChangeAt Go.RowKit Go.Joins Go.Sort
open Vl
set_option linter.unusedVariables false
theorem blk_some {g n : Nat} (hn : n ≠ 0) : ∀ b, Blk (some ⟨g, 0, none⟩) n b ↔ b = g := fun b => ⟨fun ⟨_, a, e, q⟩ => by injection e with e; subst e; exact q.symm, fun e => ⟨hn, ⟨g, 0, none⟩, rfl, e.symm⟩⟩
/-- what a step writes into -/
def SW (P n : Nat) (aP aF aS : Option Addr) (b : Nat) : Prop := b = P ∨ Blk aP n b ∨ Blk aF n b ∨ Blk aS n b
theorem stepJ (R : Rl) (hR : R.ok) (s : St) (B E P n cP cF cS cap : Nat) (aP aF aS a : Option Addr) (u : Int) (G Gr : Nat → Int) (w : World) (hs : s.ok n) (hc : s.c ≠ 1000000)
    (hO : C6 w P (OV aP aF aS n cP cF cS s.c s.f s.g)) (hP : OwnL E w aP n s.P) (hF : OwnL E w aF n s.F) (hS : OwnL E w aS n s.S) (hPF : Bhd aP aF n) (hFS : Bhd aF aS n) (hPE : P < E) (hBP : B ≤ P) (hE : E ≤ w.heap.size) (hI : Ints B w a n Gr)
    (u0 : 0 ≤ u) (u1 : u ≤ 16777216)
    (hRt : ∀ w, Calls Try.prog 64 #[.agg #[.int .i64 R.r1, .int .i64 R.r2, .int .i64 R.r3, .int .i64 R.r4], .int .i64 s.c] w fun e w' => e = .returned (.int .i64 u) ∧ Below w.heap.size w w')
    (hG : ib (-16777216) 16777216 n Gr = true → (∀ j, j < n → -16777216 ≤ G j ∧ G j ≤ 16777216) ∧ ∀ w, Ints w.heap.size w a n Gr → Calls Try.prog 66 #[.agg #[.int .i64 R.d, .int .i64 R.r1, .int .i64 R.r2, .int .i64 R.r3, .int .i64 R.r4, .int .i64 R.k, .int .i64 R.z, .int .i64 R.o, .int .i64 R.y, .int .i64 R.mo, .int .i64 R.gr], .slice a n cap, .int .i64 s.f] w (ListR n G w)) :
    Calls Try.prog 51 #[.pointer (some ⟨P, 0, none⟩), .agg #[.int .i64 R.d, .int .i64 R.r1, .int .i64 R.r2, .int .i64 R.r3, .int .i64 R.r4, .int .i64 R.k, .int .i64 R.z, .int .i64 R.o, .int .i64 R.y, .int .i64 R.mo, .int .i64 R.gr], .slice a n cap] w fun e w' => (∃ v, e = .returned v) ∧
      C6 w' P (OV aP aF aS n cP cF cS (s.next R n u G Gr).c (s.next R n u G Gr).f (s.next R n u G Gr).g) ∧ (OwnL E w' aP n (s.next R n u G Gr).P ∧ OwnL E w' aF n (s.next R n u G Gr).F ∧ OwnL E w' aS n (s.next R n u G Gr).S) ∧ Kept (SW P n aP aF aS) w w' := by
  obtain ⟨n4, -, -, ⟨c0, c1⟩, ⟨g0, g1⟩, hin, hf⟩ := id hs
  have hd := (rul_of hR).1
  have hz := hO.z
  obtain ⟨k, k1, ek⟩ := pow_pw hf
  have f01 : 1 ≤ s.f ∧ s.f ≤ 65536 := by
    have : ∀ k : Fin 17, (1 : Int) ≤ 2 ^ k.val ∧ (2 : Int) ^ k.val ≤ 65536 := by decide +kernel
    rw [ek]; exact this ⟨k, by omega⟩
  have eqs : ((s.next R n u G Gr).c = s.c + 1 ∧ (s.next R n u G Gr).f = (if ib (-16777216) 16777216 n Gr = true then nFac s.f s.g R.gr else max (s.f.tdiv 2) 1) ∧ (s.next R n u G Gr).g = (if ib (-16777216) 16777216 n Gr = true then nGood s.g R.gr else 0)) ∧
      (s.next R n u G Gr).P = (fun j => if ib (-16777216) 16777216 n Gr = true then nP R.d R.k R.z R.o R.y u (s.P j) (s.F j) (s.S j) (G j) else s.P j) ∧ (s.next R n u G Gr).F = (fun j => if ib (-16777216) 16777216 n Gr = true then nF R.d R.k (s.F j) (G j) else s.F j) ∧ (s.next R n u G Gr).S = (fun j => if ib (-16777216) 16777216 n Gr = true then nS R.d R.z (s.S j) (G j) else s.S j) := by
    unfold St.next
    by_cases c : ib (-16777216) 16777216 n Gr = true
    · simp only [if_pos c]; exact ⟨⟨trivial, trivial, trivial⟩, trivial, trivial, trivial⟩
    · simp only [if_neg c]; exact ⟨⟨trivial, trivial, trivial⟩, trivial, trivial, trivial⟩
  obtain ⟨⟨e1, e2, e3⟩, e4, e5, e6⟩ := eqs
  rw [e1, e2, e3, e4, e5, e6]
  have go : ∀ gP gF gS : Nat, (n = 0 ∨ (aP = some ⟨gP, 0, none⟩ ∧ aF = some ⟨gF, 0, none⟩ ∧ aS = some ⟨gS, 0, none⟩)) → Rw w gP n s.P → Rw w gF n s.F → Rw w gS n s.S → (gP ≠ gF ∧ gP ≠ gS ∧ gF ≠ gS) → (E ≤ gP ∧ E ≤ gF ∧ E ≤ gS) → (w.heap.size ≠ gP ∧ w.heap.size ≠ gF ∧ w.heap.size ≠ gS) → (∀ b, b < w.heap.size → T3 gP gF gS b → SW P n aP aF aS b) → (n ≠ 0 → True) →
      Calls Try.prog 51 #[.pointer (some ⟨P, 0, none⟩), .agg #[.int .i64 R.d, .int .i64 R.r1, .int .i64 R.r2, .int .i64 R.r3, .int .i64 R.r4, .int .i64 R.k, .int .i64 R.z, .int .i64 R.o, .int .i64 R.y, .int .i64 R.mo, .int .i64 R.gr], .slice a n cap] w fun e w' => (∃ v, e = .returned v) ∧
        C6 w' P (OV aP aF aS n cP cF cS (s.c + 1) (if ib (-16777216) 16777216 n Gr = true then nFac s.f s.g R.gr else max (s.f.tdiv 2) 1) (if ib (-16777216) 16777216 n Gr = true then nGood s.g R.gr else 0)) ∧
        (OwnL E w' aP n (fun j => if ib (-16777216) 16777216 n Gr = true then nP R.d R.k R.z R.o R.y u (s.P j) (s.F j) (s.S j) (G j) else s.P j) ∧ OwnL E w' aF n (fun j => if ib (-16777216) 16777216 n Gr = true then nF R.d R.k (s.F j) (G j) else s.F j) ∧ OwnL E w' aS n (fun j => if ib (-16777216) 16777216 n Gr = true then nS R.d R.z (s.S j) (G j) else s.S j)) ∧ Kept (SW P n aP aF aS) w w' := by
    intro gP gF gS hA q1 q2 q3 q4 q5 q6 q7 _
    refine (stepI B P n cP cF cS cap gP gF gS aP aF aS a s.c s.f s.g u R.d R.r1 R.r2 R.r3 R.r4 R.k R.z R.o R.y R.mo R.gr s.P s.F s.S G Gr _ w hd rfl hO hA q1 q2 q3 ⟨q4, ⟨by omega, by omega, by omega⟩, by omega, by omega, by omega⟩ q6 (by omega) hI n4 c0 (by omega) f01.1 f01.2 g0 g1 hRt (fun h => (hG h).2) (fun h j hj => St.pin hs hR u0 u1 hj ((hG h).1 j hj).1 ((hG h).1 j hj).2)).mono ?_
    rintro e w' ⟨h1, h2, ⟨r1, r2, r3⟩, h4⟩
    have own : ∀ {al : Option Addr} {g : Nat} {D : Nat → Int}, (n = 0 ∨ al = some ⟨g, 0, none⟩) → E ≤ g → Rw w' g n D → OwnL E w' al n D := fun h hg hr => by
      rcases h with h | h
      · exact .inl h
      · exact .inr ⟨_, h, hg, hr⟩
    refine ⟨h1, h2, ⟨own (hA.imp id (fun h => h.1)) q5.1 r1, own (hA.imp id (fun h => h.2.1)) q5.2.1 r2, own (hA.imp id (fun h => h.2.2)) q5.2.2 r3⟩, ?_⟩
    exact h4.mono (fun b hb q => by
      rcases q with q | q
      · exact .inl q
      · exact q7 b hb q)
  by_cases hn : n = 0
  · have z : ∀ (g : Nat) (D : Nat → Int), Rw w g n D := fun g D t ht => by omega
    exact go (w.heap.size + 1) (w.heap.size + 2) (w.heap.size + 3) (.inl hn) (z _ _) (z _ _) (z _ _) ⟨by omega, by omega, by omega⟩ ⟨by omega, by omega, by omega⟩ ⟨by omega, by omega, by omega⟩ (fun b hb q => by rcases q with q | q | q <;> omega) (fun _ => trivial)
  · rcases hP with h | ⟨gP, rfl, p1, p2⟩
    · exact absurd h hn
    rcases hF with h | ⟨gF, rfl, f1, f2⟩
    · exact absurd h hn
    rcases hS with h | ⟨gS, rfl, s1, s2⟩
    · exact absurd h hn
    obtain ⟨N, a1, a2⟩ := hPF
    obtain ⟨M, b1, b2⟩ := hFS
    have x1 := a1 gP ((blk_some hn gP).2 rfl)
    have x2 := a2 gF ((blk_some hn gF).2 rfl)
    have x3 := b1 gF ((blk_some hn gF).2 rfl)
    have x4 := b2 gS ((blk_some hn gS).2 rfl)
    have y1 := p2.lt hn
    have y2 := f2.lt hn
    have y3 := s2.lt hn
    refine go gP gF gS (.inr ⟨rfl, rfl, rfl⟩) p2 f2 s2 ⟨by omega, by omega, by omega⟩ ⟨p1, f1, s1⟩ ⟨by omega, by omega, by omega⟩ (fun b hb q => ?_) (fun _ => trivial)
    rcases q with q | q | q
    · exact .inr (.inl ((blk_some hn b).2 q))
    · exact .inr (.inr (.inl ((blk_some hn b).2 q)))
    · exact .inr (.inr (.inr ((blk_some hn b).2 q)))
end Vo
end Go.Proofs.Ytajljeegkmkkcaa
