/- A whole step of the program. -/
import Derived.Test.YtajljeegkmkkcaaOt
import Derived.Test.YtajljeegkmkkcaaEj
namespace Go.Proofs.Ytajljeegkmkkcaa
namespace Vo
open Go.ChangeShapes Go.WideShapes Go.ChangeAt Go.RowKit Go.Joins Go.Sort
open Vl
set_option linter.unusedVariables false
theorem stepI (B P n cP cF cS cap gP gF gS : Nat) (aP aF aS a : Option Addr) (cnt fac good u d r1 r2 r3 r4 k z o y mo gr : Int) (PP FF SS G Gr : Nat → Int) (okg : Bool) (w : World) (hd : 1 ≤ d ∧ d ≤ 3) (hg : ib (-16777216) 16777216 n Gr = okg)
    (hO : C6 w P (OV aP aF aS n cP cF cS cnt fac good)) (hA : n = 0 ∨ (aP = some ⟨gP, 0, none⟩ ∧ aF = some ⟨gF, 0, none⟩ ∧ aS = some ⟨gS, 0, none⟩)) (hP : Rw w gP n PP) (hF : Rw w gF n FF) (hS : Rw w gS n SS)
    (dd : (gP ≠ gF ∧ gP ≠ gS ∧ gF ≠ gS) ∧ (P ≠ gP ∧ P ≠ gF ∧ P ≠ gS) ∧ (B ≤ gP ∧ B ≤ gF ∧ B ≤ gS)) (gz : w.heap.size ≠ gP ∧ w.heap.size ≠ gF ∧ w.heap.size ≠ gS) (hB : B ≤ w.heap.size) (hI : Ints B w a n Gr) (n4 : (n : Int) ≤ 4096)
    (c0 : 0 ≤ cnt) (c1 : cnt < 1000000) (f0 : 1 ≤ fac) (f1 : fac ≤ 65536) (g0 : 0 ≤ good) (g1 : good ≤ 1000000)
    (hRt : ∀ w, Calls Try.prog 64 #[.agg #[.int .i64 r1, .int .i64 r2, .int .i64 r3, .int .i64 r4], .int .i64 cnt] w fun e w' => e = .returned (.int .i64 u) ∧ Below w.heap.size w w')
    (hG : okg = true → ∀ w, Ints w.heap.size w a n Gr → Calls Try.prog 66 #[.agg #[.int .i64 d, .int .i64 r1, .int .i64 r2, .int .i64 r3, .int .i64 r4, .int .i64 k, .int .i64 z, .int .i64 o, .int .i64 y, .int .i64 mo, .int .i64 gr], .slice a n cap, .int .i64 fac] w (ListR n G w))
    (hin : okg = true → ∀ j, j < n → PIn k z o y u (PP j) (FF j) (SS j) (G j)) :
    Calls Try.prog 51 #[.pointer (some ⟨P, 0, none⟩), .agg #[.int .i64 d, .int .i64 r1, .int .i64 r2, .int .i64 r3, .int .i64 r4, .int .i64 k, .int .i64 z, .int .i64 o, .int .i64 y, .int .i64 mo, .int .i64 gr], .slice a n cap] w fun e w' => (∃ v, e = .returned v) ∧
      C6 w' P (OV aP aF aS n cP cF cS (cnt + 1) (if okg = true then nFac fac good gr else max (fac.tdiv 2) 1) (if okg = true then nGood good gr else 0)) ∧
      (Rw w' gP n (fun j => if okg = true then nP d k z o y u (PP j) (FF j) (SS j) (G j) else PP j) ∧ Rw w' gF n (fun j => if okg = true then nF d k (FF j) (G j) else FF j) ∧ Rw w' gS n (fun j => if okg = true then nS d z (SS j) (G j) else SS j)) ∧ Kept (fun b => b = P ∨ T3 gP gF gS b) w w' := by
  cases okg
  · simp only [Bool.false_eq_true, if_false]
    refine (stepNo P n cP cF cS aP aF aS cnt fac good B cap a Gr d r1 r2 r3 r4 k z o y mo gr w hO hB hI n4 c0 c1 f0 f1 _ hg rfl).mono ?_
    rintro e w' ⟨h1, h2, h3⟩
    exact ⟨h1, h2, ⟨hP.kept h3 (fun e => dd.2.1.1 e.symm), hF.kept h3 (fun e => dd.2.1.2.1 e.symm), hS.kept h3 (fun e => dd.2.1.2.2 e.symm)⟩, h3.mono (fun _ _ q => .inl q)⟩
  · simp only [if_true]
    refine stepYes P n cP cF cS aP aF aS cnt fac good B cap a Gr d r1 r2 r3 r4 k z o y mo gr w hO hB hI n4 c0 c1 f0 f1 gP gF gS _ _ _ (nFac fac good gr) (nGood good gr) dd.2.1 hg (fun W b h => ?_) (fun W h => praiseO P n cP cF cS aP aF aS cnt fac good gr W h g0 g1 (by omega) f1) (fun q => ⟨hP.lt q, hF.lt q, hS.lt q⟩) gz
    exact moveO B P n cP cF cS cap gP gF gS aP aF aS a cnt fac good u d r1 r2 r3 r4 k z o y mo gr PP FF SS G Gr W hd h hA (hP.kept (Kept.of_below (S := fun _ => False) b) id) (hF.kept (Kept.of_below (S := fun _ => False) b) id) (hS.kept (Kept.of_below (S := fun _ => False) b) id) dd (Nat.le_trans hB b.size) (hI.below (b.mono hB)) n4 hRt (hG rfl) (hin rfl)
/-- a state -/
structure St where
  P : Nat → Int
  F : Nat → Int
  S : Nat → Int
  c : Int
  f : Int
  g : Int
/-- a rule's numbers -/
structure Rl where
  d : Int
  r1 : Int
  r2 : Int
  r3 : Int
  r4 : Int
  k : Int
  z : Int
  o : Int
  y : Int
  mo : Int
  gr : Int
/-- the state behind a step: u the rate, G what the step goes by -/
noncomputable def St.next (R : Rl) (n : Nat) (u : Int) (G Gr : Nat → Int) (s : St) : St :=
  if ib (-16777216) 16777216 n Gr = true then ⟨fun j => nP R.d R.k R.z R.o R.y u (s.P j) (s.F j) (s.S j) (G j), fun j => nF R.d R.k (s.F j) (G j), fun j => nS R.d R.z (s.S j) (G j), s.c + 1, nFac s.f s.g R.gr, nGood s.g R.gr⟩
  else ⟨s.P, s.F, s.S, s.c + 1, max (s.f.tdiv 2) 1, 0⟩
def St.ok (n : Nat) (s : St) : Prop := OOk n n n s.P s.F s.S s.c s.f s.g
def Rl.ok (R : Rl) : Prop := rulOk R.d R.r1 R.r2 R.r3 R.r4 R.k R.z R.o R.y R.mo R.gr = true
theorem fac_up {f : Int} (h : fac f = true) : fac (min (f * 2) 65536) = true := by
  obtain ⟨k, k1, rfl⟩ := pow_pw h
  by_cases c : k = 16
  · subst c; decide +kernel
  · have e : (2 : Int) ^ k * 2 = 2 ^ (k + 1) := (Int.pow_succ 2 k).symm
    have : (2 : Int) ^ (k + 1) ≤ 65536 := by
      have : ∀ k : Fin 16, (2 : Int) ^ (k.val + 1) ≤ 65536 := by decide +kernel
      exact this ⟨k, by omega⟩
    rw [e, Int.min_eq_left this]
    exact pw_pow (k + 1) (by omega)
theorem fac_dn {f : Int} (h : fac f = true) : fac (max (f.tdiv 2) 1) = true := by
  obtain ⟨k, k1, rfl⟩ := pow_pw h
  cases k with
  | zero => decide +kernel
  | succ k =>
    have e : ((2 : Int) ^ (k + 1)).tdiv 2 = 2 ^ k := by rw [Int.pow_succ, Int.mul_tdiv_cancel _ (by decide)]
    have : (1 : Int) ≤ 2 ^ k := by
      have : ∀ k : Fin 16, (1 : Int) ≤ 2 ^ k.val := by decide +kernel
      exact this ⟨k, by omega⟩
    rw [e, Int.max_eq_left this]
    exact pw_pow k (by omega)
theorem St.next_ok {R : Rl} {n : Nat} {u : Int} {G Gr : Nat → Int} {s : St} (h : s.ok n) (hR : R.ok) (u0 : 0 ≤ u) (u1 : u ≤ 16777216) (hG : ib (-16777216) 16777216 n Gr = true → ∀ j, j < n → -16777216 ≤ G j ∧ G j ≤ 16777216) (hc : s.c ≠ 1000000) : (s.next R n u G Gr).ok n := by
  obtain ⟨n4, -, -, ⟨c0, c1⟩, ⟨g0, g1⟩, hin, hf⟩ := h
  obtain ⟨-, -, ⟨k0, k1⟩, ⟨z0, z1⟩, ⟨y0, y1⟩, ⟨o0, o1⟩, -, -⟩ := rul_of hR
  unfold St.next St.ok
  split
  · rename_i hb
    refine ⟨n4, rfl, rfl, ⟨by show 0 ≤ s.c + 1; omega, by show s.c + 1 ≤ 1000000; omega⟩, ?_, fun j hj => ?_, ?_⟩
    · show 0 ≤ nGood s.g R.gr ∧ nGood s.g R.gr ≤ 1000000
      unfold nGood; split <;> omega
    · obtain ⟨⟨p0, p1⟩, ⟨f0, f1⟩, s0, s1⟩ := hin j hj
      obtain ⟨a, b⟩ := hG hb j hj
      exact ⟨brg_rng _, nF_rng k0 k1 f0 f1 a b, nS_rng z0 z1 s0 s1 a b⟩
    · show fac (nFac s.f s.g R.gr) = true
      unfold nFac; split
      · exact fac_up hf
      · exact hf
  · exact ⟨n4, rfl, rfl, ⟨by show 0 ≤ s.c + 1; omega, by show s.c + 1 ≤ 1000000; omega⟩, ⟨by show (0 : Int) ≤ 0; omega, by show (0 : Int) ≤ 1000000; omega⟩, hin, fac_dn hf⟩
theorem St.pin {R : Rl} {n : Nat} {u : Int} {G : Nat → Int} {s : St} (h : s.ok n) (hR : R.ok) (u0 : 0 ≤ u) (u1 : u ≤ 16777216) {j : Nat} (hj : j < n) (g0 : -16777216 ≤ G j) (g1 : G j ≤ 16777216) : PIn R.k R.z R.o R.y u (s.P j) (s.F j) (s.S j) (G j) := by
  obtain ⟨-, -, -, -, -, hin, -⟩ := h
  obtain ⟨-, -, ⟨k0, k1⟩, ⟨z0, z1⟩, ⟨y0, y1⟩, ⟨o0, o1⟩, -, -⟩ := rul_of hR
  obtain ⟨⟨p0, p1⟩, ⟨f0, f1⟩, s0, s1⟩ := hin j hj
  exact ⟨k0, k1, z0, z1, o0, o1, y0, y1, u0, u1, p0, p1, f0, f1, s0, s1, g0, g1⟩
end Vo
end Go.Proofs.Ytajljeegkmkkcaa
