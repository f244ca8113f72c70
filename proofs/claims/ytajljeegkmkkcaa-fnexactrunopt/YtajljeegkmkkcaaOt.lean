/- A step of the program: what comes of a state, whatever the kind of rule. -/
import Derived.Test.YtajljeegkmkkcaaOs
import Derived.Test.YtajljeegkmkkcaaOo
import Derived.Test.YtajljeegkmkkcaaOma
import Derived.Test.YtajljeegkmkkcaaOmb
import Derived.Test.YtajljeegkmkkcaaOmc
namespace Go.Proofs.Ytajljeegkmkkcaa
namespace Vo
open Go.ChangeShapes Go.WideShapes Go.ChangeAt Go.RowKit Go.Joins Go.Sort
open Vl
set_option linter.unusedVariables false
/-- does the factor grow -/
def grows (good gr : Int) : Prop := 0 < gr ∧ gr ≤ min (good + 1) 1000000
instance (good gr : Int) : Decidable (grows good gr) := by unfold grows; infer_instance
def nFac (fac good gr : Int) : Int := if grows good gr then min (fac * 2) 65536 else fac
def nGood (good gr : Int) : Int := if grows good gr then 0 else min (good + 1) 1000000
theorem praiseO (P n cP cF cS : Nat) (aP aF aS : Option Addr) (cnt fac good gr : Int) (w : World) (h : C6 w P (OV aP aF aS n cP cF cS cnt fac good)) (g0 : 0 ≤ good) (g1 : good ≤ 1000000) (f0 : 0 ≤ fac) (f1 : fac ≤ 65536) :
    Calls Try.prog 60 #[.pointer (some ⟨P, 0, none⟩), .int .i64 gr] w fun e w' => (∃ v, e = .returned v) ∧ C6 w' P (OV aP aF aS n cP cF cS cnt (nFac fac good gr) (nGood good gr)) ∧ Kept (· = P) w w' := by
  unfold nFac nGood
  by_cases c : grows good gr
  · rw [if_pos c, if_pos c]
    exact praiseB P n cP cF cS aP aF aS cnt fac good gr _ _ w h g0 g1 f0 f1 rfl rfl c.1 c.2
  · rw [if_neg c, if_neg c]
    refine praiseA P n cP cF cS aP aF aS cnt fac good gr _ w h g0 g1 rfl ?_
    unfold grows at c
    omega
theorem moveO (B P n cP cF cS cap gP gF gS : Nat) (aP aF aS a : Option Addr) (cnt fac good u d r1 r2 r3 r4 k z o y mo gr : Int) (PP FF SS G Gr : Nat → Int) (w : World) (hd : 1 ≤ d ∧ d ≤ 3)
    (hO : C6 w P (OV aP aF aS n cP cF cS cnt fac good)) (hA : n = 0 ∨ (aP = some ⟨gP, 0, none⟩ ∧ aF = some ⟨gF, 0, none⟩ ∧ aS = some ⟨gS, 0, none⟩)) (hP : Rw w gP n PP) (hF : Rw w gF n FF) (hS : Rw w gS n SS)
    (dd : (gP ≠ gF ∧ gP ≠ gS ∧ gF ≠ gS) ∧ (P ≠ gP ∧ P ≠ gF ∧ P ≠ gS) ∧ (B ≤ gP ∧ B ≤ gF ∧ B ≤ gS)) (hB : B ≤ w.heap.size) (hI : Ints B w a n Gr) (n4 : (n : Int) ≤ 4096)
    (hRt : ∀ w, Calls Try.prog 64 #[.agg #[.int .i64 r1, .int .i64 r2, .int .i64 r3, .int .i64 r4], .int .i64 cnt] w fun e w' => e = .returned (.int .i64 u) ∧ Below w.heap.size w w')
    (hG : ∀ w, Ints w.heap.size w a n Gr → Calls Try.prog 66 #[.agg #[.int .i64 d, .int .i64 r1, .int .i64 r2, .int .i64 r3, .int .i64 r4, .int .i64 k, .int .i64 z, .int .i64 o, .int .i64 y, .int .i64 mo, .int .i64 gr], .slice a n cap, .int .i64 fac] w (ListR n G w))
    (hin : ∀ j, j < n → PIn k z o y u (PP j) (FF j) (SS j) (G j)) :
    Calls Try.prog 59 #[.pointer (some ⟨P, 0, none⟩), .agg #[.int .i64 d, .int .i64 r1, .int .i64 r2, .int .i64 r3, .int .i64 r4, .int .i64 k, .int .i64 z, .int .i64 o, .int .i64 y, .int .i64 mo, .int .i64 gr], .slice a n cap] w fun e w' => (∃ v, e = .returned v) ∧ (Rw w' gP n (fun j => nP d k z o y u (PP j) (FF j) (SS j) (G j)) ∧ Rw w' gF n (fun j => nF d k (FF j) (G j)) ∧ Rw w' gS n (fun j => nS d z (SS j) (G j))) ∧ Kept (T3 gP gF gS) w w' := by
  have hb : ∀ (d' : Int) (j : Nat), j < n → bd (nP d' k z o y u (PP j) (FF j) (SS j) (G j)) ∧ bd (nF d' k (FF j) (G j)) ∧ bd (nS d' z (SS j) (G j)) := fun d' j hj => by
    have h := hin j hj
    have q1 := brg_rng (dcy y u (PP j) - nW d' k z o u (FF j) (SS j) (G j))
    have q2 := nF_rng (d := d') h.k0 h.k1 h.f0 h.f1 h.g0 h.g1
    have q3 := nS_rng (d := d') h.z0 h.z1 h.s0 h.s1 h.g0 h.g1
    exact ⟨⟨by unfold nP; omega, by unfold nP; omega⟩, ⟨by omega, by omega⟩, by omega, by omega⟩
  rcases (by omega : d = 1 ∨ d = 2 ∨ d = 3) with rfl | rfl | rfl
  · exact move1 B P n cP cF cS cap gP gF gS aP aF aS a cnt fac good u r1 r2 r3 r4 k z o y mo gr PP FF SS G Gr _ _ _ (fun j => y * PP j) (fun j => nrv (y * PP j) 65536) (fun j => u * nrv (y * PP j) 65536) (fun j => nrv (u * nrv (y * PP j) 65536) 65536) (fun j => dcy y u (PP j)) w hO hA hP hF hS dd hB hI n4 hRt hG (fun j hj => decay_ok (hin j hj)) (fun j hj => ⟨hb 1 j hj, fun w => plain_ok (hin j hj) w⟩)
  · exact move2 B P n cP cF cS cap gP gF gS aP aF aS a cnt fac good u r1 r2 r3 r4 k z o y mo gr PP FF SS G Gr _ _ _ (fun j => y * PP j) (fun j => nrv (y * PP j) 65536) (fun j => u * nrv (y * PP j) 65536) (fun j => nrv (u * nrv (y * PP j) 65536) 65536) (fun j => dcy y u (PP j)) w hO hA hP hF hS dd hB hI n4 hRt hG (fun j hj => decay_ok (hin j hj)) (fun j hj => ⟨hb 2 j hj, fun w => heavy_ok (hin j hj) w⟩)
  · exact move3 B P n cP cF cS cap gP gF gS aP aF aS a cnt fac good u r1 r2 r3 r4 k z o y mo gr PP FF SS G Gr _ _ _ (fun j => y * PP j) (fun j => nrv (y * PP j) 65536) (fun j => u * nrv (y * PP j) 65536) (fun j => nrv (u * nrv (y * PP j) 65536) 65536) (fun j => dcy y u (PP j)) w hO hA hP hF hS dd hB hI n4 hRt hG (fun j hj => decay_ok (hin j hj)) (fun j hj => ⟨hb 3 j hj, fun w => even_ok (hin j hj) w⟩)
end Vo
end Go.Proofs.Ytajljeegkmkkcaa
