/- A run of the program over gradients (written by tools/genow.py). -/
import Derived.Test.YtajljeegkmkkcaaOv
import Derived.Test.YtajljeegkmkkcaaLza
namespace Go.Proofs.Ytajljeegkmkkcaa
namespace Vo
open Go.ChangeShapes Go.WideShapes Go.ChangeAt Go.RowKit Go.Joins Go.Sort
open Vl
set_option linter.unusedVariables false
set_option linter.unusedSimpArgs false
/-- the states of a run -/
noncomputable def sq (R : Rl) (n : Nat) (U : Int → Int) (GG : Int → (Nat → Int) → Nat → Int) (L : Nat → LV) (st : St) : Nat → St
  | 0 => st
  | k + 1 => (sq R n U GG L st k).next R n (U (sq R n U GG L st k).c) (GG (sq R n U GG L st k).f (L k).D) (L k).D
/-- where a run stops -/
def Stp (R : Rl) (n : Nat) (U : Int → Int) (GG : Int → (Nat → Int) → Nat → Int) (L : Nat → LV) (st : St) (k : Nat) : Prop := (sq R n U GG L st k).c = 1000000 ∨ (L k).r ≠ n
/-- what rates and gradients are, for one side -/
def Env (FR FG : Nat) (R : Rl) (n : Nat) (U : Int → Int) (GG : Int → (Nat → Int) → Nat → Int) : Prop := True
theorem sw_no {E P n x : Nat} {w : World} {p f s : Option Addr} {A B C : Nat → Int} (q1 : OwnL E w p n A) (q2 : OwnL E w f n B) (q3 : OwnL E w s n C) (hx : x < E) (hp : x ≠ P) : ¬ SW P n p f s x := fun h => by
  rcases h with h | h | h | h
  · exact hp h
  · have := (q1.blk h).1; omega
  · have := (q2.blk h).1; omega
  · have := (q3.blk h).1; omega
theorem sw_ge {E P n B0 : Nat} {w : World} {p f s : Option Addr} {A B C : Nat → Int} (q1 : OwnL E w p n A) (q2 : OwnL E w f n B) (q3 : OwnL E w s n C) (hP : B0 ≤ P) (hE : B0 ≤ E) : ∀ b, SW P n p f s b → B0 ≤ b := fun b h => by
  rcases h with h | h | h | h
  · omega
  · have := (q1.blk h).1; omega
  · have := (q2.blk h).1; omega
  · have := (q3.blk h).1; omega
/-- a run's outcome: how many steps, and the state behind them, its lists one's own -/
def RunR (n m : Nat) (S : Nat → St) (X : Nat → Prop) (w : World) (e : Ending) (w' : World) : Prop :=
  ∃ (k : Nat) (p f s : Option Addr) (c d g : Nat), (k ≤ m ∧ (∀ t, t < k → ¬ X t) ∧ (k = m ∨ X k)) ∧ e = .returned (.tuple #[.agg #[.slice p n c, .slice f n d, .slice s n g, .int .i64 (S k).c, .int .i64 (S k).f, .int .i64 (S k).g], .int .i64 (k : Int)]) ∧
    (OwnL w.heap.size w' p n (S k).P ∧ OwnL w.heap.size w' f n (S k).F ∧ OwnL w.heap.size w' s n (S k).S) ∧ (Bhd p f n ∧ Bhd f s n) ∧ (S k).ok n ∧ Below w.heap.size w w'
set_option maxHeartbeats 4000000 in
set_option maxRecDepth 100000 in
theorem runI (R : Rl) (hR : R.ok) (n m cP cF cS cl : Nat) (st : St) (hs : st.ok n) (aP aF aS ls : Option Addr) (L : Nat → LV) (U : Int → Int) (GG : Int → (Nat → Int) → Nat → Int) (w : World)
    (h1 : Ints w.heap.size w aP n st.P) (h2 : Ints w.heap.size w aF n st.F) (h3 : Ints w.heap.size w aS n st.S) (z1 : aP = none → n = 0 ∧ cP = 0) (z2 : aF = none → n = 0 ∧ cF = 0) (z3 : aS = none → n = 0 ∧ cS = 0) (hL : LL w.heap.size w ls m L) (hm : (m : Int) ≤ 1048576)
    (hU : ∀ t, 0 ≤ t → t < 1000000 → (0 ≤ U t ∧ U t ≤ 16777216) ∧ ∀ w, Calls Try.prog 64 #[.agg #[.int .i64 R.r1, .int .i64 R.r2, .int .i64 R.r3, .int .i64 R.r4], .int .i64 t] w fun e w' => e = .returned (.int .i64 (U t)) ∧ Below w.heap.size w w')
    (hG : ∀ f Gr, fac f = true → ib (-16777216) 16777216 n Gr = true → (∀ j, j < n → -16777216 ≤ GG f Gr j ∧ GG f Gr j ≤ 16777216) ∧ ∀ w a cap, Ints w.heap.size w a n Gr → Calls Try.prog 66 #[.agg #[.int .i64 R.d, .int .i64 R.r1, .int .i64 R.r2, .int .i64 R.r3, .int .i64 R.r4, .int .i64 R.k, .int .i64 R.z, .int .i64 R.o, .int .i64 R.y, .int .i64 R.mo, .int .i64 R.gr], .slice a n cap, .int .i64 f] w (ListR n (GG f Gr) w)) :
    Calls Try.prog 36 #[.agg #[.int .i64 R.d, .int .i64 R.r1, .int .i64 R.r2, .int .i64 R.r3, .int .i64 R.r4, .int .i64 R.k, .int .i64 R.z, .int .i64 R.o, .int .i64 R.y, .int .i64 R.mo, .int .i64 R.gr], .agg #[.slice aP n cP, .slice aF n cF, .slice aS n cS, .int .i64 st.c, .int .i64 st.f, .int .i64 st.g], .slice ls m cl] w (RunR n m (sq R n U GG L st) (Stp R n U GG L st) w) := by
  obtain ⟨W1, hW1⟩ : ∃ W1, w.alloc (.cells #[.int .i64 R.d, .int .i64 R.r1, .int .i64 R.r2, .int .i64 R.r3, .int .i64 R.r4, .int .i64 R.k, .int .i64 R.z, .int .i64 R.o, .int .i64 R.y, .int .i64 R.mo, .int .i64 R.gr] 35) = W1 := ⟨_, rfl⟩
  have n1 : Below w.heap.size w W1 := hW1 ▸ (Below.refl _ _).alloc (Nat.le_refl _) _
  have y1 : w.heap.size < W1.heap.size := by rw [← hW1]; simp
  obtain ⟨W2, hW2⟩ : ∃ W2, W1.alloc (.cells #[.slice aP n cP, .slice aF n cF, .slice aS n cS, .int .i64 st.c, .int .i64 st.f, .int .i64 st.g] 30) = W2 := ⟨_, rfl⟩
  have n2 : Below W1.heap.size W1 W2 := hW2 ▸ (Below.refl _ _).alloc (Nat.le_refl _) _
  have y2 : W1.heap.size < W2.heap.size := by rw [← hW2]; simp
  obtain ⟨W3, hW3⟩ : ∃ W3, W2.alloc (.cells #[.slice none 0 0, .slice none 0 0, .slice none 0 0, .int .i64 0, .int .i64 0, .int .i64 0] 30) = W3 := ⟨_, rfl⟩
  have n3 : Below W2.heap.size W2 W3 := hW3 ▸ (Below.refl _ _).alloc (Nat.le_refl _) _
  have y3 : W2.heap.size < W3.heap.size := by rw [← hW3]; simp
  have LR := hide (show Lis [(⟨w.heap.size, 0, none⟩, .int .i64 R.d), (⟨w.heap.size, 1, none⟩, .int .i64 R.r1), (⟨w.heap.size, 2, none⟩, .int .i64 R.r2), (⟨w.heap.size, 3, none⟩, .int .i64 R.r3), (⟨w.heap.size, 4, none⟩, .int .i64 R.r4), (⟨w.heap.size, 5, none⟩, .int .i64 R.k), (⟨w.heap.size, 6, none⟩, .int .i64 R.z), (⟨w.heap.size, 7, none⟩, .int .i64 R.o), (⟨w.heap.size, 8, none⟩, .int .i64 R.y), (⟨w.heap.size, 9, none⟩, .int .i64 R.mo), (⟨w.heap.size, 10, none⟩, .int .i64 R.gr)] W3 from (show Lis _ W1 from fun x hx => by
      simp only [List.mem_cons, List.not_mem_nil, or_false] at hx
      rcases hx with rfl | rfl | rfl | rfl | rfl | rfl | rfl | rfl | rfl | rfl | rfl <;> (rw [← hW1]; simp [go_sem])).below n2 |>.below n3)
  have O1 := hide ((show C6 W2 W1.heap.size (OV aP aF aS n cP cF cS st.c st.f st.g) from ⟨fun i hi => by rcases (by omega : i = 0 ∨ i = 1 ∨ i = 2 ∨ i = 3 ∨ i = 4 ∨ i = 5) with rfl | rfl | rfl | rfl | rfl | rfl <;> (rw [← hW2]; simp [go_sem, OV]), fun i => by rw [← hW2]; simp [go_sem], y2⟩).kept (Kept.of_below (S := fun _ => False) n3) id)
  have R1 := hide (show C6 W3 W2.heap.size (OV none none none 0 0 0 0 0 0 0) from ⟨fun i hi => by rcases (by omega : i = 0 ∨ i = 1 ∨ i = 2 ∨ i = 3 ∨ i = 4 ∨ i = 5) with rfl | rfl | rfl | rfl | rfl | rfl <;> (rw [← hW3]; simp [go_sem, OV]), fun i => by rw [← hW3]; simp [go_sem], y3⟩)
  have B3 := hide ((n1.trans (n2.mono n1.size)).trans (n3.mono (Nat.le_trans n1.size n2.size)))
  have Y := hide (And.intro y1 (And.intro y2 y3))
  have n4 : (n : Int) ≤ 4096 := hs.1
  have HL := hide (hL.below B3.out)
  have CC := hide (copiedO aP aF aS n cP cF cS st.P st.F st.S st.c st.f st.g W3 ((h1.below B3.out).mono B3.out.size) ((h2.below B3.out).mono B3.out.size) ((h3.below B3.out).mono B3.out.size) z1 z2 z3 n4)
  have HU := hide hU
  have HG := hide hG
  have HR := hide hR
  have H0 := hide hs
  have o0 : W3.cell? ⟨W1.heap.size, 0, none⟩ = some (.slice aP n cP) := O1.out.c 0 (by omega)
  have o1 : W3.cell? ⟨W1.heap.size, 1, none⟩ = some (.slice aF n cF) := O1.out.c 1 (by omega)
  have o2 : W3.cell? ⟨W1.heap.size, 2, none⟩ = some (.slice aS n cS) := O1.out.c 2 (by omega)
  have o3 : W3.cell? ⟨W1.heap.size, 3, none⟩ = some (.int .i64 st.c) := O1.out.c 3 (by omega)
  have o4 : W3.cell? ⟨W1.heap.size, 4, none⟩ = some (.int .i64 st.f) := O1.out.c 4 (by omega)
  have o5 : W3.cell? ⟨W1.heap.size, 5, none⟩ = some (.int .i64 st.g) := O1.out.c 5 (by omega)
  clear h1 h2 h3 z1 z2 z3 hL hU hG hR hs n1 n2 n3 y1 y2 y3
  go_enter Try.func36, Try.ntmps36
  go_wp2_with fail
  refine CC.out.mono ?_; rintro e X ⟨p, f, s, c, d, g, rfl, ⟨q1, q2, q3⟩, ⟨v1, v2⟩, bx⟩
  have OX := hide (O1.out.kept (Kept.of_below (S := fun _ => False) bx) id)
  have RX := hide (R1.out.kept (Kept.of_below (S := fun _ => False) bx) id)
  have LX := hide (LR.out.below bx)
  have QP := hide q1
  have QF := hide q2
  have QS := hide q3
  have AP := hide (And.intro v1 v2)
  have BX := hide (B3.out.trans (bx.mono B3.out.size))
  have SX := hide bx.size
  have LLX := hide (HL.out.below (bx.mono B3.out.size))
  clear q1 q2 q3 v1 v2 bx CC O1 R1 LR HL hW1 hW2 hW3 o0 o1 o2 o3 o4 o5
  obtain ⟨S0, hS0⟩ : ∃ S0, X.setCell ⟨W1.heap.size, 0, none⟩ (.slice p n c) = S0 := ⟨_, rfl⟩
  have OS0 := hide (hS0 ▸ OX.out.set 0 (.slice p n c) (by omega) : C6 S0 W1.heap.size _)
  have eS0 : X.cell? ⟨W1.heap.size, 0, none⟩ = some (.slice aP n cP) := OX.out.c 0 (by omega)
  have fS0 := OX.out.f 0
  have kS0 : Kept (· = W1.heap.size) X S0 := hS0 ▸ Kept.setCell X ⟨W1.heap.size, 0, none⟩ _
  have BS0 := hide (hS0 ▸ BX.out.setCell (p := ⟨W1.heap.size, 0, none⟩) (Nat.le_of_lt Y.out.1) _ : Below w.heap.size w S0)
  obtain ⟨S1, hS1⟩ : ∃ S1, S0.setCell ⟨W1.heap.size, 1, none⟩ (.slice f n d) = S1 := ⟨_, rfl⟩
  have OS1 := hide (hS1 ▸ OS0.out.set 1 (.slice f n d) (by omega) : C6 S1 W1.heap.size _)
  have eS1 : S0.cell? ⟨W1.heap.size, 1, none⟩ = some (.slice aF n cF) := OS0.out.c 1 (by omega)
  have fS1 := OS0.out.f 1
  have kS1 : Kept (· = W1.heap.size) S0 S1 := hS1 ▸ Kept.setCell S0 ⟨W1.heap.size, 1, none⟩ _
  have BS1 := hide (hS1 ▸ BS0.out.setCell (p := ⟨W1.heap.size, 1, none⟩) (Nat.le_of_lt Y.out.1) _ : Below w.heap.size w S1)
  obtain ⟨S2, hS2⟩ : ∃ S2, S1.setCell ⟨W1.heap.size, 2, none⟩ (.slice s n g) = S2 := ⟨_, rfl⟩
  have OS2 := hide (hS2 ▸ OS1.out.set 2 (.slice s n g) (by omega) : C6 S2 W1.heap.size _)
  have eS2 : S1.cell? ⟨W1.heap.size, 2, none⟩ = some (.slice aS n cS) := OS1.out.c 2 (by omega)
  have fS2 := OS1.out.f 2
  have kS2 : Kept (· = W1.heap.size) S1 S2 := hS2 ▸ Kept.setCell S1 ⟨W1.heap.size, 2, none⟩ _
  have BS2 := hide (hS2 ▸ BS1.out.setCell (p := ⟨W1.heap.size, 2, none⟩) (Nat.le_of_lt Y.out.1) _ : Below w.heap.size w S2)
  obtain ⟨S3, hS3⟩ : ∃ S3, S2.setCell ⟨W1.heap.size, 3, none⟩ (.int .i64 st.c) = S3 := ⟨_, rfl⟩
  have OS3 := hide (hS3 ▸ OS2.out.set 3 (.int .i64 st.c) (by omega) : C6 S3 W1.heap.size _)
  have eS3 : S2.cell? ⟨W1.heap.size, 3, none⟩ = some (.int .i64 st.c) := OS2.out.c 3 (by omega)
  have fS3 := OS2.out.f 3
  have kS3 : Kept (· = W1.heap.size) S2 S3 := hS3 ▸ Kept.setCell S2 ⟨W1.heap.size, 3, none⟩ _
  have BS3 := hide (hS3 ▸ BS2.out.setCell (p := ⟨W1.heap.size, 3, none⟩) (Nat.le_of_lt Y.out.1) _ : Below w.heap.size w S3)
  obtain ⟨S4, hS4⟩ : ∃ S4, S3.setCell ⟨W1.heap.size, 4, none⟩ (.int .i64 st.f) = S4 := ⟨_, rfl⟩
  have OS4 := hide (hS4 ▸ OS3.out.set 4 (.int .i64 st.f) (by omega) : C6 S4 W1.heap.size _)
  have eS4 : S3.cell? ⟨W1.heap.size, 4, none⟩ = some (.int .i64 st.f) := OS3.out.c 4 (by omega)
  have fS4 := OS3.out.f 4
  have kS4 : Kept (· = W1.heap.size) S3 S4 := hS4 ▸ Kept.setCell S3 ⟨W1.heap.size, 4, none⟩ _
  have BS4 := hide (hS4 ▸ BS3.out.setCell (p := ⟨W1.heap.size, 4, none⟩) (Nat.le_of_lt Y.out.1) _ : Below w.heap.size w S4)
  obtain ⟨S5, hS5⟩ : ∃ S5, S4.setCell ⟨W1.heap.size, 5, none⟩ (.int .i64 st.g) = S5 := ⟨_, rfl⟩
  have OS5 := hide (hS5 ▸ OS4.out.set 5 (.int .i64 st.g) (by omega) : C6 S5 W1.heap.size _)
  have eS5 : S4.cell? ⟨W1.heap.size, 5, none⟩ = some (.int .i64 st.g) := OS4.out.c 5 (by omega)
  have fS5 := OS4.out.f 5
  have kS5 : Kept (· = W1.heap.size) S4 S5 := hS5 ▸ Kept.setCell S4 ⟨W1.heap.size, 5, none⟩ _
  have BS5 := hide (hS5 ▸ BS4.out.setCell (p := ⟨W1.heap.size, 5, none⟩) (Nat.le_of_lt Y.out.1) _ : Below w.heap.size w S5)
  have kk : Kept (· = W1.heap.size) X S5 := ((((kS0.trans kS1).trans kS2).trans kS3).trans kS4).trans kS5
  have OS := hide (OS5.out.same (fun i hi => by rcases (by omega : i = 0 ∨ i = 1 ∨ i = 2 ∨ i = 3 ∨ i = 4 ∨ i = 5) with rfl | rfl | rfl | rfl | rfl | rfl <;> rfl) : C6 S5 W1.heap.size (OV p f s n c d g st.c st.f st.g))
  have RS := hide (RX.out.kept kk (by have := Y.out; show ¬ W2.heap.size = W1.heap.size; omega))
  have LS := hide (show Lis [(⟨w.heap.size, 0, none⟩, .int .i64 R.d), (⟨w.heap.size, 1, none⟩, .int .i64 R.r1), (⟨w.heap.size, 2, none⟩, .int .i64 R.r2), (⟨w.heap.size, 3, none⟩, .int .i64 R.r3), (⟨w.heap.size, 4, none⟩, .int .i64 R.r4), (⟨w.heap.size, 5, none⟩, .int .i64 R.k), (⟨w.heap.size, 6, none⟩, .int .i64 R.z), (⟨w.heap.size, 7, none⟩, .int .i64 R.o), (⟨w.heap.size, 8, none⟩, .int .i64 R.y), (⟨w.heap.size, 9, none⟩, .int .i64 R.mo), (⟨w.heap.size, 10, none⟩, .int .i64 R.gr)] S5 from fun x hx => by
      have hb := World.block_lt_of_cell? _ _ (LX.out x hx)
      have hx' := LX.out x hx
      simp only [List.mem_cons, List.not_mem_nil, or_false] at hx
      refine (World.cell?_of_block (w := X) (a := x.1) (kk.block x.1.block hb ?_)).trans hx'
      have := Y.out
      rcases hx with rfl | rfl | rfl | rfl | rfl | rfl | rfl | rfl | rfl | rfl | rfl <;> (show ¬ w.heap.size = W1.heap.size; omega))
  replace QP := hide (QP.out.kept kk (fun b hb e => by have := (QP.out.blk hb).1; have := Y.out; have e : b = W1.heap.size := e; omega))
  replace QF := hide (QF.out.kept kk (fun b hb e => by have := (QF.out.blk hb).1; have := Y.out; have e : b = W1.heap.size := e; omega))
  replace QS := hide (QS.out.kept kk (fun b hb e => by have := (QS.out.blk hb).1; have := Y.out; have e : b = W1.heap.size := e; omega))
  have LLS := hide (LLX.out.below (kk.below (Nat.le_trans B3.out.size SX.out) (fun b e => by have := Y.out; have e : b = W1.heap.size := e; omega)))
  have SS := hide (Nat.le_trans SX.out kk.size)
  have BS := BS5
  clear kk kS0 kS1 kS2 kS3 kS4 kS5
  go_wp2_with fail
  clear eS0 fS0 hS0 eS1 fS1 hS1 eS2 fS2 hS2 eS3 fS3 hS3 eS4 fS4 hS4 eS5 fS5 hS5 OS0 OS1 OS2 OS3 OS4 OS5 BS0 BS1 BS2 BS3 BS4 LX LLX OX RX BX
  go_loopw [14] (fun i wx => ∃ k : Nat, k ≤ m ∧ i = .int .i64 k ∧ (∀ t, t < k → ¬ Stp R n U GG L st t) ∧ ((sq R n U GG L st) k).ok n ∧ C6 wx W1.heap.size (OV p f s n c d g ((sq R n U GG L st) k).c ((sq R n U GG L st) k).f ((sq R n U GG L st) k).g) ∧ (OwnL W3.heap.size wx p n ((sq R n U GG L st) k).P ∧ OwnL W3.heap.size wx f n ((sq R n U GG L st) k).F ∧ OwnL W3.heap.size wx s n ((sq R n U GG L st) k).S) ∧ Kept (SW W1.heap.size n p f s) S5 wx) (fun i _ => m - (intOf i).toNat)
  case atStart => exact ⟨0, Nat.zero_le _, rfl, fun t ht => by omega, H0.out, OS.out, ⟨QP.out, QF.out, QS.out⟩, Kept.refl _ _⟩
  case round =>
    obtain ⟨k, hk, rfl, hnst, hok, hc6, ⟨q1, q2, q3⟩, hK⟩ := hrel
    have HN := hide hnst
    have HO := hide hok
    have HC := hide hc6
    have HP := hide q1
    have HF := hide q2
    have HS := hide q3
    have HK := hide hK
    clear hnst hc6 q1 q2 q3 hK
    have cb : 0 ≤ ((sq R n U GG L st) k).c ∧ ((sq R n U GG L st) k).c ≤ 1000000 := hok.2.2.2.1
    have CB := hide cb
    clear hok
    obtain ⟨cc, hcc⟩ : ∃ cc, ((sq R n U GG L st) k).c = cc := ⟨_, rfl⟩
    obtain ⟨ff, hff⟩ : ∃ ff, ((sq R n U GG L st) k).f = ff := ⟨_, rfl⟩
    obtain ⟨gg, hgg⟩ : ∃ gg, ((sq R n U GG L st) k).g = gg := ⟨_, rfl⟩
    have EC := hide (And.intro hcc (And.intro hff hgg))
    have s3 : wr.cell? ⟨W1.heap.size, 3, none⟩ = some (.int .i64 cc) := by rw [← hcc]; exact HC.out.c 3 (by omega)
    have s4 : wr.cell? ⟨W1.heap.size, 4, none⟩ = some (.int .i64 ff) := by rw [← hff]; exact HC.out.c 4 (by omega)
    have s5 : wr.cell? ⟨W1.heap.size, 5, none⟩ = some (.int .i64 gg) := by rw [← hgg]; exact HC.out.c 5 (by omega)
    have s0 : wr.cell? ⟨W1.heap.size, 0, none⟩ = some (.slice p n c) := HC.out.c 0 (by omega)
    have s1 : wr.cell? ⟨W1.heap.size, 1, none⟩ = some (.slice f n d) := HC.out.c 1 (by omega)
    have s2 : wr.cell? ⟨W1.heap.size, 2, none⟩ = some (.slice s n g) := HC.out.c 2 (by omega)
    clear hcc hff hgg cb
    by_cases hkm : k < m
    · have kI : (k : Int) < (m : Int) := by omega
      have wk : IntKind.i64.wrap ((k : Int) + 1) = (k : Int) + 1 := by rw [IntKind.wrap_i64]; omega
      have BK := hide (HK.out.below (Nat.le_trans B3.out.size SS.out) (sw_ge QP.out QF.out QS.out (Nat.le_of_lt Y.out.1) (by have := Y.out; omega)) : Below w.heap.size S5 wr)
      rcases LLS.out.below BK.out with h0 | ⟨blk, off, rfl, hblk, hcl⟩
      · omega
      obtain ⟨cl0, il0⟩ := hcl k hkm
      have IL := hide il0
      clear hcl il0
      obtain ⟨la, hla⟩ : ∃ la, (L k).a = la := ⟨_, rfl⟩
      obtain ⟨lr, hlr⟩ : ∃ lr, (L k).r = lr := ⟨_, rfl⟩
      obtain ⟨lc, hlc⟩ : ∃ lc, (L k).cap = lc := ⟨_, rfl⟩
      rw [hla, hlr, hlc] at cl0
      rw [hla, hlr] at IL
      have ELR := hide hlr
      clear hla hlr hlc
      by_cases hc : cc = 1000000
      case pos =>
        have STOP := hide (show Stp R n U GG L st k from .inl (EC.out.1.trans hc))
        have t1 : (cc == 1000000) = true := by simp [hc]
        clear hc
        have RZ := hide (RS.out.kept HK.out (sw_no QP.out QF.out QS.out Y.out.2.2 (by have := Y.out; omega)))
        have BZ := hide (BS.out.trans (HK.out.below BS.out.size (sw_ge QP.out QF.out QS.out (Nat.le_of_lt Y.out.1) (by have := Y.out; omega))))
        obtain ⟨T0, hT0⟩ : ∃ T0, wr.setCell ⟨W2.heap.size, 0, none⟩ (.slice p n c) = T0 := ⟨_, rfl⟩
        have RT0 := hide (hT0 ▸ RZ.out.set 0 (.slice p n c) (by omega) : C6 T0 W2.heap.size _)
        have eT0 : wr.cell? ⟨W2.heap.size, 0, none⟩ = some (.slice none 0 0) := RZ.out.c 0 (by omega)
        have fT0 := RZ.out.f 0
        have kT0 : Kept (· = W2.heap.size) wr T0 := hT0 ▸ Kept.setCell wr ⟨W2.heap.size, 0, none⟩ _
        have BT0 := hide (hT0 ▸ BZ.out.setCell (p := ⟨W2.heap.size, 0, none⟩) (by have := Y.out; show w.heap.size ≤ W2.heap.size; omega) _ : Below w.heap.size w T0)
        obtain ⟨T1, hT1⟩ : ∃ T1, T0.setCell ⟨W2.heap.size, 1, none⟩ (.slice f n d) = T1 := ⟨_, rfl⟩
        have RT1 := hide (hT1 ▸ RT0.out.set 1 (.slice f n d) (by omega) : C6 T1 W2.heap.size _)
        have eT1 : T0.cell? ⟨W2.heap.size, 1, none⟩ = some (.slice none 0 0) := RT0.out.c 1 (by omega)
        have fT1 := RT0.out.f 1
        have kT1 : Kept (· = W2.heap.size) T0 T1 := hT1 ▸ Kept.setCell T0 ⟨W2.heap.size, 1, none⟩ _
        have BT1 := hide (hT1 ▸ BT0.out.setCell (p := ⟨W2.heap.size, 1, none⟩) (by have := Y.out; show w.heap.size ≤ W2.heap.size; omega) _ : Below w.heap.size w T1)
        obtain ⟨T2, hT2⟩ : ∃ T2, T1.setCell ⟨W2.heap.size, 2, none⟩ (.slice s n g) = T2 := ⟨_, rfl⟩
        have RT2 := hide (hT2 ▸ RT1.out.set 2 (.slice s n g) (by omega) : C6 T2 W2.heap.size _)
        have eT2 : T1.cell? ⟨W2.heap.size, 2, none⟩ = some (.slice none 0 0) := RT1.out.c 2 (by omega)
        have fT2 := RT1.out.f 2
        have kT2 : Kept (· = W2.heap.size) T1 T2 := hT2 ▸ Kept.setCell T1 ⟨W2.heap.size, 2, none⟩ _
        have BT2 := hide (hT2 ▸ BT1.out.setCell (p := ⟨W2.heap.size, 2, none⟩) (by have := Y.out; show w.heap.size ≤ W2.heap.size; omega) _ : Below w.heap.size w T2)
        obtain ⟨T3, hT3⟩ : ∃ T3, T2.setCell ⟨W2.heap.size, 3, none⟩ (.int .i64 cc) = T3 := ⟨_, rfl⟩
        have RT3 := hide (hT3 ▸ RT2.out.set 3 (.int .i64 cc) (by omega) : C6 T3 W2.heap.size _)
        have eT3 : T2.cell? ⟨W2.heap.size, 3, none⟩ = some (.int .i64 0) := RT2.out.c 3 (by omega)
        have fT3 := RT2.out.f 3
        have kT3 : Kept (· = W2.heap.size) T2 T3 := hT3 ▸ Kept.setCell T2 ⟨W2.heap.size, 3, none⟩ _
        have BT3 := hide (hT3 ▸ BT2.out.setCell (p := ⟨W2.heap.size, 3, none⟩) (by have := Y.out; show w.heap.size ≤ W2.heap.size; omega) _ : Below w.heap.size w T3)
        obtain ⟨T4, hT4⟩ : ∃ T4, T3.setCell ⟨W2.heap.size, 4, none⟩ (.int .i64 ff) = T4 := ⟨_, rfl⟩
        have RT4 := hide (hT4 ▸ RT3.out.set 4 (.int .i64 ff) (by omega) : C6 T4 W2.heap.size _)
        have eT4 : T3.cell? ⟨W2.heap.size, 4, none⟩ = some (.int .i64 0) := RT3.out.c 4 (by omega)
        have fT4 := RT3.out.f 4
        have kT4 : Kept (· = W2.heap.size) T3 T4 := hT4 ▸ Kept.setCell T3 ⟨W2.heap.size, 4, none⟩ _
        have BT4 := hide (hT4 ▸ BT3.out.setCell (p := ⟨W2.heap.size, 4, none⟩) (by have := Y.out; show w.heap.size ≤ W2.heap.size; omega) _ : Below w.heap.size w T4)
        obtain ⟨T5, hT5⟩ : ∃ T5, T4.setCell ⟨W2.heap.size, 5, none⟩ (.int .i64 gg) = T5 := ⟨_, rfl⟩
        have RT5 := hide (hT5 ▸ RT4.out.set 5 (.int .i64 gg) (by omega) : C6 T5 W2.heap.size _)
        have eT5 : T4.cell? ⟨W2.heap.size, 5, none⟩ = some (.int .i64 0) := RT4.out.c 5 (by omega)
        have fT5 := RT4.out.f 5
        have kT5 : Kept (· = W2.heap.size) T4 T5 := hT5 ▸ Kept.setCell T4 ⟨W2.heap.size, 5, none⟩ _
        have BT5 := hide (hT5 ▸ BT4.out.setCell (p := ⟨W2.heap.size, 5, none⟩) (by have := Y.out; show w.heap.size ≤ W2.heap.size; omega) _ : Below w.heap.size w T5)
        have kk : Kept (· = W2.heap.size) wr T5 := ((((kT0.trans kT1).trans kT2).trans kT3).trans kT4).trans kT5
        have ZP := hide ((HP.out.kept kk (fun b hb e => by have := (HP.out.blk hb).1; have := Y.out; have e : b = W2.heap.size := e; omega)).mono (Nat.le_of_lt (Nat.lt_trans Y.out.1 (Nat.lt_trans Y.out.2.1 Y.out.2.2))))
        have ZF := hide ((HF.out.kept kk (fun b hb e => by have := (HF.out.blk hb).1; have := Y.out; have e : b = W2.heap.size := e; omega)).mono (Nat.le_of_lt (Nat.lt_trans Y.out.1 (Nat.lt_trans Y.out.2.1 Y.out.2.2))))
        have ZS := hide ((HS.out.kept kk (fun b hb e => by have := (HS.out.blk hb).1; have := Y.out; have e : b = W2.heap.size := e; omega)).mono (Nat.le_of_lt (Nat.lt_trans Y.out.1 (Nat.lt_trans Y.out.2.1 Y.out.2.2))))
        have r0 : T5.cell? ⟨W2.heap.size, 0, none⟩ = some (.slice p n c) := RT5.out.c 0 (by omega)
        have r1 : T5.cell? ⟨W2.heap.size, 1, none⟩ = some (.slice f n d) := RT5.out.c 1 (by omega)
        have r2 : T5.cell? ⟨W2.heap.size, 2, none⟩ = some (.slice s n g) := RT5.out.c 2 (by omega)
        have r3 : T5.cell? ⟨W2.heap.size, 3, none⟩ = some (.int .i64 cc) := RT5.out.c 3 (by omega)
        have r4 : T5.cell? ⟨W2.heap.size, 4, none⟩ = some (.int .i64 ff) := RT5.out.c 4 (by omega)
        have r5 : T5.cell? ⟨W2.heap.size, 5, none⟩ = some (.int .i64 gg) := RT5.out.c 5 (by omega)
        clear kk kT0 kT1 kT2 kT3 kT4 kT5
        go_wp2_with fail
        refine bodyPost_ret (v := .tuple #[.agg #[.slice p n c, .slice f n d, .slice s n g, .int .i64 cc, .int .i64 ff, .int .i64 gg], .int .i64 (k : Int)]) (by simp [results, Try.results36, go_sem, r0, r1, r2, r3, r4, r5]) rfl ?_
        exact ⟨k, p, f, s, c, d, g, ⟨by omega, HN.out, .inr STOP.out⟩, by rw [EC.out.1, EC.out.2.1, EC.out.2.2], ⟨ZP.out, ZF.out, ZS.out⟩, AP.out, HO.out, BT5.out⟩
      have t1 : (cc == 1000000) = false := by simp [hc]
      by_cases hl : lr = n
      case neg =>
        have STOP := hide (show Stp R n U GG L st k from .inr (by rw [ELR.out]; exact hl))
        have t2 : ((lr : Int) != (n : Int)) = true := by simp; omega
        clear hl hc
        have RZ := hide (RS.out.kept HK.out (sw_no QP.out QF.out QS.out Y.out.2.2 (by have := Y.out; omega)))
        have BZ := hide (BS.out.trans (HK.out.below BS.out.size (sw_ge QP.out QF.out QS.out (Nat.le_of_lt Y.out.1) (by have := Y.out; omega))))
        obtain ⟨T0, hT0⟩ : ∃ T0, wr.setCell ⟨W2.heap.size, 0, none⟩ (.slice p n c) = T0 := ⟨_, rfl⟩
        have RT0 := hide (hT0 ▸ RZ.out.set 0 (.slice p n c) (by omega) : C6 T0 W2.heap.size _)
        have eT0 : wr.cell? ⟨W2.heap.size, 0, none⟩ = some (.slice none 0 0) := RZ.out.c 0 (by omega)
        have fT0 := RZ.out.f 0
        have kT0 : Kept (· = W2.heap.size) wr T0 := hT0 ▸ Kept.setCell wr ⟨W2.heap.size, 0, none⟩ _
        have BT0 := hide (hT0 ▸ BZ.out.setCell (p := ⟨W2.heap.size, 0, none⟩) (by have := Y.out; show w.heap.size ≤ W2.heap.size; omega) _ : Below w.heap.size w T0)
        obtain ⟨T1, hT1⟩ : ∃ T1, T0.setCell ⟨W2.heap.size, 1, none⟩ (.slice f n d) = T1 := ⟨_, rfl⟩
        have RT1 := hide (hT1 ▸ RT0.out.set 1 (.slice f n d) (by omega) : C6 T1 W2.heap.size _)
        have eT1 : T0.cell? ⟨W2.heap.size, 1, none⟩ = some (.slice none 0 0) := RT0.out.c 1 (by omega)
        have fT1 := RT0.out.f 1
        have kT1 : Kept (· = W2.heap.size) T0 T1 := hT1 ▸ Kept.setCell T0 ⟨W2.heap.size, 1, none⟩ _
        have BT1 := hide (hT1 ▸ BT0.out.setCell (p := ⟨W2.heap.size, 1, none⟩) (by have := Y.out; show w.heap.size ≤ W2.heap.size; omega) _ : Below w.heap.size w T1)
        obtain ⟨T2, hT2⟩ : ∃ T2, T1.setCell ⟨W2.heap.size, 2, none⟩ (.slice s n g) = T2 := ⟨_, rfl⟩
        have RT2 := hide (hT2 ▸ RT1.out.set 2 (.slice s n g) (by omega) : C6 T2 W2.heap.size _)
        have eT2 : T1.cell? ⟨W2.heap.size, 2, none⟩ = some (.slice none 0 0) := RT1.out.c 2 (by omega)
        have fT2 := RT1.out.f 2
        have kT2 : Kept (· = W2.heap.size) T1 T2 := hT2 ▸ Kept.setCell T1 ⟨W2.heap.size, 2, none⟩ _
        have BT2 := hide (hT2 ▸ BT1.out.setCell (p := ⟨W2.heap.size, 2, none⟩) (by have := Y.out; show w.heap.size ≤ W2.heap.size; omega) _ : Below w.heap.size w T2)
        obtain ⟨T3, hT3⟩ : ∃ T3, T2.setCell ⟨W2.heap.size, 3, none⟩ (.int .i64 cc) = T3 := ⟨_, rfl⟩
        have RT3 := hide (hT3 ▸ RT2.out.set 3 (.int .i64 cc) (by omega) : C6 T3 W2.heap.size _)
        have eT3 : T2.cell? ⟨W2.heap.size, 3, none⟩ = some (.int .i64 0) := RT2.out.c 3 (by omega)
        have fT3 := RT2.out.f 3
        have kT3 : Kept (· = W2.heap.size) T2 T3 := hT3 ▸ Kept.setCell T2 ⟨W2.heap.size, 3, none⟩ _
        have BT3 := hide (hT3 ▸ BT2.out.setCell (p := ⟨W2.heap.size, 3, none⟩) (by have := Y.out; show w.heap.size ≤ W2.heap.size; omega) _ : Below w.heap.size w T3)
        obtain ⟨T4, hT4⟩ : ∃ T4, T3.setCell ⟨W2.heap.size, 4, none⟩ (.int .i64 ff) = T4 := ⟨_, rfl⟩
        have RT4 := hide (hT4 ▸ RT3.out.set 4 (.int .i64 ff) (by omega) : C6 T4 W2.heap.size _)
        have eT4 : T3.cell? ⟨W2.heap.size, 4, none⟩ = some (.int .i64 0) := RT3.out.c 4 (by omega)
        have fT4 := RT3.out.f 4
        have kT4 : Kept (· = W2.heap.size) T3 T4 := hT4 ▸ Kept.setCell T3 ⟨W2.heap.size, 4, none⟩ _
        have BT4 := hide (hT4 ▸ BT3.out.setCell (p := ⟨W2.heap.size, 4, none⟩) (by have := Y.out; show w.heap.size ≤ W2.heap.size; omega) _ : Below w.heap.size w T4)
        obtain ⟨T5, hT5⟩ : ∃ T5, T4.setCell ⟨W2.heap.size, 5, none⟩ (.int .i64 gg) = T5 := ⟨_, rfl⟩
        have RT5 := hide (hT5 ▸ RT4.out.set 5 (.int .i64 gg) (by omega) : C6 T5 W2.heap.size _)
        have eT5 : T4.cell? ⟨W2.heap.size, 5, none⟩ = some (.int .i64 0) := RT4.out.c 5 (by omega)
        have fT5 := RT4.out.f 5
        have kT5 : Kept (· = W2.heap.size) T4 T5 := hT5 ▸ Kept.setCell T4 ⟨W2.heap.size, 5, none⟩ _
        have BT5 := hide (hT5 ▸ BT4.out.setCell (p := ⟨W2.heap.size, 5, none⟩) (by have := Y.out; show w.heap.size ≤ W2.heap.size; omega) _ : Below w.heap.size w T5)
        have kk : Kept (· = W2.heap.size) wr T5 := ((((kT0.trans kT1).trans kT2).trans kT3).trans kT4).trans kT5
        have ZP := hide ((HP.out.kept kk (fun b hb e => by have := (HP.out.blk hb).1; have := Y.out; have e : b = W2.heap.size := e; omega)).mono (Nat.le_of_lt (Nat.lt_trans Y.out.1 (Nat.lt_trans Y.out.2.1 Y.out.2.2))))
        have ZF := hide ((HF.out.kept kk (fun b hb e => by have := (HF.out.blk hb).1; have := Y.out; have e : b = W2.heap.size := e; omega)).mono (Nat.le_of_lt (Nat.lt_trans Y.out.1 (Nat.lt_trans Y.out.2.1 Y.out.2.2))))
        have ZS := hide ((HS.out.kept kk (fun b hb e => by have := (HS.out.blk hb).1; have := Y.out; have e : b = W2.heap.size := e; omega)).mono (Nat.le_of_lt (Nat.lt_trans Y.out.1 (Nat.lt_trans Y.out.2.1 Y.out.2.2))))
        have r0 : T5.cell? ⟨W2.heap.size, 0, none⟩ = some (.slice p n c) := RT5.out.c 0 (by omega)
        have r1 : T5.cell? ⟨W2.heap.size, 1, none⟩ = some (.slice f n d) := RT5.out.c 1 (by omega)
        have r2 : T5.cell? ⟨W2.heap.size, 2, none⟩ = some (.slice s n g) := RT5.out.c 2 (by omega)
        have r3 : T5.cell? ⟨W2.heap.size, 3, none⟩ = some (.int .i64 cc) := RT5.out.c 3 (by omega)
        have r4 : T5.cell? ⟨W2.heap.size, 4, none⟩ = some (.int .i64 ff) := RT5.out.c 4 (by omega)
        have r5 : T5.cell? ⟨W2.heap.size, 5, none⟩ = some (.int .i64 gg) := RT5.out.c 5 (by omega)
        clear kk kT0 kT1 kT2 kT3 kT4 kT5
        go_wp2_with fail
        refine bodyPost_ret (v := .tuple #[.agg #[.slice p n c, .slice f n d, .slice s n g, .int .i64 cc, .int .i64 ff, .int .i64 gg], .int .i64 (k : Int)]) (by simp [results, Try.results36, go_sem, r0, r1, r2, r3, r4, r5]) rfl ?_
        exact ⟨k, p, f, s, c, d, g, ⟨by omega, HN.out, .inr STOP.out⟩, by rw [EC.out.1, EC.out.2.1, EC.out.2.2], ⟨ZP.out, ZF.out, ZS.out⟩, AP.out, HO.out, BT5.out⟩
      subst hl
      have HC2 := hide hc
      have t2 : ((lr : Int) != (lr : Int)) = false := by simp
      obtain ⟨⟨u0, u1⟩, hut⟩ := HU.out cc (by have := CB.out; rw [EC.out.1] at this; omega) (by have := CB.out; rw [EC.out.1] at this; omega)
      have fcc : fac ((sq R lr U GG L st) k).f = true := HO.out.2.2.2.2.2.2
      have STEP := hide (stepJ R HR.out ((sq R lr U GG L st) k) w.heap.size W3.heap.size W1.heap.size lr c d g lc p f s la (U cc) (GG ((sq R lr U GG L st) k).f (L k).D) (L k).D wr HO.out (by rw [EC.out.1]; exact hc) HC.out HP.out HF.out HS.out AP.out.1 AP.out.2 (Nat.lt_trans Y.out.2.1 Y.out.2.2) (Nat.le_of_lt Y.out.1) (Nat.le_trans SS.out HK.out.size) IL.out u0 u1 (by rw [EC.out.1]; exact hut) (fun hb => ⟨((HG.out ((sq R lr U GG L st) k).f (L k).D fcc hb).1), fun w' hI => (HG.out ((sq R lr U GG L st) k).f (L k).D fcc hb).2 w' la lc hI⟩))
      clear u0 u1 hut hc
      have lz := LS.out
      have l0 : wr.cell? ⟨w.heap.size, 0, none⟩ = some (.int .i64 R.d) := (World.cell?_of_block (w := S5) (a := ⟨w.heap.size, 0, none⟩) (HK.out.block _ (Nat.lt_of_lt_of_le (Nat.lt_trans Y.out.1 (Nat.lt_trans Y.out.2.1 Y.out.2.2)) SS.out) (sw_no QP.out QF.out QS.out (Nat.lt_trans Y.out.1 (Nat.lt_trans Y.out.2.1 Y.out.2.2)) (Nat.ne_of_lt Y.out.1)))).trans (lz (⟨w.heap.size, 0, none⟩, .int .i64 R.d) (.head _))
      have l1 : wr.cell? ⟨w.heap.size, 1, none⟩ = some (.int .i64 R.r1) := (World.cell?_of_block (w := S5) (a := ⟨w.heap.size, 1, none⟩) (HK.out.block _ (Nat.lt_of_lt_of_le (Nat.lt_trans Y.out.1 (Nat.lt_trans Y.out.2.1 Y.out.2.2)) SS.out) (sw_no QP.out QF.out QS.out (Nat.lt_trans Y.out.1 (Nat.lt_trans Y.out.2.1 Y.out.2.2)) (Nat.ne_of_lt Y.out.1)))).trans (lz (⟨w.heap.size, 1, none⟩, .int .i64 R.r1) (.tail _ (.head _)))
      have l2 : wr.cell? ⟨w.heap.size, 2, none⟩ = some (.int .i64 R.r2) := (World.cell?_of_block (w := S5) (a := ⟨w.heap.size, 2, none⟩) (HK.out.block _ (Nat.lt_of_lt_of_le (Nat.lt_trans Y.out.1 (Nat.lt_trans Y.out.2.1 Y.out.2.2)) SS.out) (sw_no QP.out QF.out QS.out (Nat.lt_trans Y.out.1 (Nat.lt_trans Y.out.2.1 Y.out.2.2)) (Nat.ne_of_lt Y.out.1)))).trans (lz (⟨w.heap.size, 2, none⟩, .int .i64 R.r2) (.tail _ (.tail _ (.head _))))
      have l3 : wr.cell? ⟨w.heap.size, 3, none⟩ = some (.int .i64 R.r3) := (World.cell?_of_block (w := S5) (a := ⟨w.heap.size, 3, none⟩) (HK.out.block _ (Nat.lt_of_lt_of_le (Nat.lt_trans Y.out.1 (Nat.lt_trans Y.out.2.1 Y.out.2.2)) SS.out) (sw_no QP.out QF.out QS.out (Nat.lt_trans Y.out.1 (Nat.lt_trans Y.out.2.1 Y.out.2.2)) (Nat.ne_of_lt Y.out.1)))).trans (lz (⟨w.heap.size, 3, none⟩, .int .i64 R.r3) (.tail _ (.tail _ (.tail _ (.head _)))))
      have l4 : wr.cell? ⟨w.heap.size, 4, none⟩ = some (.int .i64 R.r4) := (World.cell?_of_block (w := S5) (a := ⟨w.heap.size, 4, none⟩) (HK.out.block _ (Nat.lt_of_lt_of_le (Nat.lt_trans Y.out.1 (Nat.lt_trans Y.out.2.1 Y.out.2.2)) SS.out) (sw_no QP.out QF.out QS.out (Nat.lt_trans Y.out.1 (Nat.lt_trans Y.out.2.1 Y.out.2.2)) (Nat.ne_of_lt Y.out.1)))).trans (lz (⟨w.heap.size, 4, none⟩, .int .i64 R.r4) (.tail _ (.tail _ (.tail _ (.tail _ (.head _))))))
      have l5 : wr.cell? ⟨w.heap.size, 5, none⟩ = some (.int .i64 R.k) := (World.cell?_of_block (w := S5) (a := ⟨w.heap.size, 5, none⟩) (HK.out.block _ (Nat.lt_of_lt_of_le (Nat.lt_trans Y.out.1 (Nat.lt_trans Y.out.2.1 Y.out.2.2)) SS.out) (sw_no QP.out QF.out QS.out (Nat.lt_trans Y.out.1 (Nat.lt_trans Y.out.2.1 Y.out.2.2)) (Nat.ne_of_lt Y.out.1)))).trans (lz (⟨w.heap.size, 5, none⟩, .int .i64 R.k) (.tail _ (.tail _ (.tail _ (.tail _ (.tail _ (.head _)))))))
      have l6 : wr.cell? ⟨w.heap.size, 6, none⟩ = some (.int .i64 R.z) := (World.cell?_of_block (w := S5) (a := ⟨w.heap.size, 6, none⟩) (HK.out.block _ (Nat.lt_of_lt_of_le (Nat.lt_trans Y.out.1 (Nat.lt_trans Y.out.2.1 Y.out.2.2)) SS.out) (sw_no QP.out QF.out QS.out (Nat.lt_trans Y.out.1 (Nat.lt_trans Y.out.2.1 Y.out.2.2)) (Nat.ne_of_lt Y.out.1)))).trans (lz (⟨w.heap.size, 6, none⟩, .int .i64 R.z) (.tail _ (.tail _ (.tail _ (.tail _ (.tail _ (.tail _ (.head _))))))))
      have l7 : wr.cell? ⟨w.heap.size, 7, none⟩ = some (.int .i64 R.o) := (World.cell?_of_block (w := S5) (a := ⟨w.heap.size, 7, none⟩) (HK.out.block _ (Nat.lt_of_lt_of_le (Nat.lt_trans Y.out.1 (Nat.lt_trans Y.out.2.1 Y.out.2.2)) SS.out) (sw_no QP.out QF.out QS.out (Nat.lt_trans Y.out.1 (Nat.lt_trans Y.out.2.1 Y.out.2.2)) (Nat.ne_of_lt Y.out.1)))).trans (lz (⟨w.heap.size, 7, none⟩, .int .i64 R.o) (.tail _ (.tail _ (.tail _ (.tail _ (.tail _ (.tail _ (.tail _ (.head _)))))))))
      have l8 : wr.cell? ⟨w.heap.size, 8, none⟩ = some (.int .i64 R.y) := (World.cell?_of_block (w := S5) (a := ⟨w.heap.size, 8, none⟩) (HK.out.block _ (Nat.lt_of_lt_of_le (Nat.lt_trans Y.out.1 (Nat.lt_trans Y.out.2.1 Y.out.2.2)) SS.out) (sw_no QP.out QF.out QS.out (Nat.lt_trans Y.out.1 (Nat.lt_trans Y.out.2.1 Y.out.2.2)) (Nat.ne_of_lt Y.out.1)))).trans (lz (⟨w.heap.size, 8, none⟩, .int .i64 R.y) (.tail _ (.tail _ (.tail _ (.tail _ (.tail _ (.tail _ (.tail _ (.tail _ (.head _))))))))))
      have l9 : wr.cell? ⟨w.heap.size, 9, none⟩ = some (.int .i64 R.mo) := (World.cell?_of_block (w := S5) (a := ⟨w.heap.size, 9, none⟩) (HK.out.block _ (Nat.lt_of_lt_of_le (Nat.lt_trans Y.out.1 (Nat.lt_trans Y.out.2.1 Y.out.2.2)) SS.out) (sw_no QP.out QF.out QS.out (Nat.lt_trans Y.out.1 (Nat.lt_trans Y.out.2.1 Y.out.2.2)) (Nat.ne_of_lt Y.out.1)))).trans (lz (⟨w.heap.size, 9, none⟩, .int .i64 R.mo) (.tail _ (.tail _ (.tail _ (.tail _ (.tail _ (.tail _ (.tail _ (.tail _ (.tail _ (.head _)))))))))))
      have l10 : wr.cell? ⟨w.heap.size, 10, none⟩ = some (.int .i64 R.gr) := (World.cell?_of_block (w := S5) (a := ⟨w.heap.size, 10, none⟩) (HK.out.block _ (Nat.lt_of_lt_of_le (Nat.lt_trans Y.out.1 (Nat.lt_trans Y.out.2.1 Y.out.2.2)) SS.out) (sw_no QP.out QF.out QS.out (Nat.lt_trans Y.out.1 (Nat.lt_trans Y.out.2.1 Y.out.2.2)) (Nat.ne_of_lt Y.out.1)))).trans (lz (⟨w.heap.size, 10, none⟩, .int .i64 R.gr) (.tail _ (.tail _ (.tail _ (.tail _ (.tail _ (.tail _ (.tail _ (.tail _ (.tail _ (.tail _ (.head _))))))))))))
      clear lz
      go_wp2_with fail
      refine STEP.out.mono ?_; rintro e Z ⟨⟨v, rfl⟩, c6, ⟨w1, w2, w3⟩, kz⟩
      clear l0 l1 l2 l3 l4 l5 l6 l7 l8 l9 l10 s0 s1 s2 s3 s4 s5 cl0
      go_wp2_with fail
      go_roundw
      case rel =>
        have nx : (sq R lr U GG L st) (k + 1) = ((sq R lr U GG L st) k).next R lr (U cc) (GG ((sq R lr U GG L st) k).f (L k).D) (L k).D := by rw [show cc = ((sq R lr U GG L st) k).c from EC.out.1.symm]; rfl
        refine ⟨k + 1, by omega, by go_num, fun t ht => ?_, ?_, ?_, ?_, HK.out.trans kz⟩
        · by_cases e : t < k
          · exact HN.out t e
          · obtain rfl : t = k := by omega
            intro hst
            rcases hst with hst | hst
            · exact HC2.out (EC.out.1.symm.trans hst)
            · exact hst ELR.out
        · rw [nx]
          obtain ⟨⟨u0, u1⟩, -⟩ := HU.out cc (by have := CB.out; rw [EC.out.1] at this; omega) (by have := CB.out; have := HC2.out; rw [EC.out.1] at *; omega)
          exact St.next_ok HO.out HR.out u0 u1 (fun hb => (HG.out _ _ HO.out.2.2.2.2.2.2 hb).1) (by rw [EC.out.1]; exact HC2.out)
        · rw [nx]; exact c6
        · rw [nx]; exact ⟨w1, w2, w3⟩
      case measure => simp [intOf]; omega
    · have lk : decide ((k : Int) < (m : Int)) = false := decide_eq_false (by omega)
      have lk' : decide (k < m) = false := decide_eq_false (by omega)
      obtain rfl : k = m := by omega
      have RZ := hide (RS.out.kept HK.out (sw_no QP.out QF.out QS.out Y.out.2.2 (by have := Y.out; omega)))
      have BZ := hide (BS.out.trans (HK.out.below BS.out.size (sw_ge QP.out QF.out QS.out (Nat.le_of_lt Y.out.1) (by have := Y.out; omega))))
      obtain ⟨T0, hT0⟩ : ∃ T0, wr.setCell ⟨W2.heap.size, 0, none⟩ (.slice p n c) = T0 := ⟨_, rfl⟩
      have RT0 := hide (hT0 ▸ RZ.out.set 0 (.slice p n c) (by omega) : C6 T0 W2.heap.size _)
      have eT0 : wr.cell? ⟨W2.heap.size, 0, none⟩ = some (.slice none 0 0) := RZ.out.c 0 (by omega)
      have fT0 := RZ.out.f 0
      have kT0 : Kept (· = W2.heap.size) wr T0 := hT0 ▸ Kept.setCell wr ⟨W2.heap.size, 0, none⟩ _
      have BT0 := hide (hT0 ▸ BZ.out.setCell (p := ⟨W2.heap.size, 0, none⟩) (by have := Y.out; show w.heap.size ≤ W2.heap.size; omega) _ : Below w.heap.size w T0)
      obtain ⟨T1, hT1⟩ : ∃ T1, T0.setCell ⟨W2.heap.size, 1, none⟩ (.slice f n d) = T1 := ⟨_, rfl⟩
      have RT1 := hide (hT1 ▸ RT0.out.set 1 (.slice f n d) (by omega) : C6 T1 W2.heap.size _)
      have eT1 : T0.cell? ⟨W2.heap.size, 1, none⟩ = some (.slice none 0 0) := RT0.out.c 1 (by omega)
      have fT1 := RT0.out.f 1
      have kT1 : Kept (· = W2.heap.size) T0 T1 := hT1 ▸ Kept.setCell T0 ⟨W2.heap.size, 1, none⟩ _
      have BT1 := hide (hT1 ▸ BT0.out.setCell (p := ⟨W2.heap.size, 1, none⟩) (by have := Y.out; show w.heap.size ≤ W2.heap.size; omega) _ : Below w.heap.size w T1)
      obtain ⟨T2, hT2⟩ : ∃ T2, T1.setCell ⟨W2.heap.size, 2, none⟩ (.slice s n g) = T2 := ⟨_, rfl⟩
      have RT2 := hide (hT2 ▸ RT1.out.set 2 (.slice s n g) (by omega) : C6 T2 W2.heap.size _)
      have eT2 : T1.cell? ⟨W2.heap.size, 2, none⟩ = some (.slice none 0 0) := RT1.out.c 2 (by omega)
      have fT2 := RT1.out.f 2
      have kT2 : Kept (· = W2.heap.size) T1 T2 := hT2 ▸ Kept.setCell T1 ⟨W2.heap.size, 2, none⟩ _
      have BT2 := hide (hT2 ▸ BT1.out.setCell (p := ⟨W2.heap.size, 2, none⟩) (by have := Y.out; show w.heap.size ≤ W2.heap.size; omega) _ : Below w.heap.size w T2)
      obtain ⟨T3, hT3⟩ : ∃ T3, T2.setCell ⟨W2.heap.size, 3, none⟩ (.int .i64 cc) = T3 := ⟨_, rfl⟩
      have RT3 := hide (hT3 ▸ RT2.out.set 3 (.int .i64 cc) (by omega) : C6 T3 W2.heap.size _)
      have eT3 : T2.cell? ⟨W2.heap.size, 3, none⟩ = some (.int .i64 0) := RT2.out.c 3 (by omega)
      have fT3 := RT2.out.f 3
      have kT3 : Kept (· = W2.heap.size) T2 T3 := hT3 ▸ Kept.setCell T2 ⟨W2.heap.size, 3, none⟩ _
      have BT3 := hide (hT3 ▸ BT2.out.setCell (p := ⟨W2.heap.size, 3, none⟩) (by have := Y.out; show w.heap.size ≤ W2.heap.size; omega) _ : Below w.heap.size w T3)
      obtain ⟨T4, hT4⟩ : ∃ T4, T3.setCell ⟨W2.heap.size, 4, none⟩ (.int .i64 ff) = T4 := ⟨_, rfl⟩
      have RT4 := hide (hT4 ▸ RT3.out.set 4 (.int .i64 ff) (by omega) : C6 T4 W2.heap.size _)
      have eT4 : T3.cell? ⟨W2.heap.size, 4, none⟩ = some (.int .i64 0) := RT3.out.c 4 (by omega)
      have fT4 := RT3.out.f 4
      have kT4 : Kept (· = W2.heap.size) T3 T4 := hT4 ▸ Kept.setCell T3 ⟨W2.heap.size, 4, none⟩ _
      have BT4 := hide (hT4 ▸ BT3.out.setCell (p := ⟨W2.heap.size, 4, none⟩) (by have := Y.out; show w.heap.size ≤ W2.heap.size; omega) _ : Below w.heap.size w T4)
      obtain ⟨T5, hT5⟩ : ∃ T5, T4.setCell ⟨W2.heap.size, 5, none⟩ (.int .i64 gg) = T5 := ⟨_, rfl⟩
      have RT5 := hide (hT5 ▸ RT4.out.set 5 (.int .i64 gg) (by omega) : C6 T5 W2.heap.size _)
      have eT5 : T4.cell? ⟨W2.heap.size, 5, none⟩ = some (.int .i64 0) := RT4.out.c 5 (by omega)
      have fT5 := RT4.out.f 5
      have kT5 : Kept (· = W2.heap.size) T4 T5 := hT5 ▸ Kept.setCell T4 ⟨W2.heap.size, 5, none⟩ _
      have BT5 := hide (hT5 ▸ BT4.out.setCell (p := ⟨W2.heap.size, 5, none⟩) (by have := Y.out; show w.heap.size ≤ W2.heap.size; omega) _ : Below w.heap.size w T5)
      have kk : Kept (· = W2.heap.size) wr T5 := ((((kT0.trans kT1).trans kT2).trans kT3).trans kT4).trans kT5
      have ZP := hide ((HP.out.kept kk (fun b hb e => by have := (HP.out.blk hb).1; have := Y.out; have e : b = W2.heap.size := e; omega)).mono (Nat.le_of_lt (Nat.lt_trans Y.out.1 (Nat.lt_trans Y.out.2.1 Y.out.2.2))))
      have ZF := hide ((HF.out.kept kk (fun b hb e => by have := (HF.out.blk hb).1; have := Y.out; have e : b = W2.heap.size := e; omega)).mono (Nat.le_of_lt (Nat.lt_trans Y.out.1 (Nat.lt_trans Y.out.2.1 Y.out.2.2))))
      have ZS := hide ((HS.out.kept kk (fun b hb e => by have := (HS.out.blk hb).1; have := Y.out; have e : b = W2.heap.size := e; omega)).mono (Nat.le_of_lt (Nat.lt_trans Y.out.1 (Nat.lt_trans Y.out.2.1 Y.out.2.2))))
      have r0 : T5.cell? ⟨W2.heap.size, 0, none⟩ = some (.slice p n c) := RT5.out.c 0 (by omega)
      have r1 : T5.cell? ⟨W2.heap.size, 1, none⟩ = some (.slice f n d) := RT5.out.c 1 (by omega)
      have r2 : T5.cell? ⟨W2.heap.size, 2, none⟩ = some (.slice s n g) := RT5.out.c 2 (by omega)
      have r3 : T5.cell? ⟨W2.heap.size, 3, none⟩ = some (.int .i64 cc) := RT5.out.c 3 (by omega)
      have r4 : T5.cell? ⟨W2.heap.size, 4, none⟩ = some (.int .i64 ff) := RT5.out.c 4 (by omega)
      have r5 : T5.cell? ⟨W2.heap.size, 5, none⟩ = some (.int .i64 gg) := RT5.out.c 5 (by omega)
      clear kk kT0 kT1 kT2 kT3 kT4 kT5
      go_wp2_with fail
      refine bodyPost_ret (v := .tuple #[.agg #[.slice p n c, .slice f n d, .slice s n g, .int .i64 cc, .int .i64 ff, .int .i64 gg], .int .i64 (k : Int)]) (by simp [results, Try.results36, go_sem, r0, r1, r2, r3, r4, r5]) rfl ?_
      exact ⟨k, p, f, s, c, d, g, ⟨by omega, HN.out, .inl rfl⟩, by rw [EC.out.1, EC.out.2.1, EC.out.2.2], ⟨ZP.out, ZF.out, ZS.out⟩, AP.out, HO.out, BT5.out⟩
end Vo
end Go.Proofs.Ytajljeegkmkkcaa
