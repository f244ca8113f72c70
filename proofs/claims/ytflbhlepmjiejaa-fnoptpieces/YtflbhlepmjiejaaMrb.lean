/- Lemmas for the proof of the law. -/
import Derived.Test.YtflbhlepmjiejaaMra
import Derived.Test.YtflbhlepmjiejaaEv
/- A run of the program over gradients (written by tools/genow.py). -/
namespace Go.Proofs.Ytflbhlepmjiejaa
namespace Vo
open Go.ChangeShapes Go.WideShapes Go.ChangeAt Go.RowKit Go.Joins Go.Sort
open Vl
set_option linter.unusedVariables false
set_option linter.unusedSimpArgs false
/-- the states of a run -/
noncomputable def sq (R : Rl) (n : Nat) (U : Int → Int) (GG : Int → (Nat → Int) → Nat → Int) (L : Nat → LV) (st : St) : Nat → St
  | 0 => st
  | k + 1 => (sq R n U GG L st k).next R n (U (sq R n U GG L st k).c) (GG (sq R n U GG L st k).f (L k).D) (L k).D
/-- where a run stops -/
def Stp (R : Rl) (n : Nat) (U : Int → Int) (GG : Int → (Nat → Int) → Nat → Int) (L : Nat → LV) (st : St) (k : Nat) : Prop := (sq R n U GG L st k).c = 1000000 ∨ (L k).r ≠ n
theorem sw_no {E P n x : Nat} {w : World} {p f s : Option Addr} {A B C : Nat → Int} (q1 : OwnL E w p n A) (q2 : OwnL E w f n B) (q3 : OwnL E w s n C) (hx : x < E) (hp : x ≠ P) : ¬ SW P n p f s x := fun h => by
  rcases h with h | h | h | h
  · exact hp h
  · have := (q1.blk h).1; omega
  · have := (q2.blk h).1; omega
  · have := (q3.blk h).1; omega
theorem sw_ge {E P n B0 : Nat} {w : World} {p f s : Option Addr} {A B C : Nat → Int} (q1 : OwnL E w p n A) (q2 : OwnL E w f n B) (q3 : OwnL E w s n C) (hP : B0 ≤ P) (hE : B0 ≤ E) : ∀ b, SW P n p f s b → B0 ≤ b := fun b h => by
  rcases h with h | h | h | h
  · omega
  · have := (q1.blk h).1; omega
  · have := (q2.blk h).1; omega
  · have := (q3.blk h).1; omega
/-- a run's outcome: how many steps, and the state behind them, its lists one's own -/
def RunR (n m : Nat) (S : Nat → St) (X : Nat → Prop) (w : World) (e : Ending) (w' : World) : Prop :=
  ∃ (k : Nat) (p f s : Option Addr) (c d g : Nat), (k ≤ m ∧ (∀ t, t < k → ¬ X t) ∧ (k = m ∨ X k)) ∧ e = .returned (.tuple #[.agg #[.slice p n c, .slice f n d, .slice s n g, .int .i64 (S k).c, .int .i64 (S k).f, .int .i64 (S k).g], .int .i64 (k : Int)]) ∧
    (OwnL w.heap.size w' p n (S k).P ∧ OwnL w.heap.size w' f n (S k).F ∧ OwnL w.heap.size w' s n (S k).S) ∧ (Bhd p f n ∧ Bhd f s n) ∧ (S k).ok n ∧ Below w.heap.size w w'
set_option maxHeartbeats 4000000 in
set_option maxRecDepth 100000 in
theorem runI (R : Rl) (hR : R.ok) (n m cP cF cS cl : Nat) (st : St) (hs : st.ok n) (aP aF aS ls : Option Addr) (L : Nat → LV) (U : Int → Int) (GG : Int → (Nat → Int) → Nat → Int) (w : World)
    (h1 : Ints w.heap.size w aP n st.P) (h2 : Ints w.heap.size w aF n st.F) (h3 : Ints w.heap.size w aS n st.S) (z1 : aP = none → n = 0 ∧ True) (z2 : aF = none → n = 0 ∧ True) (z3 : aS = none → n = 0 ∧ True) (hL : LL w.heap.size w ls m L) (hm : (m : Int) ≤ 1048576)
    (hU : ∀ t, 0 ≤ t → t < 1000000 → (0 ≤ U t ∧ U t ≤ 16777216) ∧ ∀ w, Calls Try.prog 63 #[.agg #[.int .i64 R.r1, .int .i64 R.r2, .int .i64 R.r3, .int .i64 R.r4], .int .i64 t] w fun e w' => e = .returned (.int .i64 (U t)) ∧ Below w.heap.size w w')
    (hG : ∀ f Gr, fac f = true → ib (-16777216) 16777216 n Gr = true → (∀ j, j < n → -16777216 ≤ GG f Gr j ∧ GG f Gr j ≤ 16777216) ∧ ∀ w a cap, Ints w.heap.size w a n Gr → Calls Try.prog 65 #[.agg #[.int .i64 R.d, .int .i64 R.r1, .int .i64 R.r2, .int .i64 R.r3, .int .i64 R.r4, .int .i64 R.k, .int .i64 R.z, .int .i64 R.o, .int .i64 R.y, .int .i64 R.mo, .int .i64 R.gr], .slice a n cap, .int .i64 f] w (ListR n (GG f Gr) w)) :
    Calls Try.prog 27 #[.agg #[.int .i64 R.d, .int .i64 R.r1, .int .i64 R.r2, .int .i64 R.r3, .int .i64 R.r4, .int .i64 R.k, .int .i64 R.z, .int .i64 R.o, .int .i64 R.y, .int .i64 R.mo, .int .i64 R.gr], .agg #[.slice aP n cP, .slice aF n cF, .slice aS n cS, .int .i64 st.c, .int .i64 st.f, .int .i64 st.g], .slice ls m cl] w (RunR n m (sq R n U GG L st) (Stp R n U GG L st) w) := by
  obtain ⟨W1, hW1⟩ : ∃ W1, w.alloc (.cells #[.int .i64 R.d, .int .i64 R.r1, .int .i64 R.r2, .int .i64 R.r3, .int .i64 R.r4, .int .i64 R.k, .int .i64 R.z, .int .i64 R.o, .int .i64 R.y, .int .i64 R.mo, .int .i64 R.gr] 27) = W1 := ⟨_, rfl⟩
  have n1 : Below w.heap.size w W1 := hW1 ▸ (Below.refl _ _).alloc (Nat.le_refl _) _
  have y1 : w.heap.size < W1.heap.size := by rw [← hW1]; simp
  obtain ⟨W2, hW2⟩ : ∃ W2, W1.alloc (.cells #[.slice aP n cP, .slice aF n cF, .slice aS n cS, .int .i64 st.c, .int .i64 st.f, .int .i64 st.g] 30) = W2 := ⟨_, rfl⟩
  have n2 : Below W1.heap.size W1 W2 := hW2 ▸ (Below.refl _ _).alloc (Nat.le_refl _) _
  have y2 : W1.heap.size < W2.heap.size := by rw [← hW2]; simp
  obtain ⟨W3, hW3⟩ : ∃ W3, W2.alloc (.cells #[.slice none 0 0, .slice none 0 0, .slice none 0 0, .int .i64 0, .int .i64 0, .int .i64 0] 30) = W3 := ⟨_, rfl⟩
  have n3 : Below W2.heap.size W2 W3 := hW3 ▸ (Below.refl _ _).alloc (Nat.le_refl _) _
  have y3 : W2.heap.size < W3.heap.size := by rw [← hW3]; simp
  have LR := hide (show Lis [(⟨w.heap.size, 0, none⟩, .int .i64 R.d), (⟨w.heap.size, 1, none⟩, .int .i64 R.r1), (⟨w.heap.size, 2, none⟩, .int .i64 R.r2), (⟨w.heap.size, 3, none⟩, .int .i64 R.r3), (⟨w.heap.size, 4, none⟩, .int .i64 R.r4), (⟨w.heap.size, 5, none⟩, .int .i64 R.k), (⟨w.heap.size, 6, none⟩, .int .i64 R.z), (⟨w.heap.size, 7, none⟩, .int .i64 R.o), (⟨w.heap.size, 8, none⟩, .int .i64 R.y), (⟨w.heap.size, 9, none⟩, .int .i64 R.mo), (⟨w.heap.size, 10, none⟩, .int .i64 R.gr)] W3 from (show Lis _ W1 from fun x hx => by
      simp only [List.mem_cons, List.not_mem_nil, or_false] at hx
      rcases hx with rfl | rfl | rfl | rfl | rfl | rfl | rfl | rfl | rfl | rfl | rfl <;> (rw [← hW1]; simp [go_sem])).below n2 |>.below n3)
  have O1 := hide ((show C6 W2 W1.heap.size (OV aP aF aS n cP cF cS st.c st.f st.g) from ⟨fun i hi => by rcases (by omega : i = 0 ∨ i = 1 ∨ i = 2 ∨ i = 3 ∨ i = 4 ∨ i = 5) with rfl | rfl | rfl | rfl | rfl | rfl <;> (rw [← hW2]; simp [go_sem, OV]), fun i => by rw [← hW2]; simp [go_sem], y2⟩).kept (Kept.of_below (S := fun _ => False) n3) id)
  have R1 := hide (show C6 W3 W2.heap.size (OV none none none 0 0 0 0 0 0 0) from ⟨fun i hi => by rcases (by omega : i = 0 ∨ i = 1 ∨ i = 2 ∨ i = 3 ∨ i = 4 ∨ i = 5) with rfl | rfl | rfl | rfl | rfl | rfl <;> (rw [← hW3]; simp [go_sem, OV]), fun i => by rw [← hW3]; simp [go_sem], y3⟩)
  have B3 := hide ((n1.trans (n2.mono n1.size)).trans (n3.mono (Nat.le_trans n1.size n2.size)))
  have Y := hide (And.intro y1 (And.intro y2 y3))
  have n4 : (n : Int) ≤ 4096 := hs.1
  have HL := hide (hL.below B3.out)
  have CC := hide (copiedO aP aF aS n cP cF cS st.P st.F st.S st.c st.f st.g W3 ((h1.below B3.out).mono B3.out.size) ((h2.below B3.out).mono B3.out.size) ((h3.below B3.out).mono B3.out.size) z1 z2 z3 n4)
  have HU := hide hU
  have HG := hide hG
  have HR := hide hR
  have H0 := hide hs
  have o0 : W3.cell? ⟨W1.heap.size, 0, none⟩ = some (.slice aP n cP) := O1.out.c 0 (by omega)
  have o1 : W3.cell? ⟨W1.heap.size, 1, none⟩ = some (.slice aF n cF) := O1.out.c 1 (by omega)
  have o2 : W3.cell? ⟨W1.heap.size, 2, none⟩ = some (.slice aS n cS) := O1.out.c 2 (by omega)
  have o3 : W3.cell? ⟨W1.heap.size, 3, none⟩ = some (.int .i64 st.c) := O1.out.c 3 (by omega)
  have o4 : W3.cell? ⟨W1.heap.size, 4, none⟩ = some (.int .i64 st.f) := O1.out.c 4 (by omega)
  have o5 : W3.cell? ⟨W1.heap.size, 5, none⟩ = some (.int .i64 st.g) := O1.out.c 5 (by omega)
  clear h1 h2 h3 z1 z2 z3 hL hU hG hR hs n1 n2 n3 y1 y2 y3
  go_enter Try.func27, Try.ntmps27
  go_wp2_with fail
  refine CC.out.mono ?_; rintro e X ⟨p, f, s, c, d, g, rfl, ⟨q1, q2, q3⟩, ⟨v1, v2⟩, bx⟩
  have OX := hide (O1.out.kept (Kept.of_below (S := fun _ => False) bx) id)
  have RX := hide (R1.out.kept (Kept.of_below (S := fun _ => False) bx) id)
  have LX := hide (LR.out.below bx)
  have QP := hide q1
  have QF := hide q2
  have QS := hide q3
  have AP := hide (And.intro v1 v2)
  have BX := hide (B3.out.trans (bx.mono B3.out.size))
  have SX := hide bx.size
  have LLX := hide (HL.out.below (bx.mono B3.out.size))
  clear q1 q2 q3 v1 v2 bx CC O1 R1 LR HL hW1 hW2 hW3 o0 o1 o2 o3 o4 o5
  obtain ⟨S0, hS0⟩ : ∃ S0, X.setCell ⟨W1.heap.size, 0, none⟩ (.slice p n c) = S0 := ⟨_, rfl⟩
  have OS0 := hide (hS0 ▸ OX.out.set 0 (.slice p n c) (by omega) : C6 S0 W1.heap.size _)
  have eS0 : X.cell? ⟨W1.heap.size, 0, none⟩ = some (.slice aP n cP) := OX.out.c 0 (by omega)
  have fS0 := OX.out.f 0
  have kS0 : Kept (· = W1.heap.size) X S0 := hS0 ▸ Kept.setCell X ⟨W1.heap.size, 0, none⟩ _
  have BS0 := hide (hS0 ▸ BX.out.setCell (p := ⟨W1.heap.size, 0, none⟩) (Nat.le_of_lt Y.out.1) _ : Below w.heap.size w S0)
  obtain ⟨S1, hS1⟩ : ∃ S1, S0.setCell ⟨W1.heap.size, 1, none⟩ (.slice f n d) = S1 := ⟨_, rfl⟩
  have OS1 := hide (hS1 ▸ OS0.out.set 1 (.slice f n d) (by omega) : C6 S1 W1.heap.size _)
  have eS1 : S0.cell? ⟨W1.heap.size, 1, none⟩ = some (.slice aF n cF) := OS0.out.c 1 (by omega)
  have fS1 := OS0.out.f 1
  have kS1 : Kept (· = W1.heap.size) S0 S1 := hS1 ▸ Kept.setCell S0 ⟨W1.heap.size, 1, none⟩ _
  have BS1 := hide (hS1 ▸ BS0.out.setCell (p := ⟨W1.heap.size, 1, none⟩) (Nat.le_of_lt Y.out.1) _ : Below w.heap.size w S1)
  obtain ⟨S2, hS2⟩ : ∃ S2, S1.setCell ⟨W1.heap.size, 2, none⟩ (.slice s n g) = S2 := ⟨_, rfl⟩
  have OS2 := hide (hS2 ▸ OS1.out.set 2 (.slice s n g) (by omega) : C6 S2 W1.heap.size _)
  have eS2 : S1.cell? ⟨W1.heap.size, 2, none⟩ = some (.slice aS n cS) := OS1.out.c 2 (by omega)
  have fS2 := OS1.out.f 2
  have kS2 : Kept (· = W1.heap.size) S1 S2 := hS2 ▸ Kept.setCell S1 ⟨W1.heap.size, 2, none⟩ _
  have BS2 := hide (hS2 ▸ BS1.out.setCell (p := ⟨W1.heap.size, 2, none⟩) (Nat.le_of_lt Y.out.1) _ : Below w.heap.size w S2)
  obtain ⟨S3, hS3⟩ : ∃ S3, S2.setCell ⟨W1.heap.size, 3, none⟩ (.int .i64 st.c) = S3 := ⟨_, rfl⟩
  have OS3 := hide (hS3 ▸ OS2.out.set 3 (.int .i64 st.c) (by omega) : C6 S3 W1.heap.size _)
  have eS3 : S2.cell? ⟨W1.heap.size, 3, none⟩ = some (.int .i64 st.c) := OS2.out.c 3 (by omega)
  have fS3 := OS2.out.f 3
  have kS3 : Kept (· = W1.heap.size) S2 S3 := hS3 ▸ Kept.setCell S2 ⟨W1.heap.size, 3, none⟩ _
  have BS3 := hide (hS3 ▸ BS2.out.setCell (p := ⟨W1.heap.size, 3, none⟩) (Nat.le_of_lt Y.out.1) _ : Below w.heap.size w S3)
  obtain ⟨S4, hS4⟩ : ∃ S4, S3.setCell ⟨W1.heap.size, 4, none⟩ (.int .i64 st.f) = S4 := ⟨_, rfl⟩
  have OS4 := hide (hS4 ▸ OS3.out.set 4 (.int .i64 st.f) (by omega) : C6 S4 W1.heap.size _)
  have eS4 : S3.cell? ⟨W1.heap.size, 4, none⟩ = some (.int .i64 st.f) := OS3.out.c 4 (by omega)
  have fS4 := OS3.out.f 4
  have kS4 : Kept (· = W1.heap.size) S3 S4 := hS4 ▸ Kept.setCell S3 ⟨W1.heap.size, 4, none⟩ _
  have BS4 := hide (hS4 ▸ BS3.out.setCell (p := ⟨W1.heap.size, 4, none⟩) (Nat.le_of_lt Y.out.1) _ : Below w.heap.size w S4)
  obtain ⟨S5, hS5⟩ : ∃ S5, S4.setCell ⟨W1.heap.size, 5, none⟩ (.int .i64 st.g) = S5 := ⟨_, rfl⟩
  have OS5 := hide (hS5 ▸ OS4.out.set 5 (.int .i64 st.g) (by omega) : C6 S5 W1.heap.size _)
  have eS5 : S4.cell? ⟨W1.heap.size, 5, none⟩ = some (.int .i64 st.g) := OS4.out.c 5 (by omega)
  have fS5 := OS4.out.f 5
  have kS5 : Kept (· = W1.heap.size) S4 S5 := hS5 ▸ Kept.setCell S4 ⟨W1.heap.size, 5, none⟩ _
  have BS5 := hide (hS5 ▸ BS4.out.setCell (p := ⟨W1.heap.size, 5, none⟩) (Nat.le_of_lt Y.out.1) _ : Below w.heap.size w S5)
  have kk : Kept (· = W1.heap.size) X S5 := ((((kS0.trans kS1).trans kS2).trans kS3).trans kS4).trans kS5
  have OS := hide (OS5.out.same (fun i hi => by rcases (by omega : i = 0 ∨ i = 1 ∨ i = 2 ∨ i = 3 ∨ i = 4 ∨ i = 5) with rfl | rfl | rfl | rfl | rfl | rfl <;> rfl) : C6 S5 W1.heap.size (OV p f s n c d g st.c st.f st.g))
  have RS := hide (RX.out.kept kk (by have := Y.out; show ¬ W2.heap.size = W1.heap.size; omega))
  have LS := hide (show Lis [(⟨w.heap.size, 0, none⟩, .int .i64 R.d), (⟨w.heap.size, 1, none⟩, .int .i64 R.r1), (⟨w.heap.size, 2, none⟩, .int .i64 R.r2), (⟨w.heap.size, 3, none⟩, .int .i64 R.r3), (⟨w.heap.size, 4, none⟩, .int .i64 R.r4), (⟨w.heap.size, 5, none⟩, .int .i64 R.k), (⟨w.heap.size, 6, none⟩, .int .i64 R.z), (⟨w.heap.size, 7, none⟩, .int .i64 R.o), (⟨w.heap.size, 8, none⟩, .int .i64 R.y), (⟨w.heap.size, 9, none⟩, .int .i64 R.mo), (⟨w.heap.size, 10, none⟩, .int .i64 R.gr)] S5 from fun x hx => by
      have hb := World.block_lt_of_cell? _ _ (LX.out x hx)
      have hx' := LX.out x hx
      simp only [List.mem_cons, List.not_mem_nil, or_false] at hx
      refine (World.cell?_of_block (w := X) (a := x.1) (kk.block x.1.block hb ?_)).trans hx'
      have := Y.out
      rcases hx with rfl | rfl | rfl | rfl | rfl | rfl | rfl | rfl | rfl | rfl | rfl <;> (show ¬ w.heap.size = W1.heap.size; omega))
  replace QP := hide (QP.out.kept kk (fun b hb e => by have := (QP.out.blk hb).1; have := Y.out; have e : b = W1.heap.size := e; omega))
  replace QF := hide (QF.out.kept kk (fun b hb e => by have := (QF.out.blk hb).1; have := Y.out; have e : b = W1.heap.size := e; omega))
  replace QS := hide (QS.out.kept kk (fun b hb e => by have := (QS.out.blk hb).1; have := Y.out; have e : b = W1.heap.size := e; omega))
  have LLS := hide (LLX.out.below (kk.below (Nat.le_trans B3.out.size SX.out) (fun b e => by have := Y.out; have e : b = W1.heap.size := e; omega)))
  have SS := hide (Nat.le_trans SX.out kk.size)
  have BS := BS5
  clear kk kS0 kS1 kS2 kS3 kS4 kS5
  go_wp2_with fail
  clear eS0 fS0 hS0 eS1 fS1 hS1 eS2 fS2 hS2 eS3 fS3 hS3 eS4 fS4 hS4 eS5 fS5 hS5 OS0 OS1 OS2 OS3 OS4 OS5 BS0 BS1 BS2 BS3 BS4 LX LLX OX RX BX
  go_loopw [14] (fun i wx => ∃ k : Nat, k ≤ m ∧ i = .int .i64 k ∧ (∀ t, t < k → ¬ Stp R n U GG L st t) ∧ ((sq R n U GG L st) k).ok n ∧ C6 wx W1.heap.size (OV p f s n c d g ((sq R n U GG L st) k).c ((sq R n U GG L st) k).f ((sq R n U GG L st) k).g) ∧ (OwnL W3.heap.size wx p n ((sq R n U GG L st) k).P ∧ OwnL W3.heap.size wx f n ((sq R n U GG L st) k).F ∧ OwnL W3.heap.size wx s n ((sq R n U GG L st) k).S) ∧ Kept (SW W1.heap.size n p f s) S5 wx) (fun i _ => m - (intOf i).toNat)
  case atStart => exact ⟨0, Nat.zero_le _, rfl, fun t ht => by omega, H0.out, OS.out, ⟨QP.out, QF.out, QS.out⟩, Kept.refl _ _⟩
  case round =>
    obtain ⟨k, hk, rfl, hnst, hok, hc6, ⟨q1, q2, q3⟩, hK⟩ := hrel
    have HN := hide hnst
    have HO := hide hok
    have HC := hide hc6
    have HP := hide q1
    have HF := hide q2
    have HS := hide q3
    have HK := hide hK
    clear hnst hc6 q1 q2 q3 hK
    have cb : 0 ≤ ((sq R n U GG L st) k).c ∧ ((sq R n U GG L st) k).c ≤ 1000000 := hok.2.2.2.1
    have CB := hide cb
    clear hok
    obtain ⟨cc, hcc⟩ : ∃ cc, ((sq R n U GG L st) k).c = cc := ⟨_, rfl⟩
    obtain ⟨ff, hff⟩ : ∃ ff, ((sq R n U GG L st) k).f = ff := ⟨_, rfl⟩
    obtain ⟨gg, hgg⟩ : ∃ gg, ((sq R n U GG L st) k).g = gg := ⟨_, rfl⟩
    have EC := hide (And.intro hcc (And.intro hff hgg))
    have s3 : wr.cell? ⟨W1.heap.size, 3, none⟩ = some (.int .i64 cc) := by rw [← hcc]; exact HC.out.c 3 (by omega)
    have s4 : wr.cell? ⟨W1.heap.size, 4, none⟩ = some (.int .i64 ff) := by rw [← hff]; exact HC.out.c 4 (by omega)
    have s5 : wr.cell? ⟨W1.heap.size, 5, none⟩ = some (.int .i64 gg) := by rw [← hgg]; exact HC.out.c 5 (by omega)
    have s0 : wr.cell? ⟨W1.heap.size, 0, none⟩ = some (.slice p n c) := HC.out.c 0 (by omega)
    have s1 : wr.cell? ⟨W1.heap.size, 1, none⟩ = some (.slice f n d) := HC.out.c 1 (by omega)
    have s2 : wr.cell? ⟨W1.heap.size, 2, none⟩ = some (.slice s n g) := HC.out.c 2 (by omega)
    clear hcc hff hgg cb
    by_cases hkm : k < m
    · have kI : (k : Int) < (m : Int) := by omega
      have wk : IntKind.i64.wrap ((k : Int) + 1) = (k : Int) + 1 := by rw [IntKind.wrap_i64]; omega
      have BK := hide (HK.out.below (Nat.le_trans B3.out.size SS.out) (sw_ge QP.out QF.out QS.out (Nat.le_of_lt Y.out.1) (by have := Y.out; omega)) : Below w.heap.size S5 wr)
      rcases LLS.out.below BK.out with h0 | ⟨blk, off, rfl, hblk, hcl⟩
      · omega
      obtain ⟨cl0, il0⟩ := hcl k hkm
      have IL := hide il0
      clear hcl il0
      obtain ⟨la, hla⟩ : ∃ la, (L k).a = la := ⟨_, rfl⟩
      obtain ⟨lr, hlr⟩ : ∃ lr, (L k).r = lr := ⟨_, rfl⟩
      obtain ⟨lc, hlc⟩ : ∃ lc, (L k).cap = lc := ⟨_, rfl⟩
      rw [hla, hlr, hlc] at cl0
      rw [hla, hlr] at IL
      have ELR := hide hlr
      clear hla hlr hlc
      by_cases hc : cc = 1000000
      case pos =>
        have STOP := hide (show Stp R n U GG L st k from .inl (EC.out.1.trans hc))
        have t1 : (cc == 1000000) = true := by simp [hc]
        clear hc
        have RZ := hide (RS.out.kept HK.out (sw_no QP.out QF.out QS.out Y.out.2.2 (by have := Y.out; omega)))
        have BZ := hide (BS.out.trans (HK.out.below BS.out.size (sw_ge QP.out QF.out QS.out (Nat.le_of_lt Y.out.1) (by have := Y.out; omega))))
        obtain ⟨T0, hT0⟩ : ∃ T0, wr.setCell ⟨W2.heap.size, 0, none⟩ (.slice p n c) = T0 := ⟨_, rfl⟩
        have RT0 := hide (hT0 ▸ RZ.out.set 0 (.slice p n c) (by omega) : C6 T0 W2.heap.size _)
        have eT0 : wr.cell? ⟨W2.heap.size, 0, none⟩ = some (.slice none 0 0) := RZ.out.c 0 (by omega)
        have fT0 := RZ.out.f 0
        have kT0 : Kept (· = W2.heap.size) wr T0 := hT0 ▸ Kept.setCell wr ⟨W2.heap.size, 0, none⟩ _
        have BT0 := hide (hT0 ▸ BZ.out.setCell (p := ⟨W2.heap.size, 0, none⟩) (by have := Y.out; show w.heap.size ≤ W2.heap.size; omega) _ : Below w.heap.size w T0)
        obtain ⟨T1, hT1⟩ : ∃ T1, T0.setCell ⟨W2.heap.size, 1, none⟩ (.slice f n d) = T1 := ⟨_, rfl⟩
        have RT1 := hide (hT1 ▸ RT0.out.set 1 (.slice f n d) (by omega) : C6 T1 W2.heap.size _)
        have eT1 : T0.cell? ⟨W2.heap.size, 1, none⟩ = some (.slice none 0 0) := RT0.out.c 1 (by omega)
        have fT1 := RT0.out.f 1
        have kT1 : Kept (· = W2.heap.size) T0 T1 := hT1 ▸ Kept.setCell T0 ⟨W2.heap.size, 1, none⟩ _
        have BT1 := hide (hT1 ▸ BT0.out.setCell (p := ⟨W2.heap.size, 1, none⟩) (by have := Y.out; show w.heap.size ≤ W2.heap.size; omega) _ : Below w.heap.size w T1)
        obtain ⟨T2, hT2⟩ : ∃ T2, T1.setCell ⟨W2.heap.size, 2, none⟩ (.slice s n g) = T2 := ⟨_, rfl⟩
        have RT2 := hide (hT2 ▸ RT1.out.set 2 (.slice s n g) (by omega) : C6 T2 W2.heap.size _)
        have eT2 : T1.cell? ⟨W2.heap.size, 2, none⟩ = some (.slice none 0 0) := RT1.out.c 2 (by omega)
        have fT2 := RT1.out.f 2
        have kT2 : Kept (· = W2.heap.size) T1 T2 := hT2 ▸ Kept.setCell T1 ⟨W2.heap.size, 2, none⟩ _
        have BT2 := hide (hT2 ▸ BT1.out.setCell (p := ⟨W2.heap.size, 2, none⟩) (by have := Y.out; show w.heap.size ≤ W2.heap.size; omega) _ : Below w.heap.size w T2)
        obtain ⟨T3, hT3⟩ : ∃ T3, T2.setCell ⟨W2.heap.size, 3, none⟩ (.int .i64 cc) = T3 := ⟨_, rfl⟩
        have RT3 := hide (hT3 ▸ RT2.out.set 3 (.int .i64 cc) (by omega) : C6 T3 W2.heap.size _)
        have eT3 : T2.cell? ⟨W2.heap.size, 3, none⟩ = some (.int .i64 0) := RT2.out.c 3 (by omega)
        have fT3 := RT2.out.f 3
        have kT3 : Kept (· = W2.heap.size) T2 T3 := hT3 ▸ Kept.setCell T2 ⟨W2.heap.size, 3, none⟩ _
        have BT3 := hide (hT3 ▸ BT2.out.setCell (p := ⟨W2.heap.size, 3, none⟩) (by have := Y.out; show w.heap.size ≤ W2.heap.size; omega) _ : Below w.heap.size w T3)
        obtain ⟨T4, hT4⟩ : ∃ T4, T3.setCell ⟨W2.heap.size, 4, none⟩ (.int .i64 ff) = T4 := ⟨_, rfl⟩
        have RT4 := hide (hT4 ▸ RT3.out.set 4 (.int .i64 ff) (by omega) : C6 T4 W2.heap.size _)
        have eT4 : T3.cell? ⟨W2.heap.size, 4, none⟩ = some (.int .i64 0) := RT3.out.c 4 (by omega)
        have fT4 := RT3.out.f 4
        have kT4 : Kept (· = W2.heap.size) T3 T4 := hT4 ▸ Kept.setCell T3 ⟨W2.heap.size, 4, none⟩ _
        have BT4 := hide (hT4 ▸ BT3.out.setCell (p := ⟨W2.heap.size, 4, none⟩) (by have := Y.out; show w.heap.size ≤ W2.heap.size; omega) _ : Below w.heap.size w T4)
        obtain ⟨T5, hT5⟩ : ∃ T5, T4.setCell ⟨W2.heap.size, 5, none⟩ (.int .i64 gg) = T5 := ⟨_, rfl⟩
        have RT5 := hide (hT5 ▸ RT4.out.set 5 (.int .i64 gg) (by omega) : C6 T5 W2.heap.size _)
        have eT5 : T4.cell? ⟨W2.heap.size, 5, none⟩ = some (.int .i64 0) := RT4.out.c 5 (by omega)
        have fT5 := RT4.out.f 5
        have kT5 : Kept (· = W2.heap.size) T4 T5 := hT5 ▸ Kept.setCell T4 ⟨W2.heap.size, 5, none⟩ _
        have BT5 := hide (hT5 ▸ BT4.out.setCell (p := ⟨W2.heap.size, 5, none⟩) (by have := Y.out; show w.heap.size ≤ W2.heap.size; omega) _ : Below w.heap.size w T5)
        have kk : Kept (· = W2.heap.size) wr T5 := ((((kT0.trans kT1).trans kT2).trans kT3).trans kT4).trans kT5
        have ZP := hide ((HP.out.kept kk (fun b hb e => by have := (HP.out.blk hb).1; have := Y.out; have e : b = W2.heap.size := e; omega)).mono (Nat.le_of_lt (Nat.lt_trans Y.out.1 (Nat.lt_trans Y.out.2.1 Y.out.2.2))))
        have ZF := hide ((HF.out.kept kk (fun b hb e => by have := (HF.out.blk hb).1; have := Y.out; have e : b = W2.heap.size := e; omega)).mono (Nat.le_of_lt (Nat.lt_trans Y.out.1 (Nat.lt_trans Y.out.2.1 Y.out.2.2))))
        have ZS := hide ((HS.out.kept kk (fun b hb e => by have := (HS.out.blk hb).1; have := Y.out; have e : b = W2.heap.size := e; omega)).mono (Nat.le_of_lt (Nat.lt_trans Y.out.1 (Nat.lt_trans Y.out.2.1 Y.out.2.2))))
        have r0 : T5.cell? ⟨W2.heap.size, 0, none⟩ = some (.slice p n c) := RT5.out.c 0 (by omega)
        have r1 : T5.cell? ⟨W2.heap.size, 1, none⟩ = some (.slice f n d) := RT5.out.c 1 (by omega)
        have r2 : T5.cell? ⟨W2.heap.size, 2, none⟩ = some (.slice s n g) := RT5.out.c 2 (by omega)
        have r3 : T5.cell? ⟨W2.heap.size, 3, none⟩ = some (.int .i64 cc) := RT5.out.c 3 (by omega)
        have r4 : T5.cell? ⟨W2.heap.size, 4, none⟩ = some (.int .i64 ff) := RT5.out.c 4 (by omega)
        have r5 : T5.cell? ⟨W2.heap.size, 5, none⟩ = some (.int .i64 gg) := RT5.out.c 5 (by omega)
        clear kk kT0 kT1 kT2 kT3 kT4 kT5
        go_wp2_with fail
        refine bodyPost_ret (v := .tuple #[.agg #[.slice p n c, .slice f n d, .slice s n g, .int .i64 cc, .int .i64 ff, .int .i64 gg], .int .i64 (k : Int)]) (by simp [results, Try.results27, go_sem, r0, r1, r2, r3, r4, r5]) rfl ?_
        exact ⟨k, p, f, s, c, d, g, ⟨by omega, HN.out, .inr STOP.out⟩, by rw [EC.out.1, EC.out.2.1, EC.out.2.2], ⟨ZP.out, ZF.out, ZS.out⟩, AP.out, HO.out, BT5.out⟩
      have t1 : (cc == 1000000) = false := by simp [hc]
      by_cases hl : lr = n
      case neg =>
        have STOP := hide (show Stp R n U GG L st k from .inr (by rw [ELR.out]; exact hl))
        have t2 : ((lr : Int) != (n : Int)) = true := by simp; omega
        clear hl hc
        have RZ := hide (RS.out.kept HK.out (sw_no QP.out QF.out QS.out Y.out.2.2 (by have := Y.out; omega)))
        have BZ := hide (BS.out.trans (HK.out.below BS.out.size (sw_ge QP.out QF.out QS.out (Nat.le_of_lt Y.out.1) (by have := Y.out; omega))))
        obtain ⟨T0, hT0⟩ : ∃ T0, wr.setCell ⟨W2.heap.size, 0, none⟩ (.slice p n c) = T0 := ⟨_, rfl⟩
        have RT0 := hide (hT0 ▸ RZ.out.set 0 (.slice p n c) (by omega) : C6 T0 W2.heap.size _)
        have eT0 : wr.cell? ⟨W2.heap.size, 0, none⟩ = some (.slice none 0 0) := RZ.out.c 0 (by omega)
        have fT0 := RZ.out.f 0
        have kT0 : Kept (· = W2.heap.size) wr T0 := hT0 ▸ Kept.setCell wr ⟨W2.heap.size, 0, none⟩ _
        have BT0 := hide (hT0 ▸ BZ.out.setCell (p := ⟨W2.heap.size, 0, none⟩) (by have := Y.out; show w.heap.size ≤ W2.heap.size; omega) _ : Below w.heap.size w T0)
        obtain ⟨T1, hT1⟩ : ∃ T1, T0.setCell ⟨W2.heap.size, 1, none⟩ (.slice f n d) = T1 := ⟨_, rfl⟩
        have RT1 := hide (hT1 ▸ RT0.out.set 1 (.slice f n d) (by omega) : C6 T1 W2.heap.size _)
        have eT1 : T0.cell? ⟨W2.heap.size, 1, none⟩ = some (.slice none 0 0) := RT0.out.c 1 (by omega)
        have fT1 := RT0.out.f 1
        have kT1 : Kept (· = W2.heap.size) T0 T1 := hT1 ▸ Kept.setCell T0 ⟨W2.heap.size, 1, none⟩ _
        have BT1 := hide (hT1 ▸ BT0.out.setCell (p := ⟨W2.heap.size, 1, none⟩) (by have := Y.out; show w.heap.size ≤ W2.heap.size; omega) _ : Below w.heap.size w T1)
        obtain ⟨T2, hT2⟩ : ∃ T2, T1.setCell ⟨W2.heap.size, 2, none⟩ (.slice s n g) = T2 := ⟨_, rfl⟩
        have RT2 := hide (hT2 ▸ RT1.out.set 2 (.slice s n g) (by omega) : C6 T2 W2.heap.size _)
        have eT2 : T1.cell? ⟨W2.heap.size, 2, none⟩ = some (.slice none 0 0) := RT1.out.c 2 (by omega)
        have fT2 := RT1.out.f 2
        have kT2 : Kept (· = W2.heap.size) T1 T2 := hT2 ▸ Kept.setCell T1 ⟨W2.heap.size, 2, none⟩ _
        have BT2 := hide (hT2 ▸ BT1.out.setCell (p := ⟨W2.heap.size, 2, none⟩) (by have := Y.out; show w.heap.size ≤ W2.heap.size; omega) _ : Below w.heap.size w T2)
        obtain ⟨T3, hT3⟩ : ∃ T3, T2.setCell ⟨W2.heap.size, 3, none⟩ (.int .i64 cc) = T3 := ⟨_, rfl⟩
        have RT3 := hide (hT3 ▸ RT2.out.set 3 (.int .i64 cc) (by omega) : C6 T3 W2.heap.size _)
        have eT3 : T2.cell? ⟨W2.heap.size, 3, none⟩ = some (.int .i64 0) := RT2.out.c 3 (by omega)
        have fT3 := RT2.out.f 3
        have kT3 : Kept (· = W2.heap.size) T2 T3 := hT3 ▸ Kept.setCell T2 ⟨W2.heap.size, 3, none⟩ _
        have BT3 := hide (hT3 ▸ BT2.out.setCell (p := ⟨W2.heap.size, 3, none⟩) (by have := Y.out; show w.heap.size ≤ W2.heap.size; omega) _ : Below w.heap.size w T3)
        obtain ⟨T4, hT4⟩ : ∃ T4, T3.setCell ⟨W2.heap.size, 4, none⟩ (.int .i64 ff) = T4 := ⟨_, rfl⟩
        have RT4 := hide (hT4 ▸ RT3.out.set 4 (.int .i64 ff) (by omega) : C6 T4 W2.heap.size _)
        have eT4 : T3.cell? ⟨W2.heap.size, 4, none⟩ = some (.int .i64 0) := RT3.out.c 4 (by omega)
        have fT4 := RT3.out.f 4
        have kT4 : Kept (· = W2.heap.size) T3 T4 := hT4 ▸ Kept.setCell T3 ⟨W2.heap.size, 4, none⟩ _
        have BT4 := hide (hT4 ▸ BT3.out.setCell (p := ⟨W2.heap.size, 4, none⟩) (by have := Y.out; show w.heap.size ≤ W2.heap.size; omega) _ : Below w.heap.size w T4)
        obtain ⟨T5, hT5⟩ : ∃ T5, T4.setCell ⟨W2.heap.size, 5, none⟩ (.int .i64 gg) = T5 := ⟨_, rfl⟩
        have RT5 := hide (hT5 ▸ RT4.out.set 5 (.int .i64 gg) (by omega) : C6 T5 W2.heap.size _)
        have eT5 : T4.cell? ⟨W2.heap.size, 5, none⟩ = some (.int .i64 0) := RT4.out.c 5 (by omega)
        have fT5 := RT4.out.f 5
        have kT5 : Kept (· = W2.heap.size) T4 T5 := hT5 ▸ Kept.setCell T4 ⟨W2.heap.size, 5, none⟩ _
        have BT5 := hide (hT5 ▸ BT4.out.setCell (p := ⟨W2.heap.size, 5, none⟩) (by have := Y.out; show w.heap.size ≤ W2.heap.size; omega) _ : Below w.heap.size w T5)
        have kk : Kept (· = W2.heap.size) wr T5 := ((((kT0.trans kT1).trans kT2).trans kT3).trans kT4).trans kT5
        have ZP := hide ((HP.out.kept kk (fun b hb e => by have := (HP.out.blk hb).1; have := Y.out; have e : b = W2.heap.size := e; omega)).mono (Nat.le_of_lt (Nat.lt_trans Y.out.1 (Nat.lt_trans Y.out.2.1 Y.out.2.2))))
        have ZF := hide ((HF.out.kept kk (fun b hb e => by have := (HF.out.blk hb).1; have := Y.out; have e : b = W2.heap.size := e; omega)).mono (Nat.le_of_lt (Nat.lt_trans Y.out.1 (Nat.lt_trans Y.out.2.1 Y.out.2.2))))
        have ZS := hide ((HS.out.kept kk (fun b hb e => by have := (HS.out.blk hb).1; have := Y.out; have e : b = W2.heap.size := e; omega)).mono (Nat.le_of_lt (Nat.lt_trans Y.out.1 (Nat.lt_trans Y.out.2.1 Y.out.2.2))))
        have r0 : T5.cell? ⟨W2.heap.size, 0, none⟩ = some (.slice p n c) := RT5.out.c 0 (by omega)
        have r1 : T5.cell? ⟨W2.heap.size, 1, none⟩ = some (.slice f n d) := RT5.out.c 1 (by omega)
        have r2 : T5.cell? ⟨W2.heap.size, 2, none⟩ = some (.slice s n g) := RT5.out.c 2 (by omega)
        have r3 : T5.cell? ⟨W2.heap.size, 3, none⟩ = some (.int .i64 cc) := RT5.out.c 3 (by omega)
        have r4 : T5.cell? ⟨W2.heap.size, 4, none⟩ = some (.int .i64 ff) := RT5.out.c 4 (by omega)
        have r5 : T5.cell? ⟨W2.heap.size, 5, none⟩ = some (.int .i64 gg) := RT5.out.c 5 (by omega)
        clear kk kT0 kT1 kT2 kT3 kT4 kT5
        go_wp2_with fail
        refine bodyPost_ret (v := .tuple #[.agg #[.slice p n c, .slice f n d, .slice s n g, .int .i64 cc, .int .i64 ff, .int .i64 gg], .int .i64 (k : Int)]) (by simp [results, Try.results27, go_sem, r0, r1, r2, r3, r4, r5]) rfl ?_
        exact ⟨k, p, f, s, c, d, g, ⟨by omega, HN.out, .inr STOP.out⟩, by rw [EC.out.1, EC.out.2.1, EC.out.2.2], ⟨ZP.out, ZF.out, ZS.out⟩, AP.out, HO.out, BT5.out⟩
      subst hl
      have HC2 := hide hc
      have t2 : ((lr : Int) != (lr : Int)) = false := by simp
      obtain ⟨⟨u0, u1⟩, hut⟩ := HU.out cc (by have := CB.out; rw [EC.out.1] at this; omega) (by have := CB.out; rw [EC.out.1] at this; omega)
      have fcc : fac ((sq R lr U GG L st) k).f = true := HO.out.2.2.2.2.2.2
      have STEP := hide (stepJ R HR.out ((sq R lr U GG L st) k) w.heap.size W3.heap.size W1.heap.size lr c d g lc p f s la (U cc) (GG ((sq R lr U GG L st) k).f (L k).D) (L k).D wr HO.out (by rw [EC.out.1]; exact hc) HC.out HP.out HF.out HS.out AP.out.1 AP.out.2 (Nat.lt_trans Y.out.2.1 Y.out.2.2) (Nat.le_of_lt Y.out.1) (Nat.le_trans SS.out HK.out.size) IL.out u0 u1 (by rw [EC.out.1]; exact hut) (fun hb => ⟨((HG.out ((sq R lr U GG L st) k).f (L k).D fcc hb).1), fun w' hI => (HG.out ((sq R lr U GG L st) k).f (L k).D fcc hb).2 w' la lc hI⟩))
      clear u0 u1 hut hc
      have lz := LS.out
      have l0 : wr.cell? ⟨w.heap.size, 0, none⟩ = some (.int .i64 R.d) := (World.cell?_of_block (w := S5) (a := ⟨w.heap.size, 0, none⟩) (HK.out.block _ (Nat.lt_of_lt_of_le (Nat.lt_trans Y.out.1 (Nat.lt_trans Y.out.2.1 Y.out.2.2)) SS.out) (sw_no QP.out QF.out QS.out (Nat.lt_trans Y.out.1 (Nat.lt_trans Y.out.2.1 Y.out.2.2)) (Nat.ne_of_lt Y.out.1)))).trans (lz (⟨w.heap.size, 0, none⟩, .int .i64 R.d) (.head _))
      have l1 : wr.cell? ⟨w.heap.size, 1, none⟩ = some (.int .i64 R.r1) := (World.cell?_of_block (w := S5) (a := ⟨w.heap.size, 1, none⟩) (HK.out.block _ (Nat.lt_of_lt_of_le (Nat.lt_trans Y.out.1 (Nat.lt_trans Y.out.2.1 Y.out.2.2)) SS.out) (sw_no QP.out QF.out QS.out (Nat.lt_trans Y.out.1 (Nat.lt_trans Y.out.2.1 Y.out.2.2)) (Nat.ne_of_lt Y.out.1)))).trans (lz (⟨w.heap.size, 1, none⟩, .int .i64 R.r1) (.tail _ (.head _)))
      have l2 : wr.cell? ⟨w.heap.size, 2, none⟩ = some (.int .i64 R.r2) := (World.cell?_of_block (w := S5) (a := ⟨w.heap.size, 2, none⟩) (HK.out.block _ (Nat.lt_of_lt_of_le (Nat.lt_trans Y.out.1 (Nat.lt_trans Y.out.2.1 Y.out.2.2)) SS.out) (sw_no QP.out QF.out QS.out (Nat.lt_trans Y.out.1 (Nat.lt_trans Y.out.2.1 Y.out.2.2)) (Nat.ne_of_lt Y.out.1)))).trans (lz (⟨w.heap.size, 2, none⟩, .int .i64 R.r2) (.tail _ (.tail _ (.head _))))
      have l3 : wr.cell? ⟨w.heap.size, 3, none⟩ = some (.int .i64 R.r3) := (World.cell?_of_block (w := S5) (a := ⟨w.heap.size, 3, none⟩) (HK.out.block _ (Nat.lt_of_lt_of_le (Nat.lt_trans Y.out.1 (Nat.lt_trans Y.out.2.1 Y.out.2.2)) SS.out) (sw_no QP.out QF.out QS.out (Nat.lt_trans Y.out.1 (Nat.lt_trans Y.out.2.1 Y.out.2.2)) (Nat.ne_of_lt Y.out.1)))).trans (lz (⟨w.heap.size, 3, none⟩, .int .i64 R.r3) (.tail _ (.tail _ (.tail _ (.head _)))))
      have l4 : wr.cell? ⟨w.heap.size, 4, none⟩ = some (.int .i64 R.r4) := (World.cell?_of_block (w := S5) (a := ⟨w.heap.size, 4, none⟩) (HK.out.block _ (Nat.lt_of_lt_of_le (Nat.lt_trans Y.out.1 (Nat.lt_trans Y.out.2.1 Y.out.2.2)) SS.out) (sw_no QP.out QF.out QS.out (Nat.lt_trans Y.out.1 (Nat.lt_trans Y.out.2.1 Y.out.2.2)) (Nat.ne_of_lt Y.out.1)))).trans (lz (⟨w.heap.size, 4, none⟩, .int .i64 R.r4) (.tail _ (.tail _ (.tail _ (.tail _ (.head _))))))
      have l5 : wr.cell? ⟨w.heap.size, 5, none⟩ = some (.int .i64 R.k) := (World.cell?_of_block (w := S5) (a := ⟨w.heap.size, 5, none⟩) (HK.out.block _ (Nat.lt_of_lt_of_le (Nat.lt_trans Y.out.1 (Nat.lt_trans Y.out.2.1 Y.out.2.2)) SS.out) (sw_no QP.out QF.out QS.out (Nat.lt_trans Y.out.1 (Nat.lt_trans Y.out.2.1 Y.out.2.2)) (Nat.ne_of_lt Y.out.1)))).trans (lz (⟨w.heap.size, 5, none⟩, .int .i64 R.k) (.tail _ (.tail _ (.tail _ (.tail _ (.tail _ (.head _)))))))
      have l6 : wr.cell? ⟨w.heap.size, 6, none⟩ = some (.int .i64 R.z) := (World.cell?_of_block (w := S5) (a := ⟨w.heap.size, 6, none⟩) (HK.out.block _ (Nat.lt_of_lt_of_le (Nat.lt_trans Y.out.1 (Nat.lt_trans Y.out.2.1 Y.out.2.2)) SS.out) (sw_no QP.out QF.out QS.out (Nat.lt_trans Y.out.1 (Nat.lt_trans Y.out.2.1 Y.out.2.2)) (Nat.ne_of_lt Y.out.1)))).trans (lz (⟨w.heap.size, 6, none⟩, .int .i64 R.z) (.tail _ (.tail _ (.tail _ (.tail _ (.tail _ (.tail _ (.head _))))))))
      have l7 : wr.cell? ⟨w.heap.size, 7, none⟩ = some (.int .i64 R.o) := (World.cell?_of_block (w := S5) (a := ⟨w.heap.size, 7, none⟩) (HK.out.block _ (Nat.lt_of_lt_of_le (Nat.lt_trans Y.out.1 (Nat.lt_trans Y.out.2.1 Y.out.2.2)) SS.out) (sw_no QP.out QF.out QS.out (Nat.lt_trans Y.out.1 (Nat.lt_trans Y.out.2.1 Y.out.2.2)) (Nat.ne_of_lt Y.out.1)))).trans (lz (⟨w.heap.size, 7, none⟩, .int .i64 R.o) (.tail _ (.tail _ (.tail _ (.tail _ (.tail _ (.tail _ (.tail _ (.head _)))))))))
      have l8 : wr.cell? ⟨w.heap.size, 8, none⟩ = some (.int .i64 R.y) := (World.cell?_of_block (w := S5) (a := ⟨w.heap.size, 8, none⟩) (HK.out.block _ (Nat.lt_of_lt_of_le (Nat.lt_trans Y.out.1 (Nat.lt_trans Y.out.2.1 Y.out.2.2)) SS.out) (sw_no QP.out QF.out QS.out (Nat.lt_trans Y.out.1 (Nat.lt_trans Y.out.2.1 Y.out.2.2)) (Nat.ne_of_lt Y.out.1)))).trans (lz (⟨w.heap.size, 8, none⟩, .int .i64 R.y) (.tail _ (.tail _ (.tail _ (.tail _ (.tail _ (.tail _ (.tail _ (.tail _ (.head _))))))))))
      have l9 : wr.cell? ⟨w.heap.size, 9, none⟩ = some (.int .i64 R.mo) := (World.cell?_of_block (w := S5) (a := ⟨w.heap.size, 9, none⟩) (HK.out.block _ (Nat.lt_of_lt_of_le (Nat.lt_trans Y.out.1 (Nat.lt_trans Y.out.2.1 Y.out.2.2)) SS.out) (sw_no QP.out QF.out QS.out (Nat.lt_trans Y.out.1 (Nat.lt_trans Y.out.2.1 Y.out.2.2)) (Nat.ne_of_lt Y.out.1)))).trans (lz (⟨w.heap.size, 9, none⟩, .int .i64 R.mo) (.tail _ (.tail _ (.tail _ (.tail _ (.tail _ (.tail _ (.tail _ (.tail _ (.tail _ (.head _)))))))))))
      have l10 : wr.cell? ⟨w.heap.size, 10, none⟩ = some (.int .i64 R.gr) := (World.cell?_of_block (w := S5) (a := ⟨w.heap.size, 10, none⟩) (HK.out.block _ (Nat.lt_of_lt_of_le (Nat.lt_trans Y.out.1 (Nat.lt_trans Y.out.2.1 Y.out.2.2)) SS.out) (sw_no QP.out QF.out QS.out (Nat.lt_trans Y.out.1 (Nat.lt_trans Y.out.2.1 Y.out.2.2)) (Nat.ne_of_lt Y.out.1)))).trans (lz (⟨w.heap.size, 10, none⟩, .int .i64 R.gr) (.tail _ (.tail _ (.tail _ (.tail _ (.tail _ (.tail _ (.tail _ (.tail _ (.tail _ (.tail _ (.head _))))))))))))
      clear lz
      go_wp2_with fail
      refine STEP.out.mono ?_; rintro e Z ⟨⟨v, rfl⟩, c6, ⟨w1, w2, w3⟩, kz⟩
      clear l0 l1 l2 l3 l4 l5 l6 l7 l8 l9 l10 s0 s1 s2 s3 s4 s5 cl0
      go_wp2_with fail
      go_roundw
      case rel =>
        have nx : (sq R lr U GG L st) (k + 1) = ((sq R lr U GG L st) k).next R lr (U cc) (GG ((sq R lr U GG L st) k).f (L k).D) (L k).D := by rw [show cc = ((sq R lr U GG L st) k).c from EC.out.1.symm]; rfl
        refine ⟨k + 1, by omega, by go_num, fun t ht => ?_, ?_, ?_, ?_, HK.out.trans kz⟩
        · by_cases e : t < k
          · exact HN.out t e
          · obtain rfl : t = k := by omega
            intro hst
            rcases hst with hst | hst
            · exact HC2.out (EC.out.1.symm.trans hst)
            · exact hst ELR.out
        · rw [nx]
          obtain ⟨⟨u0, u1⟩, -⟩ := HU.out cc (by have := CB.out; rw [EC.out.1] at this; omega) (by have := CB.out; have := HC2.out; rw [EC.out.1] at *; omega)
          exact St.next_ok HO.out HR.out u0 u1 (fun hb => (HG.out _ _ HO.out.2.2.2.2.2.2 hb).1) (by rw [EC.out.1]; exact HC2.out)
        · rw [nx]; exact c6
        · rw [nx]; exact ⟨w1, w2, w3⟩
      case measure => simp [intOf]; omega
    · have lk : decide ((k : Int) < (m : Int)) = false := decide_eq_false (by omega)
      have lk' : decide (k < m) = false := decide_eq_false (by omega)
      obtain rfl : k = m := by omega
      have RZ := hide (RS.out.kept HK.out (sw_no QP.out QF.out QS.out Y.out.2.2 (by have := Y.out; omega)))
      have BZ := hide (BS.out.trans (HK.out.below BS.out.size (sw_ge QP.out QF.out QS.out (Nat.le_of_lt Y.out.1) (by have := Y.out; omega))))
      obtain ⟨T0, hT0⟩ : ∃ T0, wr.setCell ⟨W2.heap.size, 0, none⟩ (.slice p n c) = T0 := ⟨_, rfl⟩
      have RT0 := hide (hT0 ▸ RZ.out.set 0 (.slice p n c) (by omega) : C6 T0 W2.heap.size _)
      have eT0 : wr.cell? ⟨W2.heap.size, 0, none⟩ = some (.slice none 0 0) := RZ.out.c 0 (by omega)
      have fT0 := RZ.out.f 0
      have kT0 : Kept (· = W2.heap.size) wr T0 := hT0 ▸ Kept.setCell wr ⟨W2.heap.size, 0, none⟩ _
      have BT0 := hide (hT0 ▸ BZ.out.setCell (p := ⟨W2.heap.size, 0, none⟩) (by have := Y.out; show w.heap.size ≤ W2.heap.size; omega) _ : Below w.heap.size w T0)
      obtain ⟨T1, hT1⟩ : ∃ T1, T0.setCell ⟨W2.heap.size, 1, none⟩ (.slice f n d) = T1 := ⟨_, rfl⟩
      have RT1 := hide (hT1 ▸ RT0.out.set 1 (.slice f n d) (by omega) : C6 T1 W2.heap.size _)
      have eT1 : T0.cell? ⟨W2.heap.size, 1, none⟩ = some (.slice none 0 0) := RT0.out.c 1 (by omega)
      have fT1 := RT0.out.f 1
      have kT1 : Kept (· = W2.heap.size) T0 T1 := hT1 ▸ Kept.setCell T0 ⟨W2.heap.size, 1, none⟩ _
      have BT1 := hide (hT1 ▸ BT0.out.setCell (p := ⟨W2.heap.size, 1, none⟩) (by have := Y.out; show w.heap.size ≤ W2.heap.size; omega) _ : Below w.heap.size w T1)
      obtain ⟨T2, hT2⟩ : ∃ T2, T1.setCell ⟨W2.heap.size, 2, none⟩ (.slice s n g) = T2 := ⟨_, rfl⟩
      have RT2 := hide (hT2 ▸ RT1.out.set 2 (.slice s n g) (by omega) : C6 T2 W2.heap.size _)
      have eT2 : T1.cell? ⟨W2.heap.size, 2, none⟩ = some (.slice none 0 0) := RT1.out.c 2 (by omega)
      have fT2 := RT1.out.f 2
      have kT2 : Kept (· = W2.heap.size) T1 T2 := hT2 ▸ Kept.setCell T1 ⟨W2.heap.size, 2, none⟩ _
      have BT2 := hide (hT2 ▸ BT1.out.setCell (p := ⟨W2.heap.size, 2, none⟩) (by have := Y.out; show w.heap.size ≤ W2.heap.size; omega) _ : Below w.heap.size w T2)
      obtain ⟨T3, hT3⟩ : ∃ T3, T2.setCell ⟨W2.heap.size, 3, none⟩ (.int .i64 cc) = T3 := ⟨_, rfl⟩
      have RT3 := hide (hT3 ▸ RT2.out.set 3 (.int .i64 cc) (by omega) : C6 T3 W2.heap.size _)
      have eT3 : T2.cell? ⟨W2.heap.size, 3, none⟩ = some (.int .i64 0) := RT2.out.c 3 (by omega)
      have fT3 := RT2.out.f 3
      have kT3 : Kept (· = W2.heap.size) T2 T3 := hT3 ▸ Kept.setCell T2 ⟨W2.heap.size, 3, none⟩ _
      have BT3 := hide (hT3 ▸ BT2.out.setCell (p := ⟨W2.heap.size, 3, none⟩) (by have := Y.out; show w.heap.size ≤ W2.heap.size; omega) _ : Below w.heap.size w T3)
      obtain ⟨T4, hT4⟩ : ∃ T4, T3.setCell ⟨W2.heap.size, 4, none⟩ (.int .i64 ff) = T4 := ⟨_, rfl⟩
      have RT4 := hide (hT4 ▸ RT3.out.set 4 (.int .i64 ff) (by omega) : C6 T4 W2.heap.size _)
      have eT4 : T3.cell? ⟨W2.heap.size, 4, none⟩ = some (.int .i64 0) := RT3.out.c 4 (by omega)
      have fT4 := RT3.out.f 4
      have kT4 : Kept (· = W2.heap.size) T3 T4 := hT4 ▸ Kept.setCell T3 ⟨W2.heap.size, 4, none⟩ _
      have BT4 := hide (hT4 ▸ BT3.out.setCell (p := ⟨W2.heap.size, 4, none⟩) (by have := Y.out; show w.heap.size ≤ W2.heap.size; omega) _ : Below w.heap.size w T4)
      obtain ⟨T5, hT5⟩ : ∃ T5, T4.setCell ⟨W2.heap.size, 5, none⟩ (.int .i64 gg) = T5 := ⟨_, rfl⟩
      have RT5 := hide (hT5 ▸ RT4.out.set 5 (.int .i64 gg) (by omega) : C6 T5 W2.heap.size _)
      have eT5 : T4.cell? ⟨W2.heap.size, 5, none⟩ = some (.int .i64 0) := RT4.out.c 5 (by omega)
      have fT5 := RT4.out.f 5
      have kT5 : Kept (· = W2.heap.size) T4 T5 := hT5 ▸ Kept.setCell T4 ⟨W2.heap.size, 5, none⟩ _
      have BT5 := hide (hT5 ▸ BT4.out.setCell (p := ⟨W2.heap.size, 5, none⟩) (by have := Y.out; show w.heap.size ≤ W2.heap.size; omega) _ : Below w.heap.size w T5)
      have kk : Kept (· = W2.heap.size) wr T5 := ((((kT0.trans kT1).trans kT2).trans kT3).trans kT4).trans kT5
      have ZP := hide ((HP.out.kept kk (fun b hb e => by have := (HP.out.blk hb).1; have := Y.out; have e : b = W2.heap.size := e; omega)).mono (Nat.le_of_lt (Nat.lt_trans Y.out.1 (Nat.lt_trans Y.out.2.1 Y.out.2.2))))
      have ZF := hide ((HF.out.kept kk (fun b hb e => by have := (HF.out.blk hb).1; have := Y.out; have e : b = W2.heap.size := e; omega)).mono (Nat.le_of_lt (Nat.lt_trans Y.out.1 (Nat.lt_trans Y.out.2.1 Y.out.2.2))))
      have ZS := hide ((HS.out.kept kk (fun b hb e => by have := (HS.out.blk hb).1; have := Y.out; have e : b = W2.heap.size := e; omega)).mono (Nat.le_of_lt (Nat.lt_trans Y.out.1 (Nat.lt_trans Y.out.2.1 Y.out.2.2))))
      have r0 : T5.cell? ⟨W2.heap.size, 0, none⟩ = some (.slice p n c) := RT5.out.c 0 (by omega)
      have r1 : T5.cell? ⟨W2.heap.size, 1, none⟩ = some (.slice f n d) := RT5.out.c 1 (by omega)
      have r2 : T5.cell? ⟨W2.heap.size, 2, none⟩ = some (.slice s n g) := RT5.out.c 2 (by omega)
      have r3 : T5.cell? ⟨W2.heap.size, 3, none⟩ = some (.int .i64 cc) := RT5.out.c 3 (by omega)
      have r4 : T5.cell? ⟨W2.heap.size, 4, none⟩ = some (.int .i64 ff) := RT5.out.c 4 (by omega)
      have r5 : T5.cell? ⟨W2.heap.size, 5, none⟩ = some (.int .i64 gg) := RT5.out.c 5 (by omega)
      clear kk kT0 kT1 kT2 kT3 kT4 kT5
      go_wp2_with fail
      refine bodyPost_ret (v := .tuple #[.agg #[.slice p n c, .slice f n d, .slice s n g, .int .i64 cc, .int .i64 ff, .int .i64 gg], .int .i64 (k : Int)]) (by simp [results, Try.results27, go_sem, r0, r1, r2, r3, r4, r5]) rfl ?_
      exact ⟨k, p, f, s, c, d, g, ⟨by omega, HN.out, .inl rfl⟩, by rw [EC.out.1, EC.out.2.1, EC.out.2.2], ⟨ZP.out, ZF.out, ZS.out⟩, AP.out, HO.out, BT5.out⟩
end Vo
end Go.Proofs.Ytflbhlepmjiejaa

/- StepOpt and RunOpt of the program (written by tools/genox.py). -/
namespace Go.Proofs.Ytflbhlepmjiejaa
namespace Vo
open Go.ChangeShapes Go.WideShapes Go.ChangeAt Go.RowKit Go.Joins Go.Sort
open Vl
set_option linter.unusedVariables false
set_option linter.unusedSimpArgs false
/-- a rule's numbers are ints -/
def Rl.bds (R : Rl) : Prop := (bd R.d ∧ bd R.r1 ∧ bd R.r2 ∧ bd R.r3 ∧ bd R.r4) ∧ (bd R.k ∧ bd R.z ∧ bd R.o ∧ bd R.y ∧ bd R.mo ∧ bd R.gr)
noncomputable def Rl.okB (R : Rl) : Bool := rulOk R.d R.r1 R.r2 R.r3 R.r4 R.k R.z R.o R.y R.mo R.gr
/-- no state -/
def ZOpt : Value := .agg #[.slice none 0 0, .slice none 0 0, .slice none 0 0, .int .i64 0, .int .i64 0, .int .i64 0]
set_option maxHeartbeats 2000000 in
theorem runOptNo (R : Rl) (n n2 n3 m cP cF cS cl : Nat) (s : St) (aP aF aS ls : Option Addr) (w : World) (h1 : Ints w.heap.size w aP n s.P) (h2 : Ints w.heap.size w aF n2 s.F) (h3 : Ints w.heap.size w aS n3 s.S) (hr1 : (n : Int) ≤ 1048576) (hr2 : (n2 : Int) ≤ 1048576) (hr3 : (n3 : Int) ≤ 1048576) (hb : bd s.c ∧ bd s.f ∧ bd s.g) (hno : ook n n2 n3 s.P s.F s.S s.c s.f s.g = false) :
    Calls Try.prog 8 #[.agg #[.int .i64 R.d, .int .i64 R.r1, .int .i64 R.r2, .int .i64 R.r3, .int .i64 R.r4, .int .i64 R.k, .int .i64 R.z, .int .i64 R.o, .int .i64 R.y, .int .i64 R.mo, .int .i64 R.gr], .agg #[.slice aP n cP, .slice aF n2 cF, .slice aS n3 cS, .int .i64 s.c, .int .i64 s.f, .int .i64 s.g], .slice ls m cl] w fun e w' => e = .returned (.tuple #[ZOpt, .int .i64 0]) ∧ Below w.heap.size w w' := by
  obtain ⟨W1, hW1⟩ : ∃ W1, w.alloc (.cells #[.int .i64 R.d, .int .i64 R.r1, .int .i64 R.r2, .int .i64 R.r3, .int .i64 R.r4, .int .i64 R.k, .int .i64 R.z, .int .i64 R.o, .int .i64 R.y, .int .i64 R.mo, .int .i64 R.gr] 27) = W1 := ⟨_, rfl⟩
  have nw1 : Below w.heap.size w W1 := hW1 ▸ (Below.refl _ _).alloc (Nat.le_refl _) _
  have y1 : w.heap.size < W1.heap.size := by rw [← hW1]; simp
  obtain ⟨W2, hW2⟩ : ∃ W2, W1.alloc (.cells #[.slice aP n cP, .slice aF n2 cF, .slice aS n3 cS, .int .i64 s.c, .int .i64 s.f, .int .i64 s.g] 30) = W2 := ⟨_, rfl⟩
  have nw2 : Below W1.heap.size W1 W2 := hW2 ▸ (Below.refl _ _).alloc (Nat.le_refl _) _
  have y2 : W1.heap.size < W2.heap.size := by rw [← hW2]; simp
  obtain ⟨W3, hW3⟩ : ∃ W3, W2.alloc (.cells #[.slice none 0 0, .slice none 0 0, .slice none 0 0, .int .i64 0, .int .i64 0, .int .i64 0] 30) = W3 := ⟨_, rfl⟩
  have nw3 : Below W2.heap.size W2 W3 := hW3 ▸ (Below.refl _ _).alloc (Nat.le_refl _) _
  have y3 : W2.heap.size < W3.heap.size := by rw [← hW3]; simp
  have LL0 := hide (show Lis [(⟨w.heap.size, 0, none⟩, .int .i64 R.d), (⟨w.heap.size, 1, none⟩, .int .i64 R.r1), (⟨w.heap.size, 2, none⟩, .int .i64 R.r2), (⟨w.heap.size, 3, none⟩, .int .i64 R.r3), (⟨w.heap.size, 4, none⟩, .int .i64 R.r4), (⟨w.heap.size, 5, none⟩, .int .i64 R.k), (⟨w.heap.size, 6, none⟩, .int .i64 R.z), (⟨w.heap.size, 7, none⟩, .int .i64 R.o), (⟨w.heap.size, 8, none⟩, .int .i64 R.y), (⟨w.heap.size, 9, none⟩, .int .i64 R.mo), (⟨w.heap.size, 10, none⟩, .int .i64 R.gr)] W3 from ((show Lis [(⟨w.heap.size, 0, none⟩, .int .i64 R.d), (⟨w.heap.size, 1, none⟩, .int .i64 R.r1), (⟨w.heap.size, 2, none⟩, .int .i64 R.r2), (⟨w.heap.size, 3, none⟩, .int .i64 R.r3), (⟨w.heap.size, 4, none⟩, .int .i64 R.r4), (⟨w.heap.size, 5, none⟩, .int .i64 R.k), (⟨w.heap.size, 6, none⟩, .int .i64 R.z), (⟨w.heap.size, 7, none⟩, .int .i64 R.o), (⟨w.heap.size, 8, none⟩, .int .i64 R.y), (⟨w.heap.size, 9, none⟩, .int .i64 R.mo), (⟨w.heap.size, 10, none⟩, .int .i64 R.gr)] W1 from fun x hx => by
      simp only [List.mem_cons, List.not_mem_nil, or_false] at hx
      rcases hx with rfl | rfl | rfl | rfl | rfl | rfl | rfl | rfl | rfl | rfl | rfl <;> (rw [← hW1]; simp [go_sem])).below nw2).below nw3)
  have LO0 := hide (show Lis [(⟨W1.heap.size, 0, none⟩, .slice aP n cP), (⟨W1.heap.size, 1, none⟩, .slice aF n2 cF), (⟨W1.heap.size, 2, none⟩, .slice aS n3 cS), (⟨W1.heap.size, 3, none⟩, .int .i64 s.c), (⟨W1.heap.size, 4, none⟩, .int .i64 s.f), (⟨W1.heap.size, 5, none⟩, .int .i64 s.g)] W3 from (show Lis [(⟨W1.heap.size, 0, none⟩, .slice aP n cP), (⟨W1.heap.size, 1, none⟩, .slice aF n2 cF), (⟨W1.heap.size, 2, none⟩, .slice aS n3 cS), (⟨W1.heap.size, 3, none⟩, .int .i64 s.c), (⟨W1.heap.size, 4, none⟩, .int .i64 s.f), (⟨W1.heap.size, 5, none⟩, .int .i64 s.g)] W2 from fun x hx => by
      simp only [List.mem_cons, List.not_mem_nil, or_false] at hx
      rcases hx with rfl | rfl | rfl | rfl | rfl | rfl <;> (rw [← hW2]; simp [go_sem])).below nw3)
  have R1 := hide (show C6 W3 W2.heap.size (OV none none none 0 0 0 0 0 0 0) from ⟨fun i hi => by rcases (by omega : i = 0 ∨ i = 1 ∨ i = 2 ∨ i = 3 ∨ i = 4 ∨ i = 5) with rfl | rfl | rfl | rfl | rfl | rfl <;> (rw [← hW3]; simp [go_sem, OV]), fun i => by rw [← hW3]; simp [go_sem], y3⟩)
  have B3 := hide ((nw1.trans (nw2.mono nw1.size)).trans (nw3.mono (Nat.le_trans nw1.size nw2.size)))
  have Y := hide (And.intro y1 (And.intro y2 y3))
  clear nw1 nw2 nw3 y1 y2 y3
  have S3 := hide (Nat.le_refl W3.heap.size)
  have CO := hide (implOpt aP aF aS n n2 n3 cP cF cS s.P s.F s.S s.c s.f s.g W3 ((h1.below B3.out).mono B3.out.size) ((h2.below B3.out).mono B3.out.size) ((h3.below B3.out).mono B3.out.size) hr1 hb.1 hb.2.1 hb.2.2 hr2 hr3)
  rw [hno] at CO
  clear h1 h2 h3 hr1 hr2 hr3 hb hno
  have o0 : W3.cell? ⟨W1.heap.size, 0, none⟩ = some (.slice aP n cP) := LO0.out (⟨W1.heap.size, 0, none⟩, .slice aP n cP) (.head _)
  have o1 : W3.cell? ⟨W1.heap.size, 1, none⟩ = some (.slice aF n2 cF) := LO0.out (⟨W1.heap.size, 1, none⟩, .slice aF n2 cF) (.tail _ (.head _))
  have o2 : W3.cell? ⟨W1.heap.size, 2, none⟩ = some (.slice aS n3 cS) := LO0.out (⟨W1.heap.size, 2, none⟩, .slice aS n3 cS) (.tail _ (.tail _ (.head _)))
  have o3 : W3.cell? ⟨W1.heap.size, 3, none⟩ = some (.int .i64 s.c) := LO0.out (⟨W1.heap.size, 3, none⟩, .int .i64 s.c) (.tail _ (.tail _ (.tail _ (.head _))))
  have o4 : W3.cell? ⟨W1.heap.size, 4, none⟩ = some (.int .i64 s.f) := LO0.out (⟨W1.heap.size, 4, none⟩, .int .i64 s.f) (.tail _ (.tail _ (.tail _ (.tail _ (.head _)))))
  have o5 : W3.cell? ⟨W1.heap.size, 5, none⟩ = some (.int .i64 s.g) := LO0.out (⟨W1.heap.size, 5, none⟩, .int .i64 s.g) (.tail _ (.tail _ (.tail _ (.tail _ (.tail _ (.head _))))))
  go_enter Try.func8, Try.ntmps8
  go_wp2_with fail
  refine CO.out.mono ?_; rintro e X ⟨rfl, bx⟩
  clear hW1 hW2 hW3 o0 o1 o2 o3 o4 o5
  replace LL0 := hide (LL0.out.below bx)
  replace LO0 := hide (LO0.out.below bx)
  replace R1 := hide (R1.out.kept (Kept.of_below (S := fun _ => False) bx) id)
  replace B3 := hide (B3.out.trans (bx.mono B3.out.size))
  replace S3 := hide (Nat.le_trans S3.out bx.size)
  clear bx
  obtain ⟨T0, hT0⟩ : ∃ T0, X.setCell ⟨W2.heap.size, 0, none⟩ (.slice none 0 0) = T0 := ⟨_, rfl⟩
  have RT0 := hide (hT0 ▸ R1.out.set 0 (.slice none 0 0) (by omega) : C6 T0 W2.heap.size _)
  have eT0 : X.cell? ⟨W2.heap.size, 0, none⟩ = some (.slice none 0 0) := R1.out.c 0 (by omega)
  have fT0 := R1.out.f 0
  have kT0 : Kept (· = W2.heap.size) X T0 := hT0 ▸ Kept.setCell X ⟨W2.heap.size, 0, none⟩ _
  have BT0 := hide (hT0 ▸ B3.out.setCell (p := ⟨W2.heap.size, 0, none⟩) (by have := Y.out; show w.heap.size ≤ W2.heap.size; omega) _ : Below w.heap.size w T0)
  obtain ⟨T1, hT1⟩ : ∃ T1, T0.setCell ⟨W2.heap.size, 1, none⟩ (.slice none 0 0) = T1 := ⟨_, rfl⟩
  have RT1 := hide (hT1 ▸ RT0.out.set 1 (.slice none 0 0) (by omega) : C6 T1 W2.heap.size _)
  have eT1 : T0.cell? ⟨W2.heap.size, 1, none⟩ = some (.slice none 0 0) := RT0.out.c 1 (by omega)
  have fT1 := RT0.out.f 1
  have kT1 : Kept (· = W2.heap.size) T0 T1 := hT1 ▸ Kept.setCell T0 ⟨W2.heap.size, 1, none⟩ _
  have BT1 := hide (hT1 ▸ BT0.out.setCell (p := ⟨W2.heap.size, 1, none⟩) (by have := Y.out; show w.heap.size ≤ W2.heap.size; omega) _ : Below w.heap.size w T1)
  obtain ⟨T2, hT2⟩ : ∃ T2, T1.setCell ⟨W2.heap.size, 2, none⟩ (.slice none 0 0) = T2 := ⟨_, rfl⟩
  have RT2 := hide (hT2 ▸ RT1.out.set 2 (.slice none 0 0) (by omega) : C6 T2 W2.heap.size _)
  have eT2 : T1.cell? ⟨W2.heap.size, 2, none⟩ = some (.slice none 0 0) := RT1.out.c 2 (by omega)
  have fT2 := RT1.out.f 2
  have kT2 : Kept (· = W2.heap.size) T1 T2 := hT2 ▸ Kept.setCell T1 ⟨W2.heap.size, 2, none⟩ _
  have BT2 := hide (hT2 ▸ BT1.out.setCell (p := ⟨W2.heap.size, 2, none⟩) (by have := Y.out; show w.heap.size ≤ W2.heap.size; omega) _ : Below w.heap.size w T2)
  obtain ⟨T3, hT3⟩ : ∃ T3, T2.setCell ⟨W2.heap.size, 3, none⟩ (.int .i64 0) = T3 := ⟨_, rfl⟩
  have RT3 := hide (hT3 ▸ RT2.out.set 3 (.int .i64 0) (by omega) : C6 T3 W2.heap.size _)
  have eT3 : T2.cell? ⟨W2.heap.size, 3, none⟩ = some (.int .i64 0) := RT2.out.c 3 (by omega)
  have fT3 := RT2.out.f 3
  have kT3 : Kept (· = W2.heap.size) T2 T3 := hT3 ▸ Kept.setCell T2 ⟨W2.heap.size, 3, none⟩ _
  have BT3 := hide (hT3 ▸ BT2.out.setCell (p := ⟨W2.heap.size, 3, none⟩) (by have := Y.out; show w.heap.size ≤ W2.heap.size; omega) _ : Below w.heap.size w T3)
  obtain ⟨T4, hT4⟩ : ∃ T4, T3.setCell ⟨W2.heap.size, 4, none⟩ (.int .i64 0) = T4 := ⟨_, rfl⟩
  have RT4 := hide (hT4 ▸ RT3.out.set 4 (.int .i64 0) (by omega) : C6 T4 W2.heap.size _)
  have eT4 : T3.cell? ⟨W2.heap.size, 4, none⟩ = some (.int .i64 0) := RT3.out.c 4 (by omega)
  have fT4 := RT3.out.f 4
  have kT4 : Kept (· = W2.heap.size) T3 T4 := hT4 ▸ Kept.setCell T3 ⟨W2.heap.size, 4, none⟩ _
  have BT4 := hide (hT4 ▸ BT3.out.setCell (p := ⟨W2.heap.size, 4, none⟩) (by have := Y.out; show w.heap.size ≤ W2.heap.size; omega) _ : Below w.heap.size w T4)
  obtain ⟨T5, hT5⟩ : ∃ T5, T4.setCell ⟨W2.heap.size, 5, none⟩ (.int .i64 0) = T5 := ⟨_, rfl⟩
  have RT5 := hide (hT5 ▸ RT4.out.set 5 (.int .i64 0) (by omega) : C6 T5 W2.heap.size _)
  have eT5 : T4.cell? ⟨W2.heap.size, 5, none⟩ = some (.int .i64 0) := RT4.out.c 5 (by omega)
  have fT5 := RT4.out.f 5
  have kT5 : Kept (· = W2.heap.size) T4 T5 := hT5 ▸ Kept.setCell T4 ⟨W2.heap.size, 5, none⟩ _
  have BT5 := hide (hT5 ▸ BT4.out.setCell (p := ⟨W2.heap.size, 5, none⟩) (by have := Y.out; show w.heap.size ≤ W2.heap.size; omega) _ : Below w.heap.size w T5)
  have kk := hide (((((kT0.trans kT1).trans kT2).trans kT3).trans kT4).trans kT5)
  have r0 : T5.cell? ⟨W2.heap.size, 0, none⟩ = some (.slice none 0 0) := RT5.out.c 0 (by omega)
  have r1 : T5.cell? ⟨W2.heap.size, 1, none⟩ = some (.slice none 0 0) := RT5.out.c 1 (by omega)
  have r2 : T5.cell? ⟨W2.heap.size, 2, none⟩ = some (.slice none 0 0) := RT5.out.c 2 (by omega)
  have r3 : T5.cell? ⟨W2.heap.size, 3, none⟩ = some (.int .i64 0) := RT5.out.c 3 (by omega)
  have r4 : T5.cell? ⟨W2.heap.size, 4, none⟩ = some (.int .i64 0) := RT5.out.c 4 (by omega)
  have r5 : T5.cell? ⟨W2.heap.size, 5, none⟩ = some (.int .i64 0) := RT5.out.c 5 (by omega)
  clear kT0 kT1 kT2 kT3 kT4 kT5
  go_wp2_with fail
  exact bodyPost_ret (v := .tuple #[ZOpt, .int .i64 0]) (by simp [results, Try.results8, go_sem, r0, r1, r2, r3, r4, r5, ZOpt]) rfl ⟨rfl, BT5.out⟩
set_option maxHeartbeats 2000000 in
theorem runOptRule (R : Rl) (n m cP cF cS cl : Nat) (s : St) (aP aF aS ls : Option Addr) (w : World) (h1 : Ints w.heap.size w aP n s.P) (h2 : Ints w.heap.size w aF n s.F) (h3 : Ints w.heap.size w aS n s.S) (z1 : aP = none → n = 0 ∧ True) (z2 : aF = none → n = 0 ∧ True) (z3 : aS = none → n = 0 ∧ True) (hb : bd s.c ∧ bd s.f ∧ bd s.g) (hRb : R.bds) (hs : s.ok n) (hR : R.okB = false) :
    Calls Try.prog 8 #[.agg #[.int .i64 R.d, .int .i64 R.r1, .int .i64 R.r2, .int .i64 R.r3, .int .i64 R.r4, .int .i64 R.k, .int .i64 R.z, .int .i64 R.o, .int .i64 R.y, .int .i64 R.mo, .int .i64 R.gr], .agg #[.slice aP n cP, .slice aF n cF, .slice aS n cS, .int .i64 s.c, .int .i64 s.f, .int .i64 s.g], .slice ls m cl] w fun e w' => ∃ (p f q : Option Addr) (c d g : Nat), e = .returned (.tuple #[.agg #[.slice p n c, .slice f n d, .slice q n g, .int .i64 s.c, .int .i64 s.f, .int .i64 s.g], .int .i64 0]) ∧ (OwnL w.heap.size w' p n s.P ∧ OwnL w.heap.size w' f n s.F ∧ OwnL w.heap.size w' q n s.S) ∧ (Bhd p f n ∧ Bhd f q n) ∧ Below w.heap.size w w' := by
  obtain ⟨W1, hW1⟩ : ∃ W1, w.alloc (.cells #[.int .i64 R.d, .int .i64 R.r1, .int .i64 R.r2, .int .i64 R.r3, .int .i64 R.r4, .int .i64 R.k, .int .i64 R.z, .int .i64 R.o, .int .i64 R.y, .int .i64 R.mo, .int .i64 R.gr] 27) = W1 := ⟨_, rfl⟩
  have nw1 : Below w.heap.size w W1 := hW1 ▸ (Below.refl _ _).alloc (Nat.le_refl _) _
  have y1 : w.heap.size < W1.heap.size := by rw [← hW1]; simp
  obtain ⟨W2, hW2⟩ : ∃ W2, W1.alloc (.cells #[.slice aP n cP, .slice aF n cF, .slice aS n cS, .int .i64 s.c, .int .i64 s.f, .int .i64 s.g] 30) = W2 := ⟨_, rfl⟩
  have nw2 : Below W1.heap.size W1 W2 := hW2 ▸ (Below.refl _ _).alloc (Nat.le_refl _) _
  have y2 : W1.heap.size < W2.heap.size := by rw [← hW2]; simp
  obtain ⟨W3, hW3⟩ : ∃ W3, W2.alloc (.cells #[.slice none 0 0, .slice none 0 0, .slice none 0 0, .int .i64 0, .int .i64 0, .int .i64 0] 30) = W3 := ⟨_, rfl⟩
  have nw3 : Below W2.heap.size W2 W3 := hW3 ▸ (Below.refl _ _).alloc (Nat.le_refl _) _
  have y3 : W2.heap.size < W3.heap.size := by rw [← hW3]; simp
  have LL0 := hide (show Lis [(⟨w.heap.size, 0, none⟩, .int .i64 R.d), (⟨w.heap.size, 1, none⟩, .int .i64 R.r1), (⟨w.heap.size, 2, none⟩, .int .i64 R.r2), (⟨w.heap.size, 3, none⟩, .int .i64 R.r3), (⟨w.heap.size, 4, none⟩, .int .i64 R.r4), (⟨w.heap.size, 5, none⟩, .int .i64 R.k), (⟨w.heap.size, 6, none⟩, .int .i64 R.z), (⟨w.heap.size, 7, none⟩, .int .i64 R.o), (⟨w.heap.size, 8, none⟩, .int .i64 R.y), (⟨w.heap.size, 9, none⟩, .int .i64 R.mo), (⟨w.heap.size, 10, none⟩, .int .i64 R.gr)] W3 from ((show Lis [(⟨w.heap.size, 0, none⟩, .int .i64 R.d), (⟨w.heap.size, 1, none⟩, .int .i64 R.r1), (⟨w.heap.size, 2, none⟩, .int .i64 R.r2), (⟨w.heap.size, 3, none⟩, .int .i64 R.r3), (⟨w.heap.size, 4, none⟩, .int .i64 R.r4), (⟨w.heap.size, 5, none⟩, .int .i64 R.k), (⟨w.heap.size, 6, none⟩, .int .i64 R.z), (⟨w.heap.size, 7, none⟩, .int .i64 R.o), (⟨w.heap.size, 8, none⟩, .int .i64 R.y), (⟨w.heap.size, 9, none⟩, .int .i64 R.mo), (⟨w.heap.size, 10, none⟩, .int .i64 R.gr)] W1 from fun x hx => by
      simp only [List.mem_cons, List.not_mem_nil, or_false] at hx
      rcases hx with rfl | rfl | rfl | rfl | rfl | rfl | rfl | rfl | rfl | rfl | rfl <;> (rw [← hW1]; simp [go_sem])).below nw2).below nw3)
  have LO0 := hide (show Lis [(⟨W1.heap.size, 0, none⟩, .slice aP n cP), (⟨W1.heap.size, 1, none⟩, .slice aF n cF), (⟨W1.heap.size, 2, none⟩, .slice aS n cS), (⟨W1.heap.size, 3, none⟩, .int .i64 s.c), (⟨W1.heap.size, 4, none⟩, .int .i64 s.f), (⟨W1.heap.size, 5, none⟩, .int .i64 s.g)] W3 from (show Lis [(⟨W1.heap.size, 0, none⟩, .slice aP n cP), (⟨W1.heap.size, 1, none⟩, .slice aF n cF), (⟨W1.heap.size, 2, none⟩, .slice aS n cS), (⟨W1.heap.size, 3, none⟩, .int .i64 s.c), (⟨W1.heap.size, 4, none⟩, .int .i64 s.f), (⟨W1.heap.size, 5, none⟩, .int .i64 s.g)] W2 from fun x hx => by
      simp only [List.mem_cons, List.not_mem_nil, or_false] at hx
      rcases hx with rfl | rfl | rfl | rfl | rfl | rfl <;> (rw [← hW2]; simp [go_sem])).below nw3)
  have R1 := hide (show C6 W3 W2.heap.size (OV none none none 0 0 0 0 0 0 0) from ⟨fun i hi => by rcases (by omega : i = 0 ∨ i = 1 ∨ i = 2 ∨ i = 3 ∨ i = 4 ∨ i = 5) with rfl | rfl | rfl | rfl | rfl | rfl <;> (rw [← hW3]; simp [go_sem, OV]), fun i => by rw [← hW3]; simp [go_sem], y3⟩)
  have B3 := hide ((nw1.trans (nw2.mono nw1.size)).trans (nw3.mono (Nat.le_trans nw1.size nw2.size)))
  have Y := hide (And.intro y1 (And.intro y2 y3))
  clear nw1 nw2 nw3 y1 y2 y3
  have n4 : (n : Int) ≤ 4096 := hs.1
  have S3 := hide (Nat.le_refl W3.heap.size)
  have hyes : ook n n n s.P s.F s.S s.c s.f s.g = true := decide_eq_true hs
  have CO := hide (implOpt aP aF aS n n n cP cF cS s.P s.F s.S s.c s.f s.g W3 ((h1.below B3.out).mono B3.out.size) ((h2.below B3.out).mono B3.out.size) ((h3.below B3.out).mono B3.out.size) (by omega) hb.1 hb.2.1 hb.2.2 (by omega) (by omega))
  rw [hyes] at CO
  have H1 := hide h1
  have H2 := hide h2
  have H3 := hide h3
  have E1 := hide z1
  have E2 := hide z2
  have E3 := hide z3
  have CRu := hide (fun w => implRule R.d R.r1 R.r2 R.r3 R.r4 R.k R.z R.o R.y R.mo R.gr w hRb.1.1 hRb.1.2.1 hRb.1.2.2.1 hRb.1.2.2.2.1 hRb.1.2.2.2.2 hRb.2.1 hRb.2.2.1 hRb.2.2.2.1 hRb.2.2.2.2.1 hRb.2.2.2.2.2.1 hRb.2.2.2.2.2.2)
  have hR' : rulOk R.d R.r1 R.r2 R.r3 R.r4 R.k R.z R.o R.y R.mo R.gr = false := hR
  rw [hR'] at CRu
  clear h1 h2 h3 z1 z2 z3 hb hRb hs hyes hR hR'
  have o0 : W3.cell? ⟨W1.heap.size, 0, none⟩ = some (.slice aP n cP) := LO0.out (⟨W1.heap.size, 0, none⟩, .slice aP n cP) (.head _)
  have o1 : W3.cell? ⟨W1.heap.size, 1, none⟩ = some (.slice aF n cF) := LO0.out (⟨W1.heap.size, 1, none⟩, .slice aF n cF) (.tail _ (.head _))
  have o2 : W3.cell? ⟨W1.heap.size, 2, none⟩ = some (.slice aS n cS) := LO0.out (⟨W1.heap.size, 2, none⟩, .slice aS n cS) (.tail _ (.tail _ (.head _)))
  have o3 : W3.cell? ⟨W1.heap.size, 3, none⟩ = some (.int .i64 s.c) := LO0.out (⟨W1.heap.size, 3, none⟩, .int .i64 s.c) (.tail _ (.tail _ (.tail _ (.head _))))
  have o4 : W3.cell? ⟨W1.heap.size, 4, none⟩ = some (.int .i64 s.f) := LO0.out (⟨W1.heap.size, 4, none⟩, .int .i64 s.f) (.tail _ (.tail _ (.tail _ (.tail _ (.head _)))))
  have o5 : W3.cell? ⟨W1.heap.size, 5, none⟩ = some (.int .i64 s.g) := LO0.out (⟨W1.heap.size, 5, none⟩, .int .i64 s.g) (.tail _ (.tail _ (.tail _ (.tail _ (.tail _ (.head _))))))
  go_enter Try.func8, Try.ntmps8
  go_wp2_with fail
  refine CO.out.mono ?_; rintro e X ⟨rfl, bx⟩
  clear hW1 hW2 hW3 CO o0 o1 o2 o3 o4 o5
  replace LL0 := hide (LL0.out.below bx)
  replace LO0 := hide (LO0.out.below bx)
  replace R1 := hide (R1.out.kept (Kept.of_below (S := fun _ => False) bx) id)
  replace B3 := hide (B3.out.trans (bx.mono B3.out.size))
  replace S3 := hide (Nat.le_trans S3.out bx.size)
  clear bx
  have l0 : X.cell? ⟨w.heap.size, 0, none⟩ = some (.int .i64 R.d) := LL0.out (⟨w.heap.size, 0, none⟩, .int .i64 R.d) (.head _)
  have l1 : X.cell? ⟨w.heap.size, 1, none⟩ = some (.int .i64 R.r1) := LL0.out (⟨w.heap.size, 1, none⟩, .int .i64 R.r1) (.tail _ (.head _))
  have l2 : X.cell? ⟨w.heap.size, 2, none⟩ = some (.int .i64 R.r2) := LL0.out (⟨w.heap.size, 2, none⟩, .int .i64 R.r2) (.tail _ (.tail _ (.head _)))
  have l3 : X.cell? ⟨w.heap.size, 3, none⟩ = some (.int .i64 R.r3) := LL0.out (⟨w.heap.size, 3, none⟩, .int .i64 R.r3) (.tail _ (.tail _ (.tail _ (.head _))))
  have l4 : X.cell? ⟨w.heap.size, 4, none⟩ = some (.int .i64 R.r4) := LL0.out (⟨w.heap.size, 4, none⟩, .int .i64 R.r4) (.tail _ (.tail _ (.tail _ (.tail _ (.head _)))))
  have l5 : X.cell? ⟨w.heap.size, 5, none⟩ = some (.int .i64 R.k) := LL0.out (⟨w.heap.size, 5, none⟩, .int .i64 R.k) (.tail _ (.tail _ (.tail _ (.tail _ (.tail _ (.head _))))))
  have l6 : X.cell? ⟨w.heap.size, 6, none⟩ = some (.int .i64 R.z) := LL0.out (⟨w.heap.size, 6, none⟩, .int .i64 R.z) (.tail _ (.tail _ (.tail _ (.tail _ (.tail _ (.tail _ (.head _)))))))
  have l7 : X.cell? ⟨w.heap.size, 7, none⟩ = some (.int .i64 R.o) := LL0.out (⟨w.heap.size, 7, none⟩, .int .i64 R.o) (.tail _ (.tail _ (.tail _ (.tail _ (.tail _ (.tail _ (.tail _ (.head _))))))))
  have l8 : X.cell? ⟨w.heap.size, 8, none⟩ = some (.int .i64 R.y) := LL0.out (⟨w.heap.size, 8, none⟩, .int .i64 R.y) (.tail _ (.tail _ (.tail _ (.tail _ (.tail _ (.tail _ (.tail _ (.tail _ (.head _)))))))))
  have l9 : X.cell? ⟨w.heap.size, 9, none⟩ = some (.int .i64 R.mo) := LL0.out (⟨w.heap.size, 9, none⟩, .int .i64 R.mo) (.tail _ (.tail _ (.tail _ (.tail _ (.tail _ (.tail _ (.tail _ (.tail _ (.tail _ (.head _))))))))))
  have l10 : X.cell? ⟨w.heap.size, 10, none⟩ = some (.int .i64 R.gr) := LL0.out (⟨w.heap.size, 10, none⟩, .int .i64 R.gr) (.tail _ (.tail _ (.tail _ (.tail _ (.tail _ (.tail _ (.tail _ (.tail _ (.tail _ (.tail _ (.head _)))))))))))
  go_wp2_with fail
  refine (CRu.out _).mono ?_; rintro e X2 ⟨rfl, bx⟩
  clear CRu l0 l1 l2 l3 l4 l5 l6 l7 l8 l9 l10
  replace LL0 := hide (LL0.out.below bx)
  replace LO0 := hide (LO0.out.below bx)
  replace R1 := hide (R1.out.kept (Kept.of_below (S := fun _ => False) bx) id)
  replace B3 := hide (B3.out.trans (bx.mono B3.out.size))
  replace S3 := hide (Nat.le_trans S3.out bx.size)
  clear bx
  have CC := hide (copiedO aP aF aS n cP cF cS s.P s.F s.S s.c s.f s.g X2 ((H1.out.below B3.out).mono B3.out.size) ((H2.out.below B3.out).mono B3.out.size) ((H3.out.below B3.out).mono B3.out.size) E1.out E2.out E3.out n4)
  have o0 : X2.cell? ⟨W1.heap.size, 0, none⟩ = some (.slice aP n cP) := LO0.out (⟨W1.heap.size, 0, none⟩, .slice aP n cP) (.head _)
  have o1 : X2.cell? ⟨W1.heap.size, 1, none⟩ = some (.slice aF n cF) := LO0.out (⟨W1.heap.size, 1, none⟩, .slice aF n cF) (.tail _ (.head _))
  have o2 : X2.cell? ⟨W1.heap.size, 2, none⟩ = some (.slice aS n cS) := LO0.out (⟨W1.heap.size, 2, none⟩, .slice aS n cS) (.tail _ (.tail _ (.head _)))
  have o3 : X2.cell? ⟨W1.heap.size, 3, none⟩ = some (.int .i64 s.c) := LO0.out (⟨W1.heap.size, 3, none⟩, .int .i64 s.c) (.tail _ (.tail _ (.tail _ (.head _))))
  have o4 : X2.cell? ⟨W1.heap.size, 4, none⟩ = some (.int .i64 s.f) := LO0.out (⟨W1.heap.size, 4, none⟩, .int .i64 s.f) (.tail _ (.tail _ (.tail _ (.tail _ (.head _)))))
  have o5 : X2.cell? ⟨W1.heap.size, 5, none⟩ = some (.int .i64 s.g) := LO0.out (⟨W1.heap.size, 5, none⟩, .int .i64 s.g) (.tail _ (.tail _ (.tail _ (.tail _ (.tail _ (.head _))))))
  go_wp2_with fail
  refine CC.out.mono ?_; rintro e X3 ⟨p, f, q, c, d, g, rfl, ⟨q1, q2, q3⟩, hap, bx⟩
  have AP := hide hap
  have QP := hide q1
  have QF := hide q2
  have QS := hide q3
  have SX := hide S3.out
  clear q1 q2 q3 hap CC o0 o1 o2 o3 o4 o5
  replace LL0 := hide (LL0.out.below bx)
  replace LO0 := hide (LO0.out.below bx)
  replace R1 := hide (R1.out.kept (Kept.of_below (S := fun _ => False) bx) id)
  replace B3 := hide (B3.out.trans (bx.mono B3.out.size))
  replace S3 := hide (Nat.le_trans S3.out bx.size)
  clear bx
  obtain ⟨T0, hT0⟩ : ∃ T0, X3.setCell ⟨W2.heap.size, 0, none⟩ (.slice p n c) = T0 := ⟨_, rfl⟩
  have RT0 := hide (hT0 ▸ R1.out.set 0 (.slice p n c) (by omega) : C6 T0 W2.heap.size _)
  have eT0 : X3.cell? ⟨W2.heap.size, 0, none⟩ = some (.slice none 0 0) := R1.out.c 0 (by omega)
  have fT0 := R1.out.f 0
  have kT0 : Kept (· = W2.heap.size) X3 T0 := hT0 ▸ Kept.setCell X3 ⟨W2.heap.size, 0, none⟩ _
  have BT0 := hide (hT0 ▸ B3.out.setCell (p := ⟨W2.heap.size, 0, none⟩) (by have := Y.out; show w.heap.size ≤ W2.heap.size; omega) _ : Below w.heap.size w T0)
  obtain ⟨T1, hT1⟩ : ∃ T1, T0.setCell ⟨W2.heap.size, 1, none⟩ (.slice f n d) = T1 := ⟨_, rfl⟩
  have RT1 := hide (hT1 ▸ RT0.out.set 1 (.slice f n d) (by omega) : C6 T1 W2.heap.size _)
  have eT1 : T0.cell? ⟨W2.heap.size, 1, none⟩ = some (.slice none 0 0) := RT0.out.c 1 (by omega)
  have fT1 := RT0.out.f 1
  have kT1 : Kept (· = W2.heap.size) T0 T1 := hT1 ▸ Kept.setCell T0 ⟨W2.heap.size, 1, none⟩ _
  have BT1 := hide (hT1 ▸ BT0.out.setCell (p := ⟨W2.heap.size, 1, none⟩) (by have := Y.out; show w.heap.size ≤ W2.heap.size; omega) _ : Below w.heap.size w T1)
  obtain ⟨T2, hT2⟩ : ∃ T2, T1.setCell ⟨W2.heap.size, 2, none⟩ (.slice q n g) = T2 := ⟨_, rfl⟩
  have RT2 := hide (hT2 ▸ RT1.out.set 2 (.slice q n g) (by omega) : C6 T2 W2.heap.size _)
  have eT2 : T1.cell? ⟨W2.heap.size, 2, none⟩ = some (.slice none 0 0) := RT1.out.c 2 (by omega)
  have fT2 := RT1.out.f 2
  have kT2 : Kept (· = W2.heap.size) T1 T2 := hT2 ▸ Kept.setCell T1 ⟨W2.heap.size, 2, none⟩ _
  have BT2 := hide (hT2 ▸ BT1.out.setCell (p := ⟨W2.heap.size, 2, none⟩) (by have := Y.out; show w.heap.size ≤ W2.heap.size; omega) _ : Below w.heap.size w T2)
  obtain ⟨T3, hT3⟩ : ∃ T3, T2.setCell ⟨W2.heap.size, 3, none⟩ (.int .i64 s.c) = T3 := ⟨_, rfl⟩
  have RT3 := hide (hT3 ▸ RT2.out.set 3 (.int .i64 s.c) (by omega) : C6 T3 W2.heap.size _)
  have eT3 : T2.cell? ⟨W2.heap.size, 3, none⟩ = some (.int .i64 0) := RT2.out.c 3 (by omega)
  have fT3 := RT2.out.f 3
  have kT3 : Kept (· = W2.heap.size) T2 T3 := hT3 ▸ Kept.setCell T2 ⟨W2.heap.size, 3, none⟩ _
  have BT3 := hide (hT3 ▸ BT2.out.setCell (p := ⟨W2.heap.size, 3, none⟩) (by have := Y.out; show w.heap.size ≤ W2.heap.size; omega) _ : Below w.heap.size w T3)
  obtain ⟨T4, hT4⟩ : ∃ T4, T3.setCell ⟨W2.heap.size, 4, none⟩ (.int .i64 s.f) = T4 := ⟨_, rfl⟩
  have RT4 := hide (hT4 ▸ RT3.out.set 4 (.int .i64 s.f) (by omega) : C6 T4 W2.heap.size _)
  have eT4 : T3.cell? ⟨W2.heap.size, 4, none⟩ = some (.int .i64 0) := RT3.out.c 4 (by omega)
  have fT4 := RT3.out.f 4
  have kT4 : Kept (· = W2.heap.size) T3 T4 := hT4 ▸ Kept.setCell T3 ⟨W2.heap.size, 4, none⟩ _
  have BT4 := hide (hT4 ▸ BT3.out.setCell (p := ⟨W2.heap.size, 4, none⟩) (by have := Y.out; show w.heap.size ≤ W2.heap.size; omega) _ : Below w.heap.size w T4)
  obtain ⟨T5, hT5⟩ : ∃ T5, T4.setCell ⟨W2.heap.size, 5, none⟩ (.int .i64 s.g) = T5 := ⟨_, rfl⟩
  have RT5 := hide (hT5 ▸ RT4.out.set 5 (.int .i64 s.g) (by omega) : C6 T5 W2.heap.size _)
  have eT5 : T4.cell? ⟨W2.heap.size, 5, none⟩ = some (.int .i64 0) := RT4.out.c 5 (by omega)
  have fT5 := RT4.out.f 5
  have kT5 : Kept (· = W2.heap.size) T4 T5 := hT5 ▸ Kept.setCell T4 ⟨W2.heap.size, 5, none⟩ _
  have BT5 := hide (hT5 ▸ BT4.out.setCell (p := ⟨W2.heap.size, 5, none⟩) (by have := Y.out; show w.heap.size ≤ W2.heap.size; omega) _ : Below w.heap.size w T5)
  have kk := hide (((((kT0.trans kT1).trans kT2).trans kT3).trans kT4).trans kT5)
  have r0 : T5.cell? ⟨W2.heap.size, 0, none⟩ = some (.slice p n c) := RT5.out.c 0 (by omega)
  have r1 : T5.cell? ⟨W2.heap.size, 1, none⟩ = some (.slice f n d) := RT5.out.c 1 (by omega)
  have r2 : T5.cell? ⟨W2.heap.size, 2, none⟩ = some (.slice q n g) := RT5.out.c 2 (by omega)
  have r3 : T5.cell? ⟨W2.heap.size, 3, none⟩ = some (.int .i64 s.c) := RT5.out.c 3 (by omega)
  have r4 : T5.cell? ⟨W2.heap.size, 4, none⟩ = some (.int .i64 s.f) := RT5.out.c 4 (by omega)
  have r5 : T5.cell? ⟨W2.heap.size, 5, none⟩ = some (.int .i64 s.g) := RT5.out.c 5 (by omega)
  clear kT0 kT1 kT2 kT3 kT4 kT5
  have ZP := hide ((QP.out.kept kk.out (fun b hb e => by have := (QP.out.blk hb).1; have := Y.out; have := SX.out; have e : b = W2.heap.size := e; omega)).mono (by have := Y.out; have := SX.out; omega : w.heap.size ≤ X2.heap.size))
  have ZF := hide ((QF.out.kept kk.out (fun b hb e => by have := (QF.out.blk hb).1; have := Y.out; have := SX.out; have e : b = W2.heap.size := e; omega)).mono (by have := Y.out; have := SX.out; omega : w.heap.size ≤ X2.heap.size))
  have ZS := hide ((QS.out.kept kk.out (fun b hb e => by have := (QS.out.blk hb).1; have := Y.out; have := SX.out; have e : b = W2.heap.size := e; omega)).mono (by have := Y.out; have := SX.out; omega : w.heap.size ≤ X2.heap.size))
  go_wp2_with fail
  refine bodyPost_ret (v := .tuple #[.agg #[.slice p n c, .slice f n d, .slice q n g, .int .i64 s.c, .int .i64 s.f, .int .i64 s.g], .int .i64 0]) (by simp [results, Try.results8, go_sem, r0, r1, r2, r3, r4, r5]) rfl ?_
  exact ⟨p, f, q, c, d, g, rfl, ⟨ZP.out, ZF.out, ZS.out⟩, AP.out, BT5.out⟩
end Vo
end Go.Proofs.Ytflbhlepmjiejaa

/- Rules that a law draws (written by tools/genbc.py). -/
namespace Go.Proofs.Ytflbhlepmjiejaa
namespace Vo
open Go.ChangeShapes Go.WideShapes Go.ChangeAt Go.RowKit Go.Joins Go.Sort
open Vl
set_option linter.unusedVariables false
set_option linter.unusedSimpArgs false
/-- a variable of n cells that is being drawn (block vb), the answer's (the first block), the cursor p -/
structure DS (n : Nat) (w X : World) (B p : Nat) (a : Option Addr) (len cap vb : Nat) (V R : Nat → Value) : Prop where
  cur : Base.Cur B X p a len cap
  gr : w.grownBy X (some p)
  c : ∀ i, i < n → X.cell? ⟨vb, i, none⟩ = some (V i)
  fz : ∀ i, X.frozen? ⟨vb, i, none⟩ = false
  r : ∀ i, i < n → X.cell? ⟨w.heap.size, i, none⟩ = some (R i)
  rf : ∀ i, X.frozen? ⟨w.heap.size, i, none⟩ = false
  pw : p < w.heap.size
  wV : w.heap.size < vb
  VX : vb < X.heap.size
section
variable {n : Nat} {w X X' : World} {B p : Nat} {a : Option Addr} {len cap vb : Nat} {V R : Nat → Value}
theorem DS.draw (h : DS n w X B p a len cap vb V R) (g : X.grownBy X' (some p)) (d : Base.Cur B X' p a len cap) : DS n w X' B p a len cap vb V R where
  cur := d
  gr := h.gr.trans g
  c i hi := by have := h.pw; have := h.wV; rw [(grown_keep g h.VX (by omega)).1]; exact h.c i hi
  fz i := by have := h.pw; have := h.wV; rw [(grown_keep g h.VX (by omega)).2]; exact h.fz i
  r i hi := by have := h.pw; have := h.wV; have := h.VX; rw [(grown_keep g (by omega) (by omega)).1]; exact h.r i hi
  rf i := by have := h.pw; have := h.wV; have := h.VX; rw [(grown_keep g (by omega) (by omega)).2]; exact h.rf i
  pw := h.pw
  wV := h.wV
  VX := Nat.lt_of_lt_of_le h.VX g.size
theorem DS.set (h : DS n w X B p a len cap vb V R) (hB : B ≤ w.heap.size) (k : Nat) (x : Value) (hk : k < n) : DS n w (X.setCell ⟨vb, k, none⟩ x) B p a len cap vb (upv V k x) R where
  cur := cur_other h.cur vb k _ (by have := h.pw; have := h.wV; omega) (by have := h.wV; omega)
  gr := grown_stE h.gr (Nat.le_of_lt h.wV)
  c i hi := by
    unfold upv
    by_cases c : i = k
    · subst c; rw [if_pos rfl]; exact World.cell?_setCell_same _ _ _ (h.c i hi)
    · rw [if_neg c, World.cell?_setCell_other _ _ _ _ (by intro e; injection e with _ e; exact c e.symm)]; exact h.c i hi
  fz i := by rw [World.frozen?_setCell]; exact h.fz i
  r i hi := by rw [World.cell?_setCell_other _ _ _ _ (by intro e; injection e with e; have := h.wV; omega)]; exact h.r i hi
  rf i := by rw [World.frozen?_setCell]; exact h.rf i
  pw := h.pw
  wV := h.wV
  VX := by simpa [World.setCell] using h.VX
theorem DS.setR (h : DS n w X B p a len cap vb V R) (hB : B ≤ w.heap.size) (k : Nat) (x : Value) (hk : k < n) : DS n w (X.setCell ⟨w.heap.size, k, none⟩ x) B p a len cap vb V (upv R k x) where
  cur := cur_other h.cur _ k _ (by have := h.pw; omega) hB
  gr := grown_stE h.gr (Nat.le_refl _)
  c i hi := by rw [World.cell?_setCell_other _ _ _ _ (by intro e; injection e with e; have := h.wV; omega)]; exact h.c i hi
  fz i := by rw [World.frozen?_setCell]; exact h.fz i
  r i hi := by
    unfold upv
    by_cases c : i = k
    · subst c; rw [if_pos rfl]; exact World.cell?_setCell_same _ _ _ (h.r i hi)
    · rw [if_neg c, World.cell?_setCell_other _ _ _ _ (by intro e; injection e with _ e; exact c e.symm)]; exact h.r i hi
  rf i := by rw [World.frozen?_setCell]; exact h.rf i
  pw := h.pw
  wV := h.wV
  VX := by simpa [World.setCell] using h.VX
theorem DS.alloc (h : DS n w X B p a len cap vb V R) (o : Obj) : DS n w (X.alloc o) B p a len cap vb V R :=
  h.draw (Lib.grownBy_allocR (Base.grown_refl X p) o) (h.cur.alloc o)
theorem DS.same (h : DS n w X B p a len cap vb V R) {V' : Nat → Value} (e : ∀ i, i < n → V i = V' i) : DS n w X B p a len cap vb V' R :=
  ⟨h.cur, h.gr, fun i hi => by rw [← e i hi]; exact h.c i hi, h.fz, h.r, h.rf, h.pw, h.wV, h.VX⟩
end
def RVf (R : Rl) (i : Nat) : Value := #[.int .i64 R.d, .int .i64 R.r1, .int .i64 R.r2, .int .i64 R.r3, .int .i64 R.r4, .int .i64 R.k, .int .i64 R.z, .int .i64 R.o, .int .i64 R.y, .int .i64 R.mo, .int .i64 R.gr].getD i undef
/-- a rule is being drawn -/
def RuD (w X : World) (B p : Nat) (a : Option Addr) (len cap vb : Nat) : Prop := ∃ R : Rl, R.bds ∧ DS 11 w X B p a len cap vb (RVf R) (fun _ => .int .i64 0)
theorem RuD.put0 {w X : World} {B p : Nat} {a : Option Addr} {len cap vb : Nat} {R : Rl} {x : Int} (hR : R.bds) (h : DS 11 w X B p a len cap vb (RVf R) (fun _ => .int .i64 0)) (hB : B ≤ w.heap.size) (hx : bd x) : RuD w (X.setCell ⟨vb, 0, none⟩ (.int .i64 x)) B p a len cap vb :=
  ⟨{ R with d := x }, by obtain ⟨⟨q0, q1, q2, q3, q4⟩, q5, q6, q7, q8, q9, q10⟩ := hR; exact ⟨⟨hx, q1, q2, q3, q4⟩, q5, q6, q7, q8, q9, q10⟩, (h.set hB 0 _ (by omega)).same (fun i hi => by rcases (by omega : i = 0 ∨ i = 1 ∨ i = 2 ∨ i = 3 ∨ i = 4 ∨ i = 5 ∨ i = 6 ∨ i = 7 ∨ i = 8 ∨ i = 9 ∨ i = 10) with rfl | rfl | rfl | rfl | rfl | rfl | rfl | rfl | rfl | rfl | rfl <;> rfl)⟩
theorem RuD.put5 {w X : World} {B p : Nat} {a : Option Addr} {len cap vb : Nat} {R : Rl} {x : Int} (hR : R.bds) (h : DS 11 w X B p a len cap vb (RVf R) (fun _ => .int .i64 0)) (hB : B ≤ w.heap.size) (hx : bd x) : RuD w (X.setCell ⟨vb, 5, none⟩ (.int .i64 x)) B p a len cap vb :=
  ⟨{ R with k := x }, by obtain ⟨⟨q0, q1, q2, q3, q4⟩, q5, q6, q7, q8, q9, q10⟩ := hR; exact ⟨⟨q0, q1, q2, q3, q4⟩, hx, q6, q7, q8, q9, q10⟩, (h.set hB 5 _ (by omega)).same (fun i hi => by rcases (by omega : i = 0 ∨ i = 1 ∨ i = 2 ∨ i = 3 ∨ i = 4 ∨ i = 5 ∨ i = 6 ∨ i = 7 ∨ i = 8 ∨ i = 9 ∨ i = 10) with rfl | rfl | rfl | rfl | rfl | rfl | rfl | rfl | rfl | rfl | rfl <;> rfl)⟩
theorem RuD.put7 {w X : World} {B p : Nat} {a : Option Addr} {len cap vb : Nat} {R : Rl} {x : Int} (hR : R.bds) (h : DS 11 w X B p a len cap vb (RVf R) (fun _ => .int .i64 0)) (hB : B ≤ w.heap.size) (hx : bd x) : RuD w (X.setCell ⟨vb, 7, none⟩ (.int .i64 x)) B p a len cap vb :=
  ⟨{ R with o := x }, by obtain ⟨⟨q0, q1, q2, q3, q4⟩, q5, q6, q7, q8, q9, q10⟩ := hR; exact ⟨⟨q0, q1, q2, q3, q4⟩, q5, q6, hx, q8, q9, q10⟩, (h.set hB 7 _ (by omega)).same (fun i hi => by rcases (by omega : i = 0 ∨ i = 1 ∨ i = 2 ∨ i = 3 ∨ i = 4 ∨ i = 5 ∨ i = 6 ∨ i = 7 ∨ i = 8 ∨ i = 9 ∨ i = 10) with rfl | rfl | rfl | rfl | rfl | rfl | rfl | rfl | rfl | rfl | rfl <;> rfl)⟩
theorem RuD.put8 {w X : World} {B p : Nat} {a : Option Addr} {len cap vb : Nat} {R : Rl} {x : Int} (hR : R.bds) (h : DS 11 w X B p a len cap vb (RVf R) (fun _ => .int .i64 0)) (hB : B ≤ w.heap.size) (hx : bd x) : RuD w (X.setCell ⟨vb, 8, none⟩ (.int .i64 x)) B p a len cap vb :=
  ⟨{ R with y := x }, by obtain ⟨⟨q0, q1, q2, q3, q4⟩, q5, q6, q7, q8, q9, q10⟩ := hR; exact ⟨⟨q0, q1, q2, q3, q4⟩, q5, q6, q7, hx, q9, q10⟩, (h.set hB 8 _ (by omega)).same (fun i hi => by rcases (by omega : i = 0 ∨ i = 1 ∨ i = 2 ∨ i = 3 ∨ i = 4 ∨ i = 5 ∨ i = 6 ∨ i = 7 ∨ i = 8 ∨ i = 9 ∨ i = 10) with rfl | rfl | rfl | rfl | rfl | rfl | rfl | rfl | rfl | rfl | rfl <;> rfl)⟩
theorem RuD.put9 {w X : World} {B p : Nat} {a : Option Addr} {len cap vb : Nat} {R : Rl} {x : Int} (hR : R.bds) (h : DS 11 w X B p a len cap vb (RVf R) (fun _ => .int .i64 0)) (hB : B ≤ w.heap.size) (hx : bd x) : RuD w (X.setCell ⟨vb, 9, none⟩ (.int .i64 x)) B p a len cap vb :=
  ⟨{ R with mo := x }, by obtain ⟨⟨q0, q1, q2, q3, q4⟩, q5, q6, q7, q8, q9, q10⟩ := hR; exact ⟨⟨q0, q1, q2, q3, q4⟩, q5, q6, q7, q8, hx, q10⟩, (h.set hB 9 _ (by omega)).same (fun i hi => by rcases (by omega : i = 0 ∨ i = 1 ∨ i = 2 ∨ i = 3 ∨ i = 4 ∨ i = 5 ∨ i = 6 ∨ i = 7 ∨ i = 8 ∨ i = 9 ∨ i = 10) with rfl | rfl | rfl | rfl | rfl | rfl | rfl | rfl | rfl | rfl | rfl <;> rfl)⟩
theorem RuD.put10 {w X : World} {B p : Nat} {a : Option Addr} {len cap vb : Nat} {R : Rl} {x : Int} (hR : R.bds) (h : DS 11 w X B p a len cap vb (RVf R) (fun _ => .int .i64 0)) (hB : B ≤ w.heap.size) (hx : bd x) : RuD w (X.setCell ⟨vb, 10, none⟩ (.int .i64 x)) B p a len cap vb :=
  ⟨{ R with gr := x }, by obtain ⟨⟨q0, q1, q2, q3, q4⟩, q5, q6, q7, q8, q9, q10⟩ := hR; exact ⟨⟨q0, q1, q2, q3, q4⟩, q5, q6, q7, q8, q9, hx⟩, (h.set hB 10 _ (by omega)).same (fun i hi => by rcases (by omega : i = 0 ∨ i = 1 ∨ i = 2 ∨ i = 3 ∨ i = 4 ∨ i = 5 ∨ i = 6 ∨ i = 7 ∨ i = 8 ∨ i = 9 ∨ i = 10) with rfl | rfl | rfl | rfl | rfl | rfl | rfl | rfl | rfl | rfl | rfl <;> rfl)⟩
/-- a rule was drawn -/
def RuE (w : World) (B p : Nat) (a : Option Addr) (len cap : Nat) (e : Ending) (w' : World) : Prop :=
  ∃ R : Rl, e = .returned (.agg #[.int .i64 R.d, .int .i64 R.r1, .int .i64 R.r2, .int .i64 R.r3, .int .i64 R.r4, .int .i64 R.k, .int .i64 R.z, .int .i64 R.o, .int .i64 R.y, .int .i64 R.mo, .int .i64 R.gr]) ∧ R.bds ∧ Base.Cur B w' p a len cap ∧ w.grownBy w' (some p)
set_option maxHeartbeats 4000000 in
theorem drawRule (B p : Nat) (a : Option Addr) (len cap : Nat) (w : World) (hc : Base.Cur B w p a len cap) (hB : B ≤ w.heap.size) :
    Calls Try.prog 18 #[.pointer (some ⟨p, 0, none⟩)] w (RuE w B p a len cap) := by
  obtain ⟨W0, hW0⟩ : ∃ W0, w.alloc (.cells #[.int .i64 0, .int .i64 0, .int .i64 0, .int .i64 0, .int .i64 0, .int .i64 0, .int .i64 0, .int .i64 0, .int .i64 0, .int .i64 0, .int .i64 0] 27) = W0 := ⟨_, rfl⟩
  have pw := hc.lt
  have D0 := Base.hide (hW0 ▸ hc.alloc _ : Base.Cur B W0 p a len cap)
  have G0 := Base.hide (hW0 ▸ Lib.grownBy_allocR (Base.grown_refl w p) _ : w.grownBy W0 (some p))
  have R0 := Base.hide (show (∀ i, i < 11 → W0.cell? ⟨w.heap.size, i, none⟩ = some (.int .i64 0)) ∧ (∀ i, W0.frozen? ⟨w.heap.size, i, none⟩ = false) from hW0 ▸ ⟨fun i hi => by rcases (by omega : i = 0 ∨ i = 1 ∨ i = 2 ∨ i = 3 ∨ i = 4 ∨ i = 5 ∨ i = 6 ∨ i = 7 ∨ i = 8 ∨ i = 9 ∨ i = 10) with rfl | rfl | rfl | rfl | rfl | rfl | rfl | rfl | rfl | rfl | rfl <;> simp [go_sem], fun i => by simp [go_sem]⟩)
  have z0 : W0.heap.size = w.heap.size + 1 := by rw [← hW0]; simp
  have Z0 := Base.hide z0
  have PW := Base.hide pw
  clear hc z0 pw
  go_enter Try.func18, Try.ntmps18
  go_wp2_with fail
  refine (Base.l1Below B p a len cap 3 _ D0.out (by decide) (by decide)).mono ?_; rintro e w1 ⟨x, x0, x1, rfl, d1, g1⟩
  have D1 := Base.hide d1
  have G1 := Base.hide g1
  clear d1 g1 hW0
  obtain ⟨x', hx'⟩ : ∃ y, 1 + x = y := ⟨_, rfl⟩
  have wx : IntKind.i64.wrap (1 + x) = x' := by rw [wid (by omega)]; exact hx'
  have X1 := Base.hide (show bd x' from ⟨by omega, by omega⟩)
  clear hx'
  go_wp2_with fail
  refine (drawSched B p a len cap _ D1.out (Nat.le_trans hB (by have := Z0.out; have := G1.out.size; omega))).mono ?_; rintro e w2 ⟨s0, s1, s2, s3, rfl, b0, b1, b2, b3, d2, g2⟩
  have D2 := Base.hide d2
  have G2 := Base.hide (G1.out.trans g2)
  have SB := Base.hide (And.intro b0 (And.intro b1 (And.intro b2 b3)))
  clear d2 g2 b0 b1 b2 b3 D1 G1 wx
  go_wp2_with fail
  refine (Base.l1Below B p a len cap 65537 _ D2.out (by decide) (by decide)).mono ?_; rintro e w3 ⟨k, k0, k1, rfl, d3, g3⟩
  have D3 := Base.hide d3
  have G3 := Base.hide (G2.out.trans g3)
  have KB := Base.hide (show bd k from ⟨by omega, by omega⟩)
  clear d3 g3 D2 G2 k0 k1
  go_wp2_with fail
  refine (Base.l1Below B p a len cap 65537 _ D3.out (by decide) (by decide)).mono ?_; rintro e w4 ⟨z, z0, z1, rfl, d4, g4⟩
  have D4 := Base.hide d4
  have G4 := Base.hide (G3.out.trans g4)
  have ZB := Base.hide (show bd z from ⟨by omega, by omega⟩)
  clear d4 g4 D3 G3 z0 z1
  go_wp2_with fail
  refine (Base.l1Below B p a len cap 1000 _ D4.out (by decide) (by decide)).mono ?_; rintro e w5 ⟨l, l0, l1, rfl, d5, g5⟩
  obtain ⟨l', hl'⟩ : ∃ y, 1 + l = y := ⟨_, rfl⟩
  have wl : IntKind.i64.wrap (1 + l) = l' := by rw [wid (by omega)]; exact hl'
  have LB := Base.hide (show bd l' from ⟨by omega, by omega⟩)
  clear hl'
  go_wp2_with fail
  clear wl
  obtain ⟨W6, hW6⟩ : ∃ W6, w5.alloc (.cells #[.int .i64 x', .int .i64 s0, .int .i64 s1, .int .i64 s2, .int .i64 s3, .int .i64 k, .int .i64 z, .int .i64 l', .int .i64 0, .int .i64 0, .int .i64 0] 27) = W6 := ⟨_, rfl⟩
  have g6 : W0.grownBy W6 (some p) := hW6 ▸ Lib.grownBy_allocR (G4.out.trans g5) _
  have HR := Base.hide (show RuD w W6 B p a len cap w5.heap.size from ⟨⟨x', s0, s1, s2, s3, k, z, l', 0, 0, 0⟩, ⟨⟨X1.out, SB.out.1, SB.out.2.1, SB.out.2.2.1, SB.out.2.2.2⟩, KB.out, ZB.out, LB.out, (show bd 0 from ⟨by decide, by decide⟩), (show bd 0 from ⟨by decide, by decide⟩), (show bd 0 from ⟨by decide, by decide⟩)⟩,
      { cur := hW6 ▸ d5.alloc _
        gr := G0.out.trans g6
        c := fun i hi => by rcases (by omega : i = 0 ∨ i = 1 ∨ i = 2 ∨ i = 3 ∨ i = 4 ∨ i = 5 ∨ i = 6 ∨ i = 7 ∨ i = 8 ∨ i = 9 ∨ i = 10) with rfl | rfl | rfl | rfl | rfl | rfl | rfl | rfl | rfl | rfl | rfl <;> (rw [← hW6]; simp [go_sem, RVf])
        fz := fun i => by rw [← hW6]; simp [go_sem]
        r := fun i hi => by have := Z0.out; have := PW.out; rw [(grown_keep g6 (by omega) (by omega)).1]; exact R0.out.1 i hi
        rf := fun i => by have := Z0.out; have := PW.out; rw [(grown_keep g6 (by omega) (by omega)).2]; exact R0.out.2 i
        pw := PW.out
        wV := by have := Z0.out; have := G4.out.size; have := g5.size; omega
        VX := by rw [← hW6]; simp }⟩)
  clear d5 g5 g6 D0 D4 G0 G4 R0 X1 SB KB ZB LB l0 l1 x0 x1
  rw [hW6]
  obtain ⟨vb, hvb⟩ : ∃ vb, w5.heap.size = vb := ⟨_, rfl⟩
  rw [hvb] at HR ⊢
  clear hvb hW6 Z0
  obtain ⟨R, hRb, hD⟩ := HR.out
  have RB := Base.hide hRb
  have HD := Base.hide hD
  clear hRb hD HR
  refine (Nef.l1Once B p a len cap 2 _ HD.out.cur (by decide) (by decide)).mono ?_; rintro e w6 ⟨b, rfl, d, g⟩
  replace HD := Base.hide (HD.out.draw g d)
  clear d g
  go_upto_if 18 with fail
  go_cut [] (fun wx => RuD w wx B p a len cap vb)
  case first =>
    cases b
    · go_wp2_with fail
      go_meet
      exact ⟨R, RB.out, HD.out⟩
    · go_wp2_with fail
      refine (Base.l1Below B p a len cap 3000 _ HD.out.cur (by decide) (by decide)).mono ?_; rintro e w7 ⟨y, y0, y1, rfl, d, g⟩
      replace HD := Base.hide (HD.out.draw g d)
      clear d g
      have YB := Base.hide (show bd y from ⟨by omega, by omega⟩)
      obtain ⟨uc, ec⟩ : ∃ u, w7.cell? ⟨vb, 8, none⟩ = some u := ⟨_, HD.out.c 8 (by omega)⟩
      have fc : w7.frozen? ⟨vb, 8, none⟩ = false := HD.out.fz 8
      have PU := Base.hide (RuD.put8 RB.out HD.out hB YB.out)
      go_wp2_with fail
      go_meet
      exact PU.out
  case rest =>
  have HR := Base.hide hcut
  clear hcut HD RB
  clear R
  go_wp2_with fail
  obtain ⟨R, hRb, hD⟩ := HR.out
  have RB := Base.hide hRb
  have HD := Base.hide hD
  clear hRb hD HR
  refine (Nef.l1Once B p a len cap 2 _ HD.out.cur (by decide) (by decide)).mono ?_; rintro e v6 ⟨b, rfl, d, g⟩
  replace HD := Base.hide (HD.out.draw g d)
  clear d g
  go_upto_if 23 with fail
  go_cut [] (fun wx => RuD w wx B p a len cap vb)
  case first =>
    cases b
    · go_wp2_with fail
      go_meet
      exact ⟨R, RB.out, HD.out⟩
    · go_wp2_with fail
      refine (Base.l1Below B p a len cap 200000 _ HD.out.cur (by decide) (by decide)).mono ?_; rintro e v7 ⟨y, y0, y1, rfl, d, g⟩
      replace HD := Base.hide (HD.out.draw g d)
      clear d g
      obtain ⟨y', hy'⟩ : ∃ q, 1 + y = q := ⟨_, rfl⟩
      have wy : IntKind.i64.wrap (1 + y) = y' := by rw [wid (by omega)]; exact hy'
      have YB := Base.hide (show bd y' from ⟨by omega, by omega⟩)
      clear hy'
      obtain ⟨uc, ec⟩ : ∃ u, v7.cell? ⟨vb, 9, none⟩ = some u := ⟨_, HD.out.c 9 (by omega)⟩
      have fc : v7.frozen? ⟨vb, 9, none⟩ = false := HD.out.fz 9
      have PU := Base.hide (RuD.put9 RB.out HD.out hB YB.out)
      go_wp2_with fail
      go_meet
      exact PU.out
  case rest =>
  have HR := Base.hide hcut
  clear hcut HD RB
  clear R
  go_wp2_with fail
  obtain ⟨R, hRb, hD⟩ := HR.out
  have RB := Base.hide hRb
  have HD := Base.hide hD
  clear hRb hD HR
  refine (Nef.l1Once B p a len cap 2 _ HD.out.cur (by decide) (by decide)).mono ?_; rintro e x6 ⟨b, rfl, d, g⟩
  replace HD := Base.hide (HD.out.draw g d)
  clear d g
  go_upto_if 29 with fail
  go_cut [] (fun wx => RuD w wx B p a len cap vb)
  case first =>
    cases b
    · go_wp2_with fail
      go_meet
      exact ⟨R, RB.out, HD.out⟩
    · go_wp2_with fail
      refine (Base.l1Below B p a len cap 4 _ HD.out.cur (by decide) (by decide)).mono ?_; rintro e x7 ⟨y, y0, y1, rfl, d, g⟩
      replace HD := Base.hide (HD.out.draw g d)
      clear d g
      obtain ⟨y', hy'⟩ : ∃ q, 1 + y = q := ⟨_, rfl⟩
      have wy : IntKind.i64.wrap (1 + y) = y' := by rw [wid (by omega)]; exact hy'
      have YB := Base.hide (show bd y' from ⟨by omega, by omega⟩)
      clear hy'
      obtain ⟨uc, ec⟩ : ∃ u, x7.cell? ⟨vb, 10, none⟩ = some u := ⟨_, HD.out.c 10 (by omega)⟩
      have fc : x7.frozen? ⟨vb, 10, none⟩ = false := HD.out.fz 10
      have PU := Base.hide (RuD.put10 RB.out HD.out hB YB.out)
      go_wp2_with fail
      go_meet
      exact PU.out
  case rest =>
  have HR := Base.hide hcut
  clear hcut HD RB
  clear R
  go_wp2_with fail
  obtain ⟨R, hRb, hD⟩ := HR.out
  have RB := Base.hide hRb
  have HD := Base.hide hD
  clear hRb hD HR
  refine (Nef.l1Once B p a len cap 40 _ HD.out.cur (by decide) (by decide)).mono ?_; rintro e z6 ⟨b, rfl, d, g⟩
  replace HD := Base.hide (HD.out.draw g d)
  clear d g
  go_upto_if 35 with fail
  go_cut [] (fun wx => RuD w wx B p a len cap vb)
  case first =>
    cases b
    · go_wp2_with fail
      go_meet
      exact ⟨R, RB.out, HD.out⟩
    · go_wp2_with fail
      refine (Base.l1Below B p a len cap 5 _ HD.out.cur (by decide) (by decide)).mono ?_; rintro e z7 ⟨y, y0, y1, rfl, d, g⟩
      replace HD := Base.hide (HD.out.draw g d)
      clear d g
      obtain ⟨yn, rfl⟩ := Int.eq_ofNat_of_zero_le y0
      have hy5 : yn < 5 := by omega
      clear y0 y1
      rcases (by omega : yn = 0 ∨ yn = 1 ∨ yn = 2 ∨ yn = 3 ∨ yn = 4) with rfl | rfl | rfl | rfl | rfl
      · have hl := Base.laid_ints z7 [0, 4] 3 (-9223372036854775808) 9223372036854775807 (by intro q hq; simp at hq; omega)
        have HA := Base.hide (HD.out.alloc (.cells (([0, 4] : List Int).map (Value.int .i64)).toArray 3))
        have vp := HD.out.cur.lt
        clear HD
        go_wp2_with fail
        refine (Base.l1PickInt B p a len cap z7.heap.size 2 (-9223372036854775808) 9223372036854775807 _ HA.out.cur (by omega) (by omega) (by omega) hl).mono ?_; rintro e z8 ⟨q, q0, q1, rfl, d, g⟩
        have HD := Base.hide (HA.out.draw g d)
        clear d g hl vp HA
        obtain ⟨uc, ec⟩ : ∃ u, z8.cell? ⟨vb, 0, none⟩ = some u := ⟨_, HD.out.c 0 (by omega)⟩
        have fc : z8.frozen? ⟨vb, 0, none⟩ = false := HD.out.fz 0
        have PU := Base.hide (RuD.put0 (x := q) RB.out HD.out hB ⟨q0, q1⟩)
        go_wp2_with fail
        go_meet
        exact PU.out
      · obtain ⟨uc, ec⟩ : ∃ u, z7.cell? ⟨vb, 5, none⟩ = some u := ⟨_, HD.out.c 5 (by omega)⟩
        have fc : z7.frozen? ⟨vb, 5, none⟩ = false := HD.out.fz 5
        have PU := Base.hide (RuD.put5 (x := 65537) RB.out HD.out hB ⟨by decide, by decide⟩)
        go_wp2_with fail
        go_meet
        exact PU.out
      · obtain ⟨uc, ec⟩ : ∃ u, z7.cell? ⟨vb, 7, none⟩ = some u := ⟨_, HD.out.c 7 (by omega)⟩
        have fc : z7.frozen? ⟨vb, 7, none⟩ = false := HD.out.fz 7
        have PU := Base.hide (RuD.put7 (x := 0) RB.out HD.out hB ⟨by decide, by decide⟩)
        go_wp2_with fail
        go_meet
        exact PU.out
      · obtain ⟨uc, ec⟩ : ∃ u, z7.cell? ⟨vb, 9, none⟩ = some u := ⟨_, HD.out.c 9 (by omega)⟩
        have fc : z7.frozen? ⟨vb, 9, none⟩ = false := HD.out.fz 9
        have PU := Base.hide (RuD.put9 (x := 1073741825) RB.out HD.out hB ⟨by decide, by decide⟩)
        go_wp2_with fail
        go_meet
        exact PU.out
      · obtain ⟨uc, ec⟩ : ∃ u, z7.cell? ⟨vb, 10, none⟩ = some u := ⟨_, HD.out.c 10 (by omega)⟩
        have fc : z7.frozen? ⟨vb, 10, none⟩ = false := HD.out.fz 10
        have PU := Base.hide (RuD.put10 (x := (-1)) RB.out HD.out hB ⟨by decide, by decide⟩)
        go_wp2_with fail
        go_meet
        exact PU.out
  case rest =>
  obtain ⟨R, hRb, hD⟩ := hcut
  have RB := Base.hide hRb
  have HX := Base.hide hD
  clear hRb hD HD
  have o0 : wc.cell? ⟨vb, 0, none⟩ = some (.int .i64 R.d) := HX.out.c 0 (by omega)
  have o1 : wc.cell? ⟨vb, 1, none⟩ = some (.int .i64 R.r1) := HX.out.c 1 (by omega)
  have o2 : wc.cell? ⟨vb, 2, none⟩ = some (.int .i64 R.r2) := HX.out.c 2 (by omega)
  have o3 : wc.cell? ⟨vb, 3, none⟩ = some (.int .i64 R.r3) := HX.out.c 3 (by omega)
  have o4 : wc.cell? ⟨vb, 4, none⟩ = some (.int .i64 R.r4) := HX.out.c 4 (by omega)
  have o5 : wc.cell? ⟨vb, 5, none⟩ = some (.int .i64 R.k) := HX.out.c 5 (by omega)
  have o6 : wc.cell? ⟨vb, 6, none⟩ = some (.int .i64 R.z) := HX.out.c 6 (by omega)
  have o7 : wc.cell? ⟨vb, 7, none⟩ = some (.int .i64 R.o) := HX.out.c 7 (by omega)
  have o8 : wc.cell? ⟨vb, 8, none⟩ = some (.int .i64 R.y) := HX.out.c 8 (by omega)
  have o9 : wc.cell? ⟨vb, 9, none⟩ = some (.int .i64 R.mo) := HX.out.c 9 (by omega)
  have o10 : wc.cell? ⟨vb, 10, none⟩ = some (.int .i64 R.gr) := HX.out.c 10 (by omega)
  obtain ⟨Y0, hY0⟩ : ∃ Y, wc.setCell ⟨w.heap.size, 0, none⟩ (.int .i64 R.d) = Y := ⟨_, rfl⟩
  obtain ⟨uY0, eY0⟩ : ∃ u, wc.cell? ⟨w.heap.size, 0, none⟩ = some u := ⟨_, HX.out.r 0 (by omega)⟩
  have gY0 : wc.frozen? ⟨w.heap.size, 0, none⟩ = false := HX.out.rf 0
  replace HX := Base.hide (show DS 11 w Y0 B p a len cap vb _ _ from hY0 ▸ HX.out.setR hB 0 (.int .i64 R.d) (by omega))
  obtain ⟨Y1, hY1⟩ : ∃ Y, Y0.setCell ⟨w.heap.size, 1, none⟩ (.int .i64 R.r1) = Y := ⟨_, rfl⟩
  obtain ⟨uY1, eY1⟩ : ∃ u, Y0.cell? ⟨w.heap.size, 1, none⟩ = some u := ⟨_, HX.out.r 1 (by omega)⟩
  have gY1 : Y0.frozen? ⟨w.heap.size, 1, none⟩ = false := HX.out.rf 1
  replace HX := Base.hide (show DS 11 w Y1 B p a len cap vb _ _ from hY1 ▸ HX.out.setR hB 1 (.int .i64 R.r1) (by omega))
  obtain ⟨Y2, hY2⟩ : ∃ Y, Y1.setCell ⟨w.heap.size, 2, none⟩ (.int .i64 R.r2) = Y := ⟨_, rfl⟩
  obtain ⟨uY2, eY2⟩ : ∃ u, Y1.cell? ⟨w.heap.size, 2, none⟩ = some u := ⟨_, HX.out.r 2 (by omega)⟩
  have gY2 : Y1.frozen? ⟨w.heap.size, 2, none⟩ = false := HX.out.rf 2
  replace HX := Base.hide (show DS 11 w Y2 B p a len cap vb _ _ from hY2 ▸ HX.out.setR hB 2 (.int .i64 R.r2) (by omega))
  obtain ⟨Y3, hY3⟩ : ∃ Y, Y2.setCell ⟨w.heap.size, 3, none⟩ (.int .i64 R.r3) = Y := ⟨_, rfl⟩
  obtain ⟨uY3, eY3⟩ : ∃ u, Y2.cell? ⟨w.heap.size, 3, none⟩ = some u := ⟨_, HX.out.r 3 (by omega)⟩
  have gY3 : Y2.frozen? ⟨w.heap.size, 3, none⟩ = false := HX.out.rf 3
  replace HX := Base.hide (show DS 11 w Y3 B p a len cap vb _ _ from hY3 ▸ HX.out.setR hB 3 (.int .i64 R.r3) (by omega))
  obtain ⟨Y4, hY4⟩ : ∃ Y, Y3.setCell ⟨w.heap.size, 4, none⟩ (.int .i64 R.r4) = Y := ⟨_, rfl⟩
  obtain ⟨uY4, eY4⟩ : ∃ u, Y3.cell? ⟨w.heap.size, 4, none⟩ = some u := ⟨_, HX.out.r 4 (by omega)⟩
  have gY4 : Y3.frozen? ⟨w.heap.size, 4, none⟩ = false := HX.out.rf 4
  replace HX := Base.hide (show DS 11 w Y4 B p a len cap vb _ _ from hY4 ▸ HX.out.setR hB 4 (.int .i64 R.r4) (by omega))
  obtain ⟨Y5, hY5⟩ : ∃ Y, Y4.setCell ⟨w.heap.size, 5, none⟩ (.int .i64 R.k) = Y := ⟨_, rfl⟩
  obtain ⟨uY5, eY5⟩ : ∃ u, Y4.cell? ⟨w.heap.size, 5, none⟩ = some u := ⟨_, HX.out.r 5 (by omega)⟩
  have gY5 : Y4.frozen? ⟨w.heap.size, 5, none⟩ = false := HX.out.rf 5
  replace HX := Base.hide (show DS 11 w Y5 B p a len cap vb _ _ from hY5 ▸ HX.out.setR hB 5 (.int .i64 R.k) (by omega))
  obtain ⟨Y6, hY6⟩ : ∃ Y, Y5.setCell ⟨w.heap.size, 6, none⟩ (.int .i64 R.z) = Y := ⟨_, rfl⟩
  obtain ⟨uY6, eY6⟩ : ∃ u, Y5.cell? ⟨w.heap.size, 6, none⟩ = some u := ⟨_, HX.out.r 6 (by omega)⟩
  have gY6 : Y5.frozen? ⟨w.heap.size, 6, none⟩ = false := HX.out.rf 6
  replace HX := Base.hide (show DS 11 w Y6 B p a len cap vb _ _ from hY6 ▸ HX.out.setR hB 6 (.int .i64 R.z) (by omega))
  obtain ⟨Y7, hY7⟩ : ∃ Y, Y6.setCell ⟨w.heap.size, 7, none⟩ (.int .i64 R.o) = Y := ⟨_, rfl⟩
  obtain ⟨uY7, eY7⟩ : ∃ u, Y6.cell? ⟨w.heap.size, 7, none⟩ = some u := ⟨_, HX.out.r 7 (by omega)⟩
  have gY7 : Y6.frozen? ⟨w.heap.size, 7, none⟩ = false := HX.out.rf 7
  replace HX := Base.hide (show DS 11 w Y7 B p a len cap vb _ _ from hY7 ▸ HX.out.setR hB 7 (.int .i64 R.o) (by omega))
  obtain ⟨Y8, hY8⟩ : ∃ Y, Y7.setCell ⟨w.heap.size, 8, none⟩ (.int .i64 R.y) = Y := ⟨_, rfl⟩
  obtain ⟨uY8, eY8⟩ : ∃ u, Y7.cell? ⟨w.heap.size, 8, none⟩ = some u := ⟨_, HX.out.r 8 (by omega)⟩
  have gY8 : Y7.frozen? ⟨w.heap.size, 8, none⟩ = false := HX.out.rf 8
  replace HX := Base.hide (show DS 11 w Y8 B p a len cap vb _ _ from hY8 ▸ HX.out.setR hB 8 (.int .i64 R.y) (by omega))
  obtain ⟨Y9, hY9⟩ : ∃ Y, Y8.setCell ⟨w.heap.size, 9, none⟩ (.int .i64 R.mo) = Y := ⟨_, rfl⟩
  obtain ⟨uY9, eY9⟩ : ∃ u, Y8.cell? ⟨w.heap.size, 9, none⟩ = some u := ⟨_, HX.out.r 9 (by omega)⟩
  have gY9 : Y8.frozen? ⟨w.heap.size, 9, none⟩ = false := HX.out.rf 9
  replace HX := Base.hide (show DS 11 w Y9 B p a len cap vb _ _ from hY9 ▸ HX.out.setR hB 9 (.int .i64 R.mo) (by omega))
  obtain ⟨Y10, hY10⟩ : ∃ Y, Y9.setCell ⟨w.heap.size, 10, none⟩ (.int .i64 R.gr) = Y := ⟨_, rfl⟩
  obtain ⟨uY10, eY10⟩ : ∃ u, Y9.cell? ⟨w.heap.size, 10, none⟩ = some u := ⟨_, HX.out.r 10 (by omega)⟩
  have gY10 : Y9.frozen? ⟨w.heap.size, 10, none⟩ = false := HX.out.rf 10
  replace HX := Base.hide (show DS 11 w Y10 B p a len cap vb _ _ from hY10 ▸ HX.out.setR hB 10 (.int .i64 R.gr) (by omega))
  have r0 : Y10.cell? ⟨w.heap.size, 0, none⟩ = some (.int .i64 R.d) := HX.out.r 0 (by omega)
  have r1 : Y10.cell? ⟨w.heap.size, 1, none⟩ = some (.int .i64 R.r1) := HX.out.r 1 (by omega)
  have r2 : Y10.cell? ⟨w.heap.size, 2, none⟩ = some (.int .i64 R.r2) := HX.out.r 2 (by omega)
  have r3 : Y10.cell? ⟨w.heap.size, 3, none⟩ = some (.int .i64 R.r3) := HX.out.r 3 (by omega)
  have r4 : Y10.cell? ⟨w.heap.size, 4, none⟩ = some (.int .i64 R.r4) := HX.out.r 4 (by omega)
  have r5 : Y10.cell? ⟨w.heap.size, 5, none⟩ = some (.int .i64 R.k) := HX.out.r 5 (by omega)
  have r6 : Y10.cell? ⟨w.heap.size, 6, none⟩ = some (.int .i64 R.z) := HX.out.r 6 (by omega)
  have r7 : Y10.cell? ⟨w.heap.size, 7, none⟩ = some (.int .i64 R.o) := HX.out.r 7 (by omega)
  have r8 : Y10.cell? ⟨w.heap.size, 8, none⟩ = some (.int .i64 R.y) := HX.out.r 8 (by omega)
  have r9 : Y10.cell? ⟨w.heap.size, 9, none⟩ = some (.int .i64 R.mo) := HX.out.r 9 (by omega)
  have r10 : Y10.cell? ⟨w.heap.size, 10, none⟩ = some (.int .i64 R.gr) := HX.out.r 10 (by omega)
  go_wp2_with fail
  exact bodyPost_ret (v := .agg #[.int .i64 R.d, .int .i64 R.r1, .int .i64 R.r2, .int .i64 R.r3, .int .i64 R.r4, .int .i64 R.k, .int .i64 R.z, .int .i64 R.o, .int .i64 R.y, .int .i64 R.mo, .int .i64 R.gr]) (by simp [results, Try.results18, go_sem, r0, r1, r2, r3, r4, r5, r6, r7, r8, r9, r10]) rfl ⟨R, rfl, RB.out, HX.out.cur, HX.out.gr⟩
end Vo
end Go.Proofs.Ytflbhlepmjiejaa

/- RunOpt and StepOpt of the program (written by tools/genoy.py). -/
namespace Go.Proofs.Ytflbhlepmjiejaa
namespace Vo
open Go.ChangeShapes Go.WideShapes Go.ChangeAt Go.RowKit Go.Joins Go.Sort
open Vl
set_option linter.unusedVariables false
set_option linter.unusedSimpArgs false
set_option maxHeartbeats 2000000 in
theorem runOptYes (R : Rl) (n m cP cF cS cl : Nat) (s : St) (aP aF aS ls : Option Addr) (L : Nat → LV) (w : World) (h1 : Ints w.heap.size w aP n s.P) (h2 : Ints w.heap.size w aF n s.F) (h3 : Ints w.heap.size w aS n s.S) (z1 : aP = none → n = 0 ∧ True) (z2 : aF = none → n = 0 ∧ True) (z3 : aS = none → n = 0 ∧ True) (hb : bd s.c ∧ bd s.f ∧ bd s.g) (hRb : R.bds) (hs : s.ok n) (hR : R.okB = true) (hL : LL w.heap.size w ls m L) (hm : (m : Int) ≤ 1048576) (U : Int → Int) (GG : Int → (Nat → Int) → Nat → Int) (hU : ∀ t, 0 ≤ t → t < 1000000 → (0 ≤ U t ∧ U t ≤ 16777216) ∧ ∀ w, Calls Try.prog 63 #[.agg #[.int .i64 R.r1, .int .i64 R.r2, .int .i64 R.r3, .int .i64 R.r4], .int .i64 t] w fun e w' => e = .returned (.int .i64 (U t)) ∧ Below w.heap.size w w') (hG : ∀ f Gr, fac f = true → ib (-16777216) 16777216 n Gr = true → (∀ j, j < n → -16777216 ≤ GG f Gr j ∧ GG f Gr j ≤ 16777216) ∧ ∀ w a cap, Ints w.heap.size w a n Gr → Calls Try.prog 65 #[.agg #[.int .i64 R.d, .int .i64 R.r1, .int .i64 R.r2, .int .i64 R.r3, .int .i64 R.r4, .int .i64 R.k, .int .i64 R.z, .int .i64 R.o, .int .i64 R.y, .int .i64 R.mo, .int .i64 R.gr], .slice a n cap, .int .i64 f] w (ListR n (GG f Gr) w)) :
    Calls Try.prog 8 #[.agg #[.int .i64 R.d, .int .i64 R.r1, .int .i64 R.r2, .int .i64 R.r3, .int .i64 R.r4, .int .i64 R.k, .int .i64 R.z, .int .i64 R.o, .int .i64 R.y, .int .i64 R.mo, .int .i64 R.gr], .agg #[.slice aP n cP, .slice aF n cF, .slice aS n cS, .int .i64 s.c, .int .i64 s.f, .int .i64 s.g], .slice ls m cl] w (RunR n m (sq R n U GG L s) (Stp R n U GG L s) w) := by
  obtain ⟨W1, hW1⟩ : ∃ W1, w.alloc (.cells #[.int .i64 R.d, .int .i64 R.r1, .int .i64 R.r2, .int .i64 R.r3, .int .i64 R.r4, .int .i64 R.k, .int .i64 R.z, .int .i64 R.o, .int .i64 R.y, .int .i64 R.mo, .int .i64 R.gr] 27) = W1 := ⟨_, rfl⟩
  have nw1 : Below w.heap.size w W1 := hW1 ▸ (Below.refl _ _).alloc (Nat.le_refl _) _
  have y1 : w.heap.size < W1.heap.size := by rw [← hW1]; simp
  obtain ⟨W2, hW2⟩ : ∃ W2, W1.alloc (.cells #[.slice aP n cP, .slice aF n cF, .slice aS n cS, .int .i64 s.c, .int .i64 s.f, .int .i64 s.g] 30) = W2 := ⟨_, rfl⟩
  have nw2 : Below W1.heap.size W1 W2 := hW2 ▸ (Below.refl _ _).alloc (Nat.le_refl _) _
  have y2 : W1.heap.size < W2.heap.size := by rw [← hW2]; simp
  obtain ⟨W3, hW3⟩ : ∃ W3, W2.alloc (.cells #[.slice none 0 0, .slice none 0 0, .slice none 0 0, .int .i64 0, .int .i64 0, .int .i64 0] 30) = W3 := ⟨_, rfl⟩
  have nw3 : Below W2.heap.size W2 W3 := hW3 ▸ (Below.refl _ _).alloc (Nat.le_refl _) _
  have y3 : W2.heap.size < W3.heap.size := by rw [← hW3]; simp
  have LL0 := hide (show Lis [(⟨w.heap.size, 0, none⟩, .int .i64 R.d), (⟨w.heap.size, 1, none⟩, .int .i64 R.r1), (⟨w.heap.size, 2, none⟩, .int .i64 R.r2), (⟨w.heap.size, 3, none⟩, .int .i64 R.r3), (⟨w.heap.size, 4, none⟩, .int .i64 R.r4), (⟨w.heap.size, 5, none⟩, .int .i64 R.k), (⟨w.heap.size, 6, none⟩, .int .i64 R.z), (⟨w.heap.size, 7, none⟩, .int .i64 R.o), (⟨w.heap.size, 8, none⟩, .int .i64 R.y), (⟨w.heap.size, 9, none⟩, .int .i64 R.mo), (⟨w.heap.size, 10, none⟩, .int .i64 R.gr)] W3 from ((show Lis [(⟨w.heap.size, 0, none⟩, .int .i64 R.d), (⟨w.heap.size, 1, none⟩, .int .i64 R.r1), (⟨w.heap.size, 2, none⟩, .int .i64 R.r2), (⟨w.heap.size, 3, none⟩, .int .i64 R.r3), (⟨w.heap.size, 4, none⟩, .int .i64 R.r4), (⟨w.heap.size, 5, none⟩, .int .i64 R.k), (⟨w.heap.size, 6, none⟩, .int .i64 R.z), (⟨w.heap.size, 7, none⟩, .int .i64 R.o), (⟨w.heap.size, 8, none⟩, .int .i64 R.y), (⟨w.heap.size, 9, none⟩, .int .i64 R.mo), (⟨w.heap.size, 10, none⟩, .int .i64 R.gr)] W1 from fun x hx => by
      simp only [List.mem_cons, List.not_mem_nil, or_false] at hx
      rcases hx with rfl | rfl | rfl | rfl | rfl | rfl | rfl | rfl | rfl | rfl | rfl <;> (rw [← hW1]; simp [go_sem])).below nw2).below nw3)
  have LO0 := hide (show Lis [(⟨W1.heap.size, 0, none⟩, .slice aP n cP), (⟨W1.heap.size, 1, none⟩, .slice aF n cF), (⟨W1.heap.size, 2, none⟩, .slice aS n cS), (⟨W1.heap.size, 3, none⟩, .int .i64 s.c), (⟨W1.heap.size, 4, none⟩, .int .i64 s.f), (⟨W1.heap.size, 5, none⟩, .int .i64 s.g)] W3 from (show Lis [(⟨W1.heap.size, 0, none⟩, .slice aP n cP), (⟨W1.heap.size, 1, none⟩, .slice aF n cF), (⟨W1.heap.size, 2, none⟩, .slice aS n cS), (⟨W1.heap.size, 3, none⟩, .int .i64 s.c), (⟨W1.heap.size, 4, none⟩, .int .i64 s.f), (⟨W1.heap.size, 5, none⟩, .int .i64 s.g)] W2 from fun x hx => by
      simp only [List.mem_cons, List.not_mem_nil, or_false] at hx
      rcases hx with rfl | rfl | rfl | rfl | rfl | rfl <;> (rw [← hW2]; simp [go_sem])).below nw3)
  have R1 := hide (show C6 W3 W2.heap.size (OV none none none 0 0 0 0 0 0 0) from ⟨fun i hi => by rcases (by omega : i = 0 ∨ i = 1 ∨ i = 2 ∨ i = 3 ∨ i = 4 ∨ i = 5) with rfl | rfl | rfl | rfl | rfl | rfl <;> (rw [← hW3]; simp [go_sem, OV]), fun i => by rw [← hW3]; simp [go_sem], y3⟩)
  have B3 := hide ((nw1.trans (nw2.mono nw1.size)).trans (nw3.mono (Nat.le_trans nw1.size nw2.size)))
  have Y := hide (And.intro y1 (And.intro y2 y3))
  clear nw1 nw2 nw3 y1 y2 y3
  have n4 : (n : Int) ≤ 4096 := hs.1
  have S3 := hide (Nat.le_refl W3.heap.size)
  have hyes : ook n n n s.P s.F s.S s.c s.f s.g = true := decide_eq_true hs
  have CO := hide (implOpt aP aF aS n n n cP cF cS s.P s.F s.S s.c s.f s.g W3 ((h1.below B3.out).mono B3.out.size) ((h2.below B3.out).mono B3.out.size) ((h3.below B3.out).mono B3.out.size) (by omega) hb.1 hb.2.1 hb.2.2 (by omega) (by omega))
  rw [hyes] at CO
  have H1 := hide h1
  have H2 := hide h2
  have H3 := hide h3
  have E1 := hide z1
  have E2 := hide z2
  have E3 := hide z3
  have CRu := hide (fun w => implRule R.d R.r1 R.r2 R.r3 R.r4 R.k R.z R.o R.y R.mo R.gr w hRb.1.1 hRb.1.2.1 hRb.1.2.2.1 hRb.1.2.2.2.1 hRb.1.2.2.2.2 hRb.2.1 hRb.2.2.1 hRb.2.2.2.1 hRb.2.2.2.2.1 hRb.2.2.2.2.2.1 hRb.2.2.2.2.2.2)
  have hR' : rulOk R.d R.r1 R.r2 R.r3 R.r4 R.k R.z R.o R.y R.mo R.gr = true := hR
  rw [hR'] at CRu
  have HL := hide hL
  have HRR := hide (show R.ok from hR)
  have HS := hide hs
  have HU := hide hU
  have HG := hide hG
  clear h1 h2 h3 z1 z2 z3 hb hRb hs hyes hR hR' hL hU hG
  have o0 : W3.cell? ⟨W1.heap.size, 0, none⟩ = some (.slice aP n cP) := LO0.out (⟨W1.heap.size, 0, none⟩, .slice aP n cP) (.head _)
  have o1 : W3.cell? ⟨W1.heap.size, 1, none⟩ = some (.slice aF n cF) := LO0.out (⟨W1.heap.size, 1, none⟩, .slice aF n cF) (.tail _ (.head _))
  have o2 : W3.cell? ⟨W1.heap.size, 2, none⟩ = some (.slice aS n cS) := LO0.out (⟨W1.heap.size, 2, none⟩, .slice aS n cS) (.tail _ (.tail _ (.head _)))
  have o3 : W3.cell? ⟨W1.heap.size, 3, none⟩ = some (.int .i64 s.c) := LO0.out (⟨W1.heap.size, 3, none⟩, .int .i64 s.c) (.tail _ (.tail _ (.tail _ (.head _))))
  have o4 : W3.cell? ⟨W1.heap.size, 4, none⟩ = some (.int .i64 s.f) := LO0.out (⟨W1.heap.size, 4, none⟩, .int .i64 s.f) (.tail _ (.tail _ (.tail _ (.tail _ (.head _)))))
  have o5 : W3.cell? ⟨W1.heap.size, 5, none⟩ = some (.int .i64 s.g) := LO0.out (⟨W1.heap.size, 5, none⟩, .int .i64 s.g) (.tail _ (.tail _ (.tail _ (.tail _ (.tail _ (.head _))))))
  go_enter Try.func8, Try.ntmps8
  go_wp2_with fail
  refine CO.out.mono ?_; rintro e X ⟨rfl, bx⟩
  clear hW1 hW2 hW3 CO o0 o1 o2 o3 o4 o5
  replace LL0 := hide (LL0.out.below bx)
  replace LO0 := hide (LO0.out.below bx)
  replace R1 := hide (R1.out.kept (Kept.of_below (S := fun _ => False) bx) id)
  replace B3 := hide (B3.out.trans (bx.mono B3.out.size))
  replace S3 := hide (Nat.le_trans S3.out bx.size)
  clear bx
  have l0 : X.cell? ⟨w.heap.size, 0, none⟩ = some (.int .i64 R.d) := LL0.out (⟨w.heap.size, 0, none⟩, .int .i64 R.d) (.head _)
  have l1 : X.cell? ⟨w.heap.size, 1, none⟩ = some (.int .i64 R.r1) := LL0.out (⟨w.heap.size, 1, none⟩, .int .i64 R.r1) (.tail _ (.head _))
  have l2 : X.cell? ⟨w.heap.size, 2, none⟩ = some (.int .i64 R.r2) := LL0.out (⟨w.heap.size, 2, none⟩, .int .i64 R.r2) (.tail _ (.tail _ (.head _)))
  have l3 : X.cell? ⟨w.heap.size, 3, none⟩ = some (.int .i64 R.r3) := LL0.out (⟨w.heap.size, 3, none⟩, .int .i64 R.r3) (.tail _ (.tail _ (.tail _ (.head _))))
  have l4 : X.cell? ⟨w.heap.size, 4, none⟩ = some (.int .i64 R.r4) := LL0.out (⟨w.heap.size, 4, none⟩, .int .i64 R.r4) (.tail _ (.tail _ (.tail _ (.tail _ (.head _)))))
  have l5 : X.cell? ⟨w.heap.size, 5, none⟩ = some (.int .i64 R.k) := LL0.out (⟨w.heap.size, 5, none⟩, .int .i64 R.k) (.tail _ (.tail _ (.tail _ (.tail _ (.tail _ (.head _))))))
  have l6 : X.cell? ⟨w.heap.size, 6, none⟩ = some (.int .i64 R.z) := LL0.out (⟨w.heap.size, 6, none⟩, .int .i64 R.z) (.tail _ (.tail _ (.tail _ (.tail _ (.tail _ (.tail _ (.head _)))))))
  have l7 : X.cell? ⟨w.heap.size, 7, none⟩ = some (.int .i64 R.o) := LL0.out (⟨w.heap.size, 7, none⟩, .int .i64 R.o) (.tail _ (.tail _ (.tail _ (.tail _ (.tail _ (.tail _ (.tail _ (.head _))))))))
  have l8 : X.cell? ⟨w.heap.size, 8, none⟩ = some (.int .i64 R.y) := LL0.out (⟨w.heap.size, 8, none⟩, .int .i64 R.y) (.tail _ (.tail _ (.tail _ (.tail _ (.tail _ (.tail _ (.tail _ (.tail _ (.head _)))))))))
  have l9 : X.cell? ⟨w.heap.size, 9, none⟩ = some (.int .i64 R.mo) := LL0.out (⟨w.heap.size, 9, none⟩, .int .i64 R.mo) (.tail _ (.tail _ (.tail _ (.tail _ (.tail _ (.tail _ (.tail _ (.tail _ (.tail _ (.head _))))))))))
  have l10 : X.cell? ⟨w.heap.size, 10, none⟩ = some (.int .i64 R.gr) := LL0.out (⟨w.heap.size, 10, none⟩, .int .i64 R.gr) (.tail _ (.tail _ (.tail _ (.tail _ (.tail _ (.tail _ (.tail _ (.tail _ (.tail _ (.tail _ (.head _)))))))))))
  go_wp2_with fail
  refine (CRu.out _).mono ?_; rintro e X2 ⟨rfl, bx⟩
  clear CRu l0 l1 l2 l3 l4 l5 l6 l7 l8 l9 l10
  replace LL0 := hide (LL0.out.below bx)
  replace LO0 := hide (LO0.out.below bx)
  replace R1 := hide (R1.out.kept (Kept.of_below (S := fun _ => False) bx) id)
  replace B3 := hide (B3.out.trans (bx.mono B3.out.size))
  replace S3 := hide (Nat.le_trans S3.out bx.size)
  clear bx
  have CC := hide (runI R HRR.out n m cP cF cS cl s HS.out aP aF aS ls L U GG X2 ((H1.out.below B3.out).mono B3.out.size) ((H2.out.below B3.out).mono B3.out.size) ((H3.out.below B3.out).mono B3.out.size) E1.out E2.out E3.out ((HL.out.below B3.out).mono B3.out.size) hm HU.out HG.out)
  have l0 : X2.cell? ⟨w.heap.size, 0, none⟩ = some (.int .i64 R.d) := LL0.out (⟨w.heap.size, 0, none⟩, .int .i64 R.d) (.head _)
  have l1 : X2.cell? ⟨w.heap.size, 1, none⟩ = some (.int .i64 R.r1) := LL0.out (⟨w.heap.size, 1, none⟩, .int .i64 R.r1) (.tail _ (.head _))
  have l2 : X2.cell? ⟨w.heap.size, 2, none⟩ = some (.int .i64 R.r2) := LL0.out (⟨w.heap.size, 2, none⟩, .int .i64 R.r2) (.tail _ (.tail _ (.head _)))
  have l3 : X2.cell? ⟨w.heap.size, 3, none⟩ = some (.int .i64 R.r3) := LL0.out (⟨w.heap.size, 3, none⟩, .int .i64 R.r3) (.tail _ (.tail _ (.tail _ (.head _))))
  have l4 : X2.cell? ⟨w.heap.size, 4, none⟩ = some (.int .i64 R.r4) := LL0.out (⟨w.heap.size, 4, none⟩, .int .i64 R.r4) (.tail _ (.tail _ (.tail _ (.tail _ (.head _)))))
  have l5 : X2.cell? ⟨w.heap.size, 5, none⟩ = some (.int .i64 R.k) := LL0.out (⟨w.heap.size, 5, none⟩, .int .i64 R.k) (.tail _ (.tail _ (.tail _ (.tail _ (.tail _ (.head _))))))
  have l6 : X2.cell? ⟨w.heap.size, 6, none⟩ = some (.int .i64 R.z) := LL0.out (⟨w.heap.size, 6, none⟩, .int .i64 R.z) (.tail _ (.tail _ (.tail _ (.tail _ (.tail _ (.tail _ (.head _)))))))
  have l7 : X2.cell? ⟨w.heap.size, 7, none⟩ = some (.int .i64 R.o) := LL0.out (⟨w.heap.size, 7, none⟩, .int .i64 R.o) (.tail _ (.tail _ (.tail _ (.tail _ (.tail _ (.tail _ (.tail _ (.head _))))))))
  have l8 : X2.cell? ⟨w.heap.size, 8, none⟩ = some (.int .i64 R.y) := LL0.out (⟨w.heap.size, 8, none⟩, .int .i64 R.y) (.tail _ (.tail _ (.tail _ (.tail _ (.tail _ (.tail _ (.tail _ (.tail _ (.head _)))))))))
  have l9 : X2.cell? ⟨w.heap.size, 9, none⟩ = some (.int .i64 R.mo) := LL0.out (⟨w.heap.size, 9, none⟩, .int .i64 R.mo) (.tail _ (.tail _ (.tail _ (.tail _ (.tail _ (.tail _ (.tail _ (.tail _ (.tail _ (.head _))))))))))
  have l10 : X2.cell? ⟨w.heap.size, 10, none⟩ = some (.int .i64 R.gr) := LL0.out (⟨w.heap.size, 10, none⟩, .int .i64 R.gr) (.tail _ (.tail _ (.tail _ (.tail _ (.tail _ (.tail _ (.tail _ (.tail _ (.tail _ (.tail _ (.head _)))))))))))
  have o0 : X2.cell? ⟨W1.heap.size, 0, none⟩ = some (.slice aP n cP) := LO0.out (⟨W1.heap.size, 0, none⟩, .slice aP n cP) (.head _)
  have o1 : X2.cell? ⟨W1.heap.size, 1, none⟩ = some (.slice aF n cF) := LO0.out (⟨W1.heap.size, 1, none⟩, .slice aF n cF) (.tail _ (.head _))
  have o2 : X2.cell? ⟨W1.heap.size, 2, none⟩ = some (.slice aS n cS) := LO0.out (⟨W1.heap.size, 2, none⟩, .slice aS n cS) (.tail _ (.tail _ (.head _)))
  have o3 : X2.cell? ⟨W1.heap.size, 3, none⟩ = some (.int .i64 s.c) := LO0.out (⟨W1.heap.size, 3, none⟩, .int .i64 s.c) (.tail _ (.tail _ (.tail _ (.head _))))
  have o4 : X2.cell? ⟨W1.heap.size, 4, none⟩ = some (.int .i64 s.f) := LO0.out (⟨W1.heap.size, 4, none⟩, .int .i64 s.f) (.tail _ (.tail _ (.tail _ (.tail _ (.head _)))))
  have o5 : X2.cell? ⟨W1.heap.size, 5, none⟩ = some (.int .i64 s.g) := LO0.out (⟨W1.heap.size, 5, none⟩, .int .i64 s.g) (.tail _ (.tail _ (.tail _ (.tail _ (.tail _ (.head _))))))
  go_wp2_with fail
  refine CC.out.mono ?_; rintro e X3 ⟨k, p, f, q, c, d, g, hk, rfl, ⟨q1, q2, q3⟩, hap, hok, bx⟩
  have HK := hide hk
  have HO := hide hok
  have AP := hide hap
  have QP := hide q1
  have QF := hide q2
  have QS := hide q3
  have SX := hide S3.out
  clear q1 q2 q3 hap hk hok CC o0 o1 o2 o3 o4 o5 l0 l1 l2 l3 l4 l5 l6 l7 l8 l9 l10
  replace LL0 := hide (LL0.out.below bx)
  replace LO0 := hide (LO0.out.below bx)
  replace R1 := hide (R1.out.kept (Kept.of_below (S := fun _ => False) bx) id)
  replace B3 := hide (B3.out.trans (bx.mono B3.out.size))
  replace S3 := hide (Nat.le_trans S3.out bx.size)
  clear bx
  obtain ⟨cc, hcc⟩ : ∃ cc, ((sq R n U GG L s) k).c = cc := ⟨_, rfl⟩
  obtain ⟨ff, hff⟩ : ∃ ff, ((sq R n U GG L s) k).f = ff := ⟨_, rfl⟩
  obtain ⟨gg, hgg⟩ : ∃ gg, ((sq R n U GG L s) k).g = gg := ⟨_, rfl⟩
  rw [hcc, hff, hgg]
  have EC := hide (And.intro hcc (And.intro hff hgg))
  clear hcc hff hgg
  obtain ⟨T0, hT0⟩ : ∃ T0, X3.setCell ⟨W2.heap.size, 0, none⟩ (.slice p n c) = T0 := ⟨_, rfl⟩
  have RT0 := hide (hT0 ▸ R1.out.set 0 (.slice p n c) (by omega) : C6 T0 W2.heap.size _)
  have eT0 : X3.cell? ⟨W2.heap.size, 0, none⟩ = some (.slice none 0 0) := R1.out.c 0 (by omega)
  have fT0 := R1.out.f 0
  have kT0 : Kept (· = W2.heap.size) X3 T0 := hT0 ▸ Kept.setCell X3 ⟨W2.heap.size, 0, none⟩ _
  have BT0 := hide (hT0 ▸ B3.out.setCell (p := ⟨W2.heap.size, 0, none⟩) (by have := Y.out; show w.heap.size ≤ W2.heap.size; omega) _ : Below w.heap.size w T0)
  obtain ⟨T1, hT1⟩ : ∃ T1, T0.setCell ⟨W2.heap.size, 1, none⟩ (.slice f n d) = T1 := ⟨_, rfl⟩
  have RT1 := hide (hT1 ▸ RT0.out.set 1 (.slice f n d) (by omega) : C6 T1 W2.heap.size _)
  have eT1 : T0.cell? ⟨W2.heap.size, 1, none⟩ = some (.slice none 0 0) := RT0.out.c 1 (by omega)
  have fT1 := RT0.out.f 1
  have kT1 : Kept (· = W2.heap.size) T0 T1 := hT1 ▸ Kept.setCell T0 ⟨W2.heap.size, 1, none⟩ _
  have BT1 := hide (hT1 ▸ BT0.out.setCell (p := ⟨W2.heap.size, 1, none⟩) (by have := Y.out; show w.heap.size ≤ W2.heap.size; omega) _ : Below w.heap.size w T1)
  obtain ⟨T2, hT2⟩ : ∃ T2, T1.setCell ⟨W2.heap.size, 2, none⟩ (.slice q n g) = T2 := ⟨_, rfl⟩
  have RT2 := hide (hT2 ▸ RT1.out.set 2 (.slice q n g) (by omega) : C6 T2 W2.heap.size _)
  have eT2 : T1.cell? ⟨W2.heap.size, 2, none⟩ = some (.slice none 0 0) := RT1.out.c 2 (by omega)
  have fT2 := RT1.out.f 2
  have kT2 : Kept (· = W2.heap.size) T1 T2 := hT2 ▸ Kept.setCell T1 ⟨W2.heap.size, 2, none⟩ _
  have BT2 := hide (hT2 ▸ BT1.out.setCell (p := ⟨W2.heap.size, 2, none⟩) (by have := Y.out; show w.heap.size ≤ W2.heap.size; omega) _ : Below w.heap.size w T2)
  obtain ⟨T3, hT3⟩ : ∃ T3, T2.setCell ⟨W2.heap.size, 3, none⟩ (.int .i64 cc) = T3 := ⟨_, rfl⟩
  have RT3 := hide (hT3 ▸ RT2.out.set 3 (.int .i64 cc) (by omega) : C6 T3 W2.heap.size _)
  have eT3 : T2.cell? ⟨W2.heap.size, 3, none⟩ = some (.int .i64 0) := RT2.out.c 3 (by omega)
  have fT3 := RT2.out.f 3
  have kT3 : Kept (· = W2.heap.size) T2 T3 := hT3 ▸ Kept.setCell T2 ⟨W2.heap.size, 3, none⟩ _
  have BT3 := hide (hT3 ▸ BT2.out.setCell (p := ⟨W2.heap.size, 3, none⟩) (by have := Y.out; show w.heap.size ≤ W2.heap.size; omega) _ : Below w.heap.size w T3)
  obtain ⟨T4, hT4⟩ : ∃ T4, T3.setCell ⟨W2.heap.size, 4, none⟩ (.int .i64 ff) = T4 := ⟨_, rfl⟩
  have RT4 := hide (hT4 ▸ RT3.out.set 4 (.int .i64 ff) (by omega) : C6 T4 W2.heap.size _)
  have eT4 : T3.cell? ⟨W2.heap.size, 4, none⟩ = some (.int .i64 0) := RT3.out.c 4 (by omega)
  have fT4 := RT3.out.f 4
  have kT4 : Kept (· = W2.heap.size) T3 T4 := hT4 ▸ Kept.setCell T3 ⟨W2.heap.size, 4, none⟩ _
  have BT4 := hide (hT4 ▸ BT3.out.setCell (p := ⟨W2.heap.size, 4, none⟩) (by have := Y.out; show w.heap.size ≤ W2.heap.size; omega) _ : Below w.heap.size w T4)
  obtain ⟨T5, hT5⟩ : ∃ T5, T4.setCell ⟨W2.heap.size, 5, none⟩ (.int .i64 gg) = T5 := ⟨_, rfl⟩
  have RT5 := hide (hT5 ▸ RT4.out.set 5 (.int .i64 gg) (by omega) : C6 T5 W2.heap.size _)
  have eT5 : T4.cell? ⟨W2.heap.size, 5, none⟩ = some (.int .i64 0) := RT4.out.c 5 (by omega)
  have fT5 := RT4.out.f 5
  have kT5 : Kept (· = W2.heap.size) T4 T5 := hT5 ▸ Kept.setCell T4 ⟨W2.heap.size, 5, none⟩ _
  have BT5 := hide (hT5 ▸ BT4.out.setCell (p := ⟨W2.heap.size, 5, none⟩) (by have := Y.out; show w.heap.size ≤ W2.heap.size; omega) _ : Below w.heap.size w T5)
  have kk := hide (((((kT0.trans kT1).trans kT2).trans kT3).trans kT4).trans kT5)
  have r0 : T5.cell? ⟨W2.heap.size, 0, none⟩ = some (.slice p n c) := RT5.out.c 0 (by omega)
  have r1 : T5.cell? ⟨W2.heap.size, 1, none⟩ = some (.slice f n d) := RT5.out.c 1 (by omega)
  have r2 : T5.cell? ⟨W2.heap.size, 2, none⟩ = some (.slice q n g) := RT5.out.c 2 (by omega)
  have r3 : T5.cell? ⟨W2.heap.size, 3, none⟩ = some (.int .i64 cc) := RT5.out.c 3 (by omega)
  have r4 : T5.cell? ⟨W2.heap.size, 4, none⟩ = some (.int .i64 ff) := RT5.out.c 4 (by omega)
  have r5 : T5.cell? ⟨W2.heap.size, 5, none⟩ = some (.int .i64 gg) := RT5.out.c 5 (by omega)
  clear kT0 kT1 kT2 kT3 kT4 kT5
  have ZP := hide ((QP.out.kept kk.out (fun b hb e => by have := (QP.out.blk hb).1; have := Y.out; have := SX.out; have e : b = W2.heap.size := e; omega)).mono (by have := Y.out; have := SX.out; omega : w.heap.size ≤ X2.heap.size))
  have ZF := hide ((QF.out.kept kk.out (fun b hb e => by have := (QF.out.blk hb).1; have := Y.out; have := SX.out; have e : b = W2.heap.size := e; omega)).mono (by have := Y.out; have := SX.out; omega : w.heap.size ≤ X2.heap.size))
  have ZS := hide ((QS.out.kept kk.out (fun b hb e => by have := (QS.out.blk hb).1; have := Y.out; have := SX.out; have e : b = W2.heap.size := e; omega)).mono (by have := Y.out; have := SX.out; omega : w.heap.size ≤ X2.heap.size))
  go_wp2_with fail
  refine bodyPost_ret (v := .tuple #[.agg #[.slice p n c, .slice f n d, .slice q n g, .int .i64 cc, .int .i64 ff, .int .i64 gg], .int .i64 (k : Int)]) (by simp [results, Try.results8, go_sem, r0, r1, r2, r3, r4, r5]) rfl ?_
  exact ⟨k, p, f, q, c, d, g, HK.out, by rw [EC.out.1, EC.out.2.1, EC.out.2.2], ⟨ZP.out, ZF.out, ZS.out⟩, AP.out, HO.out, BT5.out⟩
set_option maxHeartbeats 2000000 in
theorem stepOptNo (R : Rl) (n n2 n3 r cP cF cS cl : Nat) (s : St) (aP aF aS a : Option Addr) (w : World) (h1 : Ints w.heap.size w aP n s.P) (h2 : Ints w.heap.size w aF n2 s.F) (h3 : Ints w.heap.size w aS n3 s.S) (hr1 : (n : Int) ≤ 1048576) (hr2 : (n2 : Int) ≤ 1048576) (hr3 : (n3 : Int) ≤ 1048576) (hb : bd s.c ∧ bd s.f ∧ bd s.g) (hRb : R.bds) (hno : R.okB = false ∨ ook n n2 n3 s.P s.F s.S s.c s.f s.g = false) :
    Calls Try.prog 13 #[.agg #[.int .i64 R.d, .int .i64 R.r1, .int .i64 R.r2, .int .i64 R.r3, .int .i64 R.r4, .int .i64 R.k, .int .i64 R.z, .int .i64 R.o, .int .i64 R.y, .int .i64 R.mo, .int .i64 R.gr], .agg #[.slice aP n cP, .slice aF n2 cF, .slice aS n3 cS, .int .i64 s.c, .int .i64 s.f, .int .i64 s.g], .slice a r cl] w fun e w' => e = .returned (.tuple #[ZOpt, .bool false]) ∧ Below w.heap.size w w' := by
  obtain ⟨W1, hW1⟩ : ∃ W1, w.alloc (.cells #[.int .i64 R.d, .int .i64 R.r1, .int .i64 R.r2, .int .i64 R.r3, .int .i64 R.r4, .int .i64 R.k, .int .i64 R.z, .int .i64 R.o, .int .i64 R.y, .int .i64 R.mo, .int .i64 R.gr] 27) = W1 := ⟨_, rfl⟩
  have nw1 : Below w.heap.size w W1 := hW1 ▸ (Below.refl _ _).alloc (Nat.le_refl _) _
  have y1 : w.heap.size < W1.heap.size := by rw [← hW1]; simp
  obtain ⟨W2, hW2⟩ : ∃ W2, W1.alloc (.cells #[.slice aP n cP, .slice aF n2 cF, .slice aS n3 cS, .int .i64 s.c, .int .i64 s.f, .int .i64 s.g] 30) = W2 := ⟨_, rfl⟩
  have nw2 : Below W1.heap.size W1 W2 := hW2 ▸ (Below.refl _ _).alloc (Nat.le_refl _) _
  have y2 : W1.heap.size < W2.heap.size := by rw [← hW2]; simp
  obtain ⟨W3, hW3⟩ : ∃ W3, W2.alloc (.cells #[.slice none 0 0, .slice none 0 0, .slice none 0 0, .int .i64 0, .int .i64 0, .int .i64 0] 30) = W3 := ⟨_, rfl⟩
  have nw3 : Below W2.heap.size W2 W3 := hW3 ▸ (Below.refl _ _).alloc (Nat.le_refl _) _
  have y3 : W2.heap.size < W3.heap.size := by rw [← hW3]; simp
  have LL0 := hide (show Lis [(⟨w.heap.size, 0, none⟩, .int .i64 R.d), (⟨w.heap.size, 1, none⟩, .int .i64 R.r1), (⟨w.heap.size, 2, none⟩, .int .i64 R.r2), (⟨w.heap.size, 3, none⟩, .int .i64 R.r3), (⟨w.heap.size, 4, none⟩, .int .i64 R.r4), (⟨w.heap.size, 5, none⟩, .int .i64 R.k), (⟨w.heap.size, 6, none⟩, .int .i64 R.z), (⟨w.heap.size, 7, none⟩, .int .i64 R.o), (⟨w.heap.size, 8, none⟩, .int .i64 R.y), (⟨w.heap.size, 9, none⟩, .int .i64 R.mo), (⟨w.heap.size, 10, none⟩, .int .i64 R.gr)] W3 from ((show Lis [(⟨w.heap.size, 0, none⟩, .int .i64 R.d), (⟨w.heap.size, 1, none⟩, .int .i64 R.r1), (⟨w.heap.size, 2, none⟩, .int .i64 R.r2), (⟨w.heap.size, 3, none⟩, .int .i64 R.r3), (⟨w.heap.size, 4, none⟩, .int .i64 R.r4), (⟨w.heap.size, 5, none⟩, .int .i64 R.k), (⟨w.heap.size, 6, none⟩, .int .i64 R.z), (⟨w.heap.size, 7, none⟩, .int .i64 R.o), (⟨w.heap.size, 8, none⟩, .int .i64 R.y), (⟨w.heap.size, 9, none⟩, .int .i64 R.mo), (⟨w.heap.size, 10, none⟩, .int .i64 R.gr)] W1 from fun x hx => by
      simp only [List.mem_cons, List.not_mem_nil, or_false] at hx
      rcases hx with rfl | rfl | rfl | rfl | rfl | rfl | rfl | rfl | rfl | rfl | rfl <;> (rw [← hW1]; simp [go_sem])).below nw2).below nw3)
  have LO0 := hide (show Lis [(⟨W1.heap.size, 0, none⟩, .slice aP n cP), (⟨W1.heap.size, 1, none⟩, .slice aF n2 cF), (⟨W1.heap.size, 2, none⟩, .slice aS n3 cS), (⟨W1.heap.size, 3, none⟩, .int .i64 s.c), (⟨W1.heap.size, 4, none⟩, .int .i64 s.f), (⟨W1.heap.size, 5, none⟩, .int .i64 s.g)] W3 from (show Lis [(⟨W1.heap.size, 0, none⟩, .slice aP n cP), (⟨W1.heap.size, 1, none⟩, .slice aF n2 cF), (⟨W1.heap.size, 2, none⟩, .slice aS n3 cS), (⟨W1.heap.size, 3, none⟩, .int .i64 s.c), (⟨W1.heap.size, 4, none⟩, .int .i64 s.f), (⟨W1.heap.size, 5, none⟩, .int .i64 s.g)] W2 from fun x hx => by
      simp only [List.mem_cons, List.not_mem_nil, or_false] at hx
      rcases hx with rfl | rfl | rfl | rfl | rfl | rfl <;> (rw [← hW2]; simp [go_sem])).below nw3)
  have R1 := hide (show C6 W3 W2.heap.size (OV none none none 0 0 0 0 0 0 0) from ⟨fun i hi => by rcases (by omega : i = 0 ∨ i = 1 ∨ i = 2 ∨ i = 3 ∨ i = 4 ∨ i = 5) with rfl | rfl | rfl | rfl | rfl | rfl <;> (rw [← hW3]; simp [go_sem, OV]), fun i => by rw [← hW3]; simp [go_sem], y3⟩)
  have B3 := hide ((nw1.trans (nw2.mono nw1.size)).trans (nw3.mono (Nat.le_trans nw1.size nw2.size)))
  have Y := hide (And.intro y1 (And.intro y2 y3))
  clear nw1 nw2 nw3 y1 y2 y3
  have S3 := hide (Nat.le_refl W3.heap.size)
  have CO := hide (fun X (bX : Below w.heap.size w X) => implOpt aP aF aS n n2 n3 cP cF cS s.P s.F s.S s.c s.f s.g X ((h1.below bX).mono bX.size) ((h2.below bX).mono bX.size) ((h3.below bX).mono bX.size) hr1 hb.1 hb.2.1 hb.2.2 hr2 hr3)
  have CRu := hide (fun w => implRule R.d R.r1 R.r2 R.r3 R.r4 R.k R.z R.o R.y R.mo R.gr w hRb.1.1 hRb.1.2.1 hRb.1.2.2.1 hRb.1.2.2.2.1 hRb.1.2.2.2.2 hRb.2.1 hRb.2.2.1 hRb.2.2.2.1 hRb.2.2.2.2.1 hRb.2.2.2.2.2.1 hRb.2.2.2.2.2.2)
  have HN := hide hno
  clear h1 h2 h3 hr1 hr2 hr3 hb hRb hno
  have l0 : W3.cell? ⟨w.heap.size, 0, none⟩ = some (.int .i64 R.d) := LL0.out (⟨w.heap.size, 0, none⟩, .int .i64 R.d) (.head _)
  have l1 : W3.cell? ⟨w.heap.size, 1, none⟩ = some (.int .i64 R.r1) := LL0.out (⟨w.heap.size, 1, none⟩, .int .i64 R.r1) (.tail _ (.head _))
  have l2 : W3.cell? ⟨w.heap.size, 2, none⟩ = some (.int .i64 R.r2) := LL0.out (⟨w.heap.size, 2, none⟩, .int .i64 R.r2) (.tail _ (.tail _ (.head _)))
  have l3 : W3.cell? ⟨w.heap.size, 3, none⟩ = some (.int .i64 R.r3) := LL0.out (⟨w.heap.size, 3, none⟩, .int .i64 R.r3) (.tail _ (.tail _ (.tail _ (.head _))))
  have l4 : W3.cell? ⟨w.heap.size, 4, none⟩ = some (.int .i64 R.r4) := LL0.out (⟨w.heap.size, 4, none⟩, .int .i64 R.r4) (.tail _ (.tail _ (.tail _ (.tail _ (.head _)))))
  have l5 : W3.cell? ⟨w.heap.size, 5, none⟩ = some (.int .i64 R.k) := LL0.out (⟨w.heap.size, 5, none⟩, .int .i64 R.k) (.tail _ (.tail _ (.tail _ (.tail _ (.tail _ (.head _))))))
  have l6 : W3.cell? ⟨w.heap.size, 6, none⟩ = some (.int .i64 R.z) := LL0.out (⟨w.heap.size, 6, none⟩, .int .i64 R.z) (.tail _ (.tail _ (.tail _ (.tail _ (.tail _ (.tail _ (.head _)))))))
  have l7 : W3.cell? ⟨w.heap.size, 7, none⟩ = some (.int .i64 R.o) := LL0.out (⟨w.heap.size, 7, none⟩, .int .i64 R.o) (.tail _ (.tail _ (.tail _ (.tail _ (.tail _ (.tail _ (.tail _ (.head _))))))))
  have l8 : W3.cell? ⟨w.heap.size, 8, none⟩ = some (.int .i64 R.y) := LL0.out (⟨w.heap.size, 8, none⟩, .int .i64 R.y) (.tail _ (.tail _ (.tail _ (.tail _ (.tail _ (.tail _ (.tail _ (.tail _ (.head _)))))))))
  have l9 : W3.cell? ⟨w.heap.size, 9, none⟩ = some (.int .i64 R.mo) := LL0.out (⟨w.heap.size, 9, none⟩, .int .i64 R.mo) (.tail _ (.tail _ (.tail _ (.tail _ (.tail _ (.tail _ (.tail _ (.tail _ (.tail _ (.head _))))))))))
  have l10 : W3.cell? ⟨w.heap.size, 10, none⟩ = some (.int .i64 R.gr) := LL0.out (⟨w.heap.size, 10, none⟩, .int .i64 R.gr) (.tail _ (.tail _ (.tail _ (.tail _ (.tail _ (.tail _ (.tail _ (.tail _ (.tail _ (.tail _ (.head _)))))))))))
  cases hok : R.okB
  · have hok' : rulOk R.d R.r1 R.r2 R.r3 R.r4 R.k R.z R.o R.y R.mo R.gr = false := hok
    rw [hok'] at CRu
    clear hok hok' HN CO
    go_enter Try.func13, Try.ntmps13
    go_wp2_with fail
    refine (CRu.out _).mono ?_; rintro e X ⟨rfl, bx⟩
    clear hW1 hW2 hW3 CRu l0 l1 l2 l3 l4 l5 l6 l7 l8 l9 l10
    replace LL0 := hide (LL0.out.below bx)
    replace LO0 := hide (LO0.out.below bx)
    replace R1 := hide (R1.out.kept (Kept.of_below (S := fun _ => False) bx) id)
    replace B3 := hide (B3.out.trans (bx.mono B3.out.size))
    replace S3 := hide (Nat.le_trans S3.out bx.size)
    clear bx
    obtain ⟨T0, hT0⟩ : ∃ T0, X.setCell ⟨W2.heap.size, 0, none⟩ (.slice none 0 0) = T0 := ⟨_, rfl⟩
    have RT0 := hide (hT0 ▸ R1.out.set 0 (.slice none 0 0) (by omega) : C6 T0 W2.heap.size _)
    have eT0 : X.cell? ⟨W2.heap.size, 0, none⟩ = some (.slice none 0 0) := R1.out.c 0 (by omega)
    have fT0 := R1.out.f 0
    have kT0 : Kept (· = W2.heap.size) X T0 := hT0 ▸ Kept.setCell X ⟨W2.heap.size, 0, none⟩ _
    have BT0 := hide (hT0 ▸ B3.out.setCell (p := ⟨W2.heap.size, 0, none⟩) (by have := Y.out; show w.heap.size ≤ W2.heap.size; omega) _ : Below w.heap.size w T0)
    obtain ⟨T1, hT1⟩ : ∃ T1, T0.setCell ⟨W2.heap.size, 1, none⟩ (.slice none 0 0) = T1 := ⟨_, rfl⟩
    have RT1 := hide (hT1 ▸ RT0.out.set 1 (.slice none 0 0) (by omega) : C6 T1 W2.heap.size _)
    have eT1 : T0.cell? ⟨W2.heap.size, 1, none⟩ = some (.slice none 0 0) := RT0.out.c 1 (by omega)
    have fT1 := RT0.out.f 1
    have kT1 : Kept (· = W2.heap.size) T0 T1 := hT1 ▸ Kept.setCell T0 ⟨W2.heap.size, 1, none⟩ _
    have BT1 := hide (hT1 ▸ BT0.out.setCell (p := ⟨W2.heap.size, 1, none⟩) (by have := Y.out; show w.heap.size ≤ W2.heap.size; omega) _ : Below w.heap.size w T1)
    obtain ⟨T2, hT2⟩ : ∃ T2, T1.setCell ⟨W2.heap.size, 2, none⟩ (.slice none 0 0) = T2 := ⟨_, rfl⟩
    have RT2 := hide (hT2 ▸ RT1.out.set 2 (.slice none 0 0) (by omega) : C6 T2 W2.heap.size _)
    have eT2 : T1.cell? ⟨W2.heap.size, 2, none⟩ = some (.slice none 0 0) := RT1.out.c 2 (by omega)
    have fT2 := RT1.out.f 2
    have kT2 : Kept (· = W2.heap.size) T1 T2 := hT2 ▸ Kept.setCell T1 ⟨W2.heap.size, 2, none⟩ _
    have BT2 := hide (hT2 ▸ BT1.out.setCell (p := ⟨W2.heap.size, 2, none⟩) (by have := Y.out; show w.heap.size ≤ W2.heap.size; omega) _ : Below w.heap.size w T2)
    obtain ⟨T3, hT3⟩ : ∃ T3, T2.setCell ⟨W2.heap.size, 3, none⟩ (.int .i64 0) = T3 := ⟨_, rfl⟩
    have RT3 := hide (hT3 ▸ RT2.out.set 3 (.int .i64 0) (by omega) : C6 T3 W2.heap.size _)
    have eT3 : T2.cell? ⟨W2.heap.size, 3, none⟩ = some (.int .i64 0) := RT2.out.c 3 (by omega)
    have fT3 := RT2.out.f 3
    have kT3 : Kept (· = W2.heap.size) T2 T3 := hT3 ▸ Kept.setCell T2 ⟨W2.heap.size, 3, none⟩ _
    have BT3 := hide (hT3 ▸ BT2.out.setCell (p := ⟨W2.heap.size, 3, none⟩) (by have := Y.out; show w.heap.size ≤ W2.heap.size; omega) _ : Below w.heap.size w T3)
    obtain ⟨T4, hT4⟩ : ∃ T4, T3.setCell ⟨W2.heap.size, 4, none⟩ (.int .i64 0) = T4 := ⟨_, rfl⟩
    have RT4 := hide (hT4 ▸ RT3.out.set 4 (.int .i64 0) (by omega) : C6 T4 W2.heap.size _)
    have eT4 : T3.cell? ⟨W2.heap.size, 4, none⟩ = some (.int .i64 0) := RT3.out.c 4 (by omega)
    have fT4 := RT3.out.f 4
    have kT4 : Kept (· = W2.heap.size) T3 T4 := hT4 ▸ Kept.setCell T3 ⟨W2.heap.size, 4, none⟩ _
    have BT4 := hide (hT4 ▸ BT3.out.setCell (p := ⟨W2.heap.size, 4, none⟩) (by have := Y.out; show w.heap.size ≤ W2.heap.size; omega) _ : Below w.heap.size w T4)
    obtain ⟨T5, hT5⟩ : ∃ T5, T4.setCell ⟨W2.heap.size, 5, none⟩ (.int .i64 0) = T5 := ⟨_, rfl⟩
    have RT5 := hide (hT5 ▸ RT4.out.set 5 (.int .i64 0) (by omega) : C6 T5 W2.heap.size _)
    have eT5 : T4.cell? ⟨W2.heap.size, 5, none⟩ = some (.int .i64 0) := RT4.out.c 5 (by omega)
    have fT5 := RT4.out.f 5
    have kT5 : Kept (· = W2.heap.size) T4 T5 := hT5 ▸ Kept.setCell T4 ⟨W2.heap.size, 5, none⟩ _
    have BT5 := hide (hT5 ▸ BT4.out.setCell (p := ⟨W2.heap.size, 5, none⟩) (by have := Y.out; show w.heap.size ≤ W2.heap.size; omega) _ : Below w.heap.size w T5)
    have kk := hide (((((kT0.trans kT1).trans kT2).trans kT3).trans kT4).trans kT5)
    have r0 : T5.cell? ⟨W2.heap.size, 0, none⟩ = some (.slice none 0 0) := RT5.out.c 0 (by omega)
    have r1 : T5.cell? ⟨W2.heap.size, 1, none⟩ = some (.slice none 0 0) := RT5.out.c 1 (by omega)
    have r2 : T5.cell? ⟨W2.heap.size, 2, none⟩ = some (.slice none 0 0) := RT5.out.c 2 (by omega)
    have r3 : T5.cell? ⟨W2.heap.size, 3, none⟩ = some (.int .i64 0) := RT5.out.c 3 (by omega)
    have r4 : T5.cell? ⟨W2.heap.size, 4, none⟩ = some (.int .i64 0) := RT5.out.c 4 (by omega)
    have r5 : T5.cell? ⟨W2.heap.size, 5, none⟩ = some (.int .i64 0) := RT5.out.c 5 (by omega)
    clear kT0 kT1 kT2 kT3 kT4 kT5
    go_wp2_with fail
    exact bodyPost_ret (v := .tuple #[ZOpt, .bool false]) (by simp [results, Try.results13, go_sem, r0, r1, r2, r3, r4, r5, ZOpt]) rfl ⟨rfl, BT5.out⟩
  · have hok' : rulOk R.d R.r1 R.r2 R.r3 R.r4 R.k R.z R.o R.y R.mo R.gr = true := hok
    rw [hok'] at CRu
    have hno : ook n n2 n3 s.P s.F s.S s.c s.f s.g = false := by rcases HN.out with h | h; rw [hok] at h; cases h; exact h
    rw [hno] at CO
    clear hok hok' HN hno
    go_enter Try.func13, Try.ntmps13
    go_wp2_with fail
    refine (CRu.out _).mono ?_; rintro e X ⟨rfl, bx⟩
    clear hW1 hW2 hW3 CRu l0 l1 l2 l3 l4 l5 l6 l7 l8 l9 l10
    replace LL0 := hide (LL0.out.below bx)
    replace LO0 := hide (LO0.out.below bx)
    replace R1 := hide (R1.out.kept (Kept.of_below (S := fun _ => False) bx) id)
    replace B3 := hide (B3.out.trans (bx.mono B3.out.size))
    replace S3 := hide (Nat.le_trans S3.out bx.size)
    clear bx
    have o0 : X.cell? ⟨W1.heap.size, 0, none⟩ = some (.slice aP n cP) := LO0.out (⟨W1.heap.size, 0, none⟩, .slice aP n cP) (.head _)
    have o1 : X.cell? ⟨W1.heap.size, 1, none⟩ = some (.slice aF n2 cF) := LO0.out (⟨W1.heap.size, 1, none⟩, .slice aF n2 cF) (.tail _ (.head _))
    have o2 : X.cell? ⟨W1.heap.size, 2, none⟩ = some (.slice aS n3 cS) := LO0.out (⟨W1.heap.size, 2, none⟩, .slice aS n3 cS) (.tail _ (.tail _ (.head _)))
    have o3 : X.cell? ⟨W1.heap.size, 3, none⟩ = some (.int .i64 s.c) := LO0.out (⟨W1.heap.size, 3, none⟩, .int .i64 s.c) (.tail _ (.tail _ (.tail _ (.head _))))
    have o4 : X.cell? ⟨W1.heap.size, 4, none⟩ = some (.int .i64 s.f) := LO0.out (⟨W1.heap.size, 4, none⟩, .int .i64 s.f) (.tail _ (.tail _ (.tail _ (.tail _ (.head _)))))
    have o5 : X.cell? ⟨W1.heap.size, 5, none⟩ = some (.int .i64 s.g) := LO0.out (⟨W1.heap.size, 5, none⟩, .int .i64 s.g) (.tail _ (.tail _ (.tail _ (.tail _ (.tail _ (.head _))))))
    go_wp2_with fail
    refine (CO.out _ B3.out).mono ?_; rintro e X2 ⟨rfl, bx⟩
    clear CO o0 o1 o2 o3 o4 o5
    replace LL0 := hide (LL0.out.below bx)
    replace LO0 := hide (LO0.out.below bx)
    replace R1 := hide (R1.out.kept (Kept.of_below (S := fun _ => False) bx) id)
    replace B3 := hide (B3.out.trans (bx.mono B3.out.size))
    replace S3 := hide (Nat.le_trans S3.out bx.size)
    clear bx
    obtain ⟨T0, hT0⟩ : ∃ T0, X2.setCell ⟨W2.heap.size, 0, none⟩ (.slice none 0 0) = T0 := ⟨_, rfl⟩
    have RT0 := hide (hT0 ▸ R1.out.set 0 (.slice none 0 0) (by omega) : C6 T0 W2.heap.size _)
    have eT0 : X2.cell? ⟨W2.heap.size, 0, none⟩ = some (.slice none 0 0) := R1.out.c 0 (by omega)
    have fT0 := R1.out.f 0
    have kT0 : Kept (· = W2.heap.size) X2 T0 := hT0 ▸ Kept.setCell X2 ⟨W2.heap.size, 0, none⟩ _
    have BT0 := hide (hT0 ▸ B3.out.setCell (p := ⟨W2.heap.size, 0, none⟩) (by have := Y.out; show w.heap.size ≤ W2.heap.size; omega) _ : Below w.heap.size w T0)
    obtain ⟨T1, hT1⟩ : ∃ T1, T0.setCell ⟨W2.heap.size, 1, none⟩ (.slice none 0 0) = T1 := ⟨_, rfl⟩
    have RT1 := hide (hT1 ▸ RT0.out.set 1 (.slice none 0 0) (by omega) : C6 T1 W2.heap.size _)
    have eT1 : T0.cell? ⟨W2.heap.size, 1, none⟩ = some (.slice none 0 0) := RT0.out.c 1 (by omega)
    have fT1 := RT0.out.f 1
    have kT1 : Kept (· = W2.heap.size) T0 T1 := hT1 ▸ Kept.setCell T0 ⟨W2.heap.size, 1, none⟩ _
    have BT1 := hide (hT1 ▸ BT0.out.setCell (p := ⟨W2.heap.size, 1, none⟩) (by have := Y.out; show w.heap.size ≤ W2.heap.size; omega) _ : Below w.heap.size w T1)
    obtain ⟨T2, hT2⟩ : ∃ T2, T1.setCell ⟨W2.heap.size, 2, none⟩ (.slice none 0 0) = T2 := ⟨_, rfl⟩
    have RT2 := hide (hT2 ▸ RT1.out.set 2 (.slice none 0 0) (by omega) : C6 T2 W2.heap.size _)
    have eT2 : T1.cell? ⟨W2.heap.size, 2, none⟩ = some (.slice none 0 0) := RT1.out.c 2 (by omega)
    have fT2 := RT1.out.f 2
    have kT2 : Kept (· = W2.heap.size) T1 T2 := hT2 ▸ Kept.setCell T1 ⟨W2.heap.size, 2, none⟩ _
    have BT2 := hide (hT2 ▸ BT1.out.setCell (p := ⟨W2.heap.size, 2, none⟩) (by have := Y.out; show w.heap.size ≤ W2.heap.size; omega) _ : Below w.heap.size w T2)
    obtain ⟨T3, hT3⟩ : ∃ T3, T2.setCell ⟨W2.heap.size, 3, none⟩ (.int .i64 0) = T3 := ⟨_, rfl⟩
    have RT3 := hide (hT3 ▸ RT2.out.set 3 (.int .i64 0) (by omega) : C6 T3 W2.heap.size _)
    have eT3 : T2.cell? ⟨W2.heap.size, 3, none⟩ = some (.int .i64 0) := RT2.out.c 3 (by omega)
    have fT3 := RT2.out.f 3
    have kT3 : Kept (· = W2.heap.size) T2 T3 := hT3 ▸ Kept.setCell T2 ⟨W2.heap.size, 3, none⟩ _
    have BT3 := hide (hT3 ▸ BT2.out.setCell (p := ⟨W2.heap.size, 3, none⟩) (by have := Y.out; show w.heap.size ≤ W2.heap.size; omega) _ : Below w.heap.size w T3)
    obtain ⟨T4, hT4⟩ : ∃ T4, T3.setCell ⟨W2.heap.size, 4, none⟩ (.int .i64 0) = T4 := ⟨_, rfl⟩
    have RT4 := hide (hT4 ▸ RT3.out.set 4 (.int .i64 0) (by omega) : C6 T4 W2.heap.size _)
    have eT4 : T3.cell? ⟨W2.heap.size, 4, none⟩ = some (.int .i64 0) := RT3.out.c 4 (by omega)
    have fT4 := RT3.out.f 4
    have kT4 : Kept (· = W2.heap.size) T3 T4 := hT4 ▸ Kept.setCell T3 ⟨W2.heap.size, 4, none⟩ _
    have BT4 := hide (hT4 ▸ BT3.out.setCell (p := ⟨W2.heap.size, 4, none⟩) (by have := Y.out; show w.heap.size ≤ W2.heap.size; omega) _ : Below w.heap.size w T4)
    obtain ⟨T5, hT5⟩ : ∃ T5, T4.setCell ⟨W2.heap.size, 5, none⟩ (.int .i64 0) = T5 := ⟨_, rfl⟩
    have RT5 := hide (hT5 ▸ RT4.out.set 5 (.int .i64 0) (by omega) : C6 T5 W2.heap.size _)
    have eT5 : T4.cell? ⟨W2.heap.size, 5, none⟩ = some (.int .i64 0) := RT4.out.c 5 (by omega)
    have fT5 := RT4.out.f 5
    have kT5 : Kept (· = W2.heap.size) T4 T5 := hT5 ▸ Kept.setCell T4 ⟨W2.heap.size, 5, none⟩ _
    have BT5 := hide (hT5 ▸ BT4.out.setCell (p := ⟨W2.heap.size, 5, none⟩) (by have := Y.out; show w.heap.size ≤ W2.heap.size; omega) _ : Below w.heap.size w T5)
    have kk := hide (((((kT0.trans kT1).trans kT2).trans kT3).trans kT4).trans kT5)
    have r0 : T5.cell? ⟨W2.heap.size, 0, none⟩ = some (.slice none 0 0) := RT5.out.c 0 (by omega)
    have r1 : T5.cell? ⟨W2.heap.size, 1, none⟩ = some (.slice none 0 0) := RT5.out.c 1 (by omega)
    have r2 : T5.cell? ⟨W2.heap.size, 2, none⟩ = some (.slice none 0 0) := RT5.out.c 2 (by omega)
    have r3 : T5.cell? ⟨W2.heap.size, 3, none⟩ = some (.int .i64 0) := RT5.out.c 3 (by omega)
    have r4 : T5.cell? ⟨W2.heap.size, 4, none⟩ = some (.int .i64 0) := RT5.out.c 4 (by omega)
    have r5 : T5.cell? ⟨W2.heap.size, 5, none⟩ = some (.int .i64 0) := RT5.out.c 5 (by omega)
    clear kT0 kT1 kT2 kT3 kT4 kT5
    go_wp2_with fail
    exact bodyPost_ret (v := .tuple #[ZOpt, .bool false]) (by simp [results, Try.results13, go_sem, r0, r1, r2, r3, r4, r5, ZOpt]) rfl ⟨rfl, BT5.out⟩
end Vo
end Go.Proofs.Ytflbhlepmjiejaa
