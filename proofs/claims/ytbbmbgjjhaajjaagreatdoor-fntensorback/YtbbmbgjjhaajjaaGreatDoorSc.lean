/- ShowTensor of the program. -/
import Derived.Test.YtbbmbgjjhaajjaaGreatDoorSb
import Derived.Deep.RegionHeld3
namespace Go.Proofs.YtbbmbgjjhaajjaaGreatDoor
namespace Vo
open Go.ChangeShapes Go.WideShapes Go.ChangeAt Go.RowKit Go.Joins Go.Sort
open Vl Vp
set_option linter.unusedVariables false
set_option linter.unusedSimpArgs false
/-- the text of a number -/
noncomputable def numT (x : Int) : List UInt8 :=
  open Classical in if h : ∃ l, ∃ n d b, Rec.Ans x n d b ∧ Base.showL x n d b = l then Classical.choose h else []
theorem numT_is {x n d : Int} {b : Bool} (h : Rec.Ans x n d b) : numT x = Base.showL x n d b := by
  have hx : ∃ l, ∃ n d b, Rec.Ans x n d b ∧ Base.showL x n d b = l := ⟨_, n, d, b, h, rfl⟩
  unfold numT
  rw [dif_pos hx]
  obtain ⟨n', d', b', h', e⟩ := Classical.choose_spec hx
  obtain ⟨rfl, rfl, rfl⟩ := Rec.Ans_one h h'
  exact e.symm
theorem numT_len {x : Int} (h0 : 0 ≤ x) (h1 : x < 2147483647) : (numT x).length ≤ 8589934592 := by
  open Classical in
  by_cases hx : ∃ n d b, Rec.Ans x n d b
  · obtain ⟨n, d, b, h⟩ := hx
    rw [numT_is h]
    have bd := Base.ans_bd h
    have a1 := Base.itoa_len x
    have a2 := Base.itoa_len n
    have a3 := Base.itoa_len d
    unfold Base.showL
    split
    · split
      · omega
      · simp only [List.length_append, List.length_cons]; omega
    · simp only [List.length_cons]; omega
  · unfold numT
    rw [dif_neg (fun e => hx (by obtain ⟨l, n, d, b, h, _⟩ := e; exact ⟨n, d, b, h⟩))]
    simp
/-- the texts with a blank between each two -/
def body (T : Nat → List UInt8) (n : Nat) : List UInt8 := (blanks T n).drop 1
theorem body_one (T : Nat → List UInt8) : body T 1 = T 0 := by simp [body, blanks]
theorem body_more (T : Nat → List UInt8) {n : Nat} (h : 1 ≤ n) : body T (n + 1) = body T n ++ 32 :: T n := by
  obtain ⟨m, rfl⟩ : ∃ m, n = m + 1 := ⟨n - 1, by omega⟩
  unfold body
  show (blanks T (m + 1) ++ 32 :: T (m + 1)).drop 1 = _
  rw [List.drop_append_of_le_length (by simp only [blanks, List.length_append, List.length_cons]; omega)]
theorem body_trim (T : Nat → List UInt8) (n : Nat) : Lib.trimPrefix (blanks T n) [32] = body T n := by
  have key : ∀ m, ∃ l, blanks T (m + 1) = 32 :: l := by
    intro m
    induction m with
    | zero => exact ⟨T 0, by simp [blanks]⟩
    | succ m ih =>
      obtain ⟨l, e⟩ := ih
      exact ⟨l ++ 32 :: T (m + 1), by show blanks T (m + 1) ++ 32 :: T (m + 1) = _; rw [e]; simp⟩
  cases n with
  | zero => simp [Lib.trimPrefix, blanks, body]
  | succ m =>
    obtain ⟨l, e⟩ := key m
    unfold body
    rw [e]
    simp [Lib.trimPrefix, Lib.hasPrefix]
theorem body_len {T : Nat → List UInt8} {n : Nat} (h : ∀ k, k < n → (T k).length ≤ 8589934592) : (body T n).length ≤ 8589934593 * n := by
  have := blanks_len h
  unfold body
  rw [List.length_drop]
  omega
/-- the text of a tensor -/
noncomputable def tenT (r s : Nat) (D S : Nat → Int) : List UInt8 := if tok r s D S = true then 91 :: (body (fun k => Lib.itoa (D k)) r ++ 93 :: blanks (fun k => numT (S k)) s) else []
theorem itoa_small {n : Int} (h0 : 1 ≤ n) (h1 : n ≤ 4096) : (Lib.itoa n).length ≤ 8589934592 := by have := Base.itoa_len n; omega
theorem showNumV (r : Nat) (S : Nat → Int) (h : ∀ k, k < r → 0 ≤ S k ∧ S k < 2147483647) : ShowV 30 r S (fun k => numT (S k)) := by
  refine ⟨enters_of Tryz.func30 (by kernel_rfl) rfl, fun k hk w hp => ?_⟩
  have b := h k hk
  refine (Base.implShowNum (S k) w (by omega) (by omega) hp).mono ?_
  rintro e w' ⟨n, d, q, ha, rfl, hb⟩
  rw [Int.emod_eq_of_lt b.1 b.2] at ha ⊢
  refine ⟨?_, hb⟩
  show _ = Ending.returned (.string ⟨(numT (S k)).toArray⟩)
  rw [numT_is ha]
theorem itoaV (r : Nat) (D : Nat → Int) (h : ∀ k, k < r → bd (D k)) : ShowV 54 r D (fun k => Lib.itoa (D k)) := by
  refine ⟨enters_of Tryz.func54 (by kernel_rfl) rfl, fun k hk w hp => ?_⟩
  have b := h k hk
  exact Base.itoa (D k) w b.1 b.2 hp
set_option maxHeartbeats 1000000 in
theorem decimals (B : Nat) (a : Option Addr) (r cap : Nat) (D : Nat → Int) (w : World) (hB : B ≤ w.heap.size) (h : Ints B w a r D) (hr : (r : Int) ≤ 6) (hD : ∀ k, k < r → 1 ≤ D k ∧ D k ≤ 4096) (hp : Base.Pows w) :
    Calls Tryz.prog 28 #[.slice a r cap] w fun e w' => e = .returned (.string ⟨(body (fun k => Lib.itoa (D k)) r).toArray⟩) ∧ Below w.heap.size w w' := by
  have CW := hide (withBlanks 54 B a r cap D (fun k => Lib.itoa (D k)) w (itoaV r D (fun k hk => h.bd k hk)) hB h (by omega) (fun k hk => itoa_small (hD k hk).1 (hD k hk).2) hp)
  have CT := hide (fun (W : World) => Tryz.strings_TrimPrefix ⟨(blanks (fun k => Lib.itoa (D k)) r).toArray⟩ ⟨#[32]⟩ W)
  have ET := hide (body_trim (fun k => Lib.itoa (D k)) r)
  obtain ⟨L, hL⟩ : ∃ L, blanks (fun k => Lib.itoa (D k)) r = L := ⟨_, rfl⟩
  obtain ⟨M, hM⟩ : ∃ M, body (fun k => Lib.itoa (D k)) r = M := ⟨_, rfl⟩
  rw [hL] at CW CT ET
  rw [hM] at ET ⊢
  have CT2 := hide (fun (W : World) => show Calls Tryz.prog 44 #[.string ⟨L.toArray⟩, .string ⟨#[32]⟩] W fun e w' => e = .returned (.string ⟨M.toArray⟩) ∧ w' = W by
    have q := CT.out W
    rw [show (⟨L.toArray⟩ : ByteArray).data.toList = L from by simp, show (⟨#[32]⟩ : ByteArray).data.toList = [32] from rfl, ET.out] at q
    exact q)
  clear h hD hp hL hM CT ET
  go_enter Tryz.func28, Tryz.ntmps28
  go_wp2_with fail
  refine CW.out.mono ?_
  rintro e w1 ⟨rfl, b1⟩
  go_wp2_with fail
  refine (CT2.out _).mono ?_
  rintro e w2 ⟨rfl, hw⟩
  have hw := hw.symm
  subst hw
  go_wp2_with fail
  go_ret
  exact ⟨rfl, b1⟩
set_option maxRecDepth 100000 in
set_option maxHeartbeats 2000000 in
theorem showTensorF (B : Nat) (a b : Option Addr) (r s cap dap : Nat) (D S : Nat → Int) (w : World) (hB : B ≤ w.heap.size) (h : Ints B w a r D) (h' : Ints B w b s S) (hr : (r : Int) ≤ 1048576) (hs : (s : Int) ≤ 1048576) (hp : Base.Pows w) :
    Calls Tryz.prog 12 #[.agg #[.slice a r cap, .slice b s dap]] w fun e w' => e = .returned (.string ⟨(tenT r s D S).toArray⟩) ∧ Below w.heap.size w w' := by
  obtain ⟨W0, hW0⟩ : ∃ W0, w.alloc (.cells #[.slice a r cap, .slice b s dap] 24) = W0 := ⟨_, rfl⟩
  have bl : Below w.heap.size w W0 := by rw [← hW0]; exact (Below.refl _ _).alloc (Nat.le_refl _) _
  have z0 : W0.heap.size = w.heap.size + 1 := by rw [← hW0]; simp
  have n0 : Bx W0 w.heap.size (.slice a r cap) (.slice b s dap) := by rw [← hW0]; exact ⟨by simp [go_sem], by simp [go_sem]⟩
  have H := hide (h.below (bl.mono hB))
  have H' := hide (h'.below (bl.mono hB))
  have BL := hide bl
  have Z0 := hide z0
  have N0 := hide n0
  have HP := hide (Base.pows_below bl hp)
  obtain ⟨x0, x1⟩ := n0
  clear h h' bl z0 hp
  go_enter Tryz.func12, Tryz.ntmps12
  go_wp2_with fail
  clear hW0
  refine (tensorOk B a b r s cap dap D S _ (by have := Z0.out; omega) H.out H'.out hr hs).mono ?_
  rintro e w1 ⟨rfl, b1⟩
  have zz := Z0.out
  have N1 := hide (N0.out.below b1 (by omega))
  have B1 := hide (BL.out.trans (b1.mono BL.out.size))
  have H1 := hide (H.out.below (b1.mono (by omega)))
  have H1' := hide (H'.out.below (b1.mono (by omega)))
  have HP1 := hide (Base.pows_below b1 HP.out)
  have s1 : w.heap.size < w1.heap.size := by have := b1.size; omega
  clear b1 x0 x1 zz
  obtain ⟨x0, x1⟩ := N1.out
  cases ht : tok r s D S with
  | false =>
    have ez := hide (show tenT r s D S = [] by unfold tenT; rw [ht]; simp)
    clear ht
    go_wp2_with fail
    go_ret
    refine ⟨?_, B1.out⟩
    rw [ez.out]
    rfl
  | true =>
    have td : dok r D = true := by unfold tok at ht; simp only [Bool.and_eq_true] at ht; exact ht.1.1
    have ts : (s : Int) = szR D r := by unfold tok at ht; simp only [Bool.and_eq_true, decide_eq_true_eq] at ht; exact ht.1.2
    have tw : WI s S 2147483647 := by unfold tok wi at ht; simp only [Bool.and_eq_true, decide_eq_true_eq] at ht; exact ht.2
    have r6 : r ≤ 6 := (dok_iff.1 td).1
    have s4 : (s : Int) ≤ 4096 := by rw [ts]; exact (szR_rng D r).2
    have l1 := body_len (T := fun k => Lib.itoa (D k)) (n := r) (fun k hk => itoa_small (dok_len td hk).1 (dok_len td hk).2)
    have l2 := blanks_len (T := fun k => numT (S k)) (n := s) (fun k hk => numT_len (tw k hk).1 (tw k hk).2)
    have ez := hide (show tenT r s D S = 91 :: (body (fun k => Lib.itoa (D k)) r ++ 93 :: blanks (fun k => numT (S k)) s) by unfold tenT; rw [if_pos ht])
    have CD := hide (fun (W : World) (hW : Below w1.heap.size w1 W) => decimals B a r cap D W (by have := B1.out.size; have := hW.size; omega) (H1.out.below (hW.mono (by have := B1.out.size; omega))) (by omega) (fun k hk => dok_len td hk) (Base.pows_below hW HP1.out))
    have CB := hide (fun (W : World) (hW : Below w1.heap.size w1 W) => withBlanks 30 B b s dap S (fun k => numT (S k)) W (showNumV s S tw) (by have := B1.out.size; have := hW.size; omega) (H1'.out.below (hW.mono (by have := B1.out.size; omega))) (by omega) (fun k hk => numT_len (tw k hk).1 (tw k hk).2) (Base.pows_below hW HP1.out))
    obtain ⟨L, hL⟩ : ∃ L, body (fun k => Lib.itoa (D k)) r = L := ⟨_, rfl⟩
    obtain ⟨M, hM⟩ : ∃ M, blanks (fun k => numT (S k)) s = M := ⟨_, rfl⟩
    rw [hL] at l1 ez CD
    rw [hM] at l2 ez CB
    have k1 : ¬ 9223372036854775807 < 1 + L.length := by omega
    have k2 : ¬ 9223372036854775807 < 1 + L.length + 1 := by omega
    have k3 : ¬ 9223372036854775807 < 1 + L.length + 1 + M.length := by omega
    have A0 := hide (show Below w1.heap.size w1 w1.drew from (Below.refl _ _).drew)
    have A1 := hide (fun (W : World) (hW : Below w1.drew.heap.size w1.drew W) => show Below w1.heap.size w1 W from A0.out.trans hW)
    have A2 := hide (fun (W W' : World) (hW : Below w1.heap.size w1 W) (hW' : Below W.heap.size W W') => show Below w1.heap.size w1 W' from hW.trans (hW'.mono hW.size))
    have A3 := hide (fun (W : World) (hW : Below w1.heap.size w1 W) => N1.out.below hW s1)
    clear ht td ts tw l1 l2 hL hM
    go_wp2_with fail
    go_region_held3 (fun w' => w'.cell? ⟨w.heap.size, 0, none⟩ = some (.slice a r cap) ∧ w'.cell? ⟨w.heap.size, 1, none⟩ = some (.slice b s dap))
      ((try dsimp only) <;> (repeat' apply And.intro) <;> (first | with_reducible assumption | assumption))
      (first
      | (go_at_call 28
         refine (CD.out _ A0.out).mono ?_
         rintro e wA ⟨rfl, bA⟩
         have bA' := hide (A1.out wA bA)
         obtain ⟨u0, u1⟩ := A3.out wA bA'.out
         clear bA)
      | (go_at_call 29
         refine (CB.out wA bA'.out).mono ?_
         rintro e wB ⟨rfl, bB⟩
         have bB' := hide (A2.out wA wB bA'.out bB)
         obtain ⟨v0, v1⟩ := A3.out wB bB'.out
         clear bB))
    all_goals (go_wp2_with fail)
    go_ret
    exact ⟨by rw [ez.out]; exact Base.ret_str (by apply ByteArray.ext; simp), B1.out.trans (bB'.out.mono B1.out.size)⟩
end Vo
end Go.Proofs.YtbbmbgjjhaajjaaGreatDoor
