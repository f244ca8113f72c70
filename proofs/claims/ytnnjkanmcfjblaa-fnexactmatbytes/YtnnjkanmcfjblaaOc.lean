/- Products of matrices of bytes: the program (written by tools/genmat3.py). -/
import Derived.Test.YtnnjkanmcfjblaaOb
import Derived.Test.YtnnjkanmcfjblaaFe
import Derived.Test.YtnnjkanmcfjblaaQt
namespace Go.Proofs.Ytnnjkanmcfjblaa
namespace Vo
open Go.ChangeShapes Go.WideShapes Go.ChangeAt Go.RowKit Go.Joins Go.Sort
open Vl
set_option linter.unusedVariables false
set_option linter.unusedSimpArgs false
/-- what one number of the product takes, before it is brought back -/
def mtD (sa za sb zb : Int) (N M : Nat) (X Y Z : Nat → Int) (k : Nat) : Int := dotV sa za sb zb N N (fun t => X (k / M * N + t)) (fun t => Y (k % M * N + t)) + Z (k % M)
/-- what may be multiplied -/
def MOk (ok : Bool) (r s q : Nat) (X Y Z : Nat → Int) (n m : Int) : Prop := ok = true ∧ MFit r s X Y n m ∧ (q : Int) = m ∧ ib (-1073741824) 1073741824 q Z = true
theorem ib_at {l m : Int} {r : Nat} {S : Nat → Int} (h : ib l m r S = true) (j : Nat) (hj : j < r) : l ≤ S j ∧ S j ≤ m := of_decide_eq_true h j hj
set_option maxHeartbeats 4000000 in
theorem iMat_no (xa ya za' : Option Addr) (r s q cap dap eap : Nat) (X Y Z : Nat → Int) (n m sa za sb zb sc zc mu sh : Int) (ok : Bool) (w : World) (hx : Ints w.heap.size w xa r X) (hy : Ints w.heap.size w ya s Y) (hz : Ints w.heap.size w za' q Z) (hn : bd n) (hm : bd m) (hr : (r : Int) ≤ 1048576) (hs : (s : Int) ≤ 1048576) (hq : (q : Int) ≤ 1048576) (hF : ∀ w, Calls Try.prog 7 #[.agg #[.int .i64 sa, .int .i64 za], .agg #[.int .i64 sb, .int .i64 zb], .agg #[.int .i64 sc, .int .i64 zc]] w fun e w' => e = .returned (.tuple #[.int .i64 mu, .int .i64 sh, .bool ok]) ∧ Below w.heap.size w w') (h : ¬ MOk ok r s q X Y Z n m) (V : Nat → Int) :
    Calls Try.prog 10 #[.slice xa r cap, .int .i64 n, .agg #[.int .i64 sa, .int .i64 za], .slice ya s dap, .int .i64 m, .agg #[.int .i64 sb, .int .i64 zb], .slice za' q eap, .agg #[.int .i64 sc, .int .i64 zc]] w (ListR 0 V w) := by
  have HX := hide hx
  have HY := hide hy
  have HZ := hide hz
  have HFc := hide hF
  clear hx hy hz hF
  have CM := hide (fun (U : World) (b : Below w.heap.size w U) => matricesFitF xa ya r s cap dap X Y n m U ((HX.out.below b).mono b.size) ((HY.out.below b).mono b.size) hn hm hr hs)
  have CS := hide (fun (U : World) (b : Below w.heap.size w U) => areSumsF w.heap.size za' q eap Z U b.size (HZ.out.below b) hq)
  clear hn hm hr hs
  have L0 := Lies.nil w
  have B0 : Below w.heap.size w w := Below.refl _ _
  obtain ⟨W1, hW1⟩ : ∃ W1, w.alloc (.cells #[.slice xa r cap] 29) = W1 := ⟨_, rfl⟩
  have nW1 : Below w.heap.size w W1 := hW1 ▸ (Below.refl _ _).alloc (Nat.le_refl _) _
  have L1' := L0.below nW1
  have B1 := B0.trans (nW1.mono B0.size)
  have L1 := L1'.new (x := (⟨w.heap.size, 0, none⟩, (.slice xa r cap))) (show W1.cell? _ = some _ by rw [← hW1]; simp [go_sem])
  obtain ⟨W2, hW2⟩ : ∃ W2, W1.alloc (.cells #[.int .i64 n] 3) = W2 := ⟨_, rfl⟩
  have nW2 : Below W1.heap.size W1 W2 := hW2 ▸ (Below.refl _ _).alloc (Nat.le_refl _) _
  have L2' := L1.below nW2
  have B2 := B1.trans (nW2.mono B1.size)
  have L2 := L2'.new (x := (⟨W1.heap.size, 0, none⟩, (.int .i64 n))) (show W2.cell? _ = some _ by rw [← hW2]; simp [go_sem])
  obtain ⟨W3, hW3⟩ : ∃ W3, W2.alloc (.cells #[.int .i64 sa, .int .i64 za] 26) = W3 := ⟨_, rfl⟩
  have nW3 : Below W2.heap.size W2 W3 := hW3 ▸ (Below.refl _ _).alloc (Nat.le_refl _) _
  have L3' := L2.below nW3
  have B3 := B2.trans (nW3.mono B2.size)
  have L3'0 := L3'.new (x := (⟨W2.heap.size, 0, none⟩, (.int .i64 sa))) (show W3.cell? _ = some _ by rw [← hW3]; simp [go_sem])
  have L3 := L3'0.new (x := (⟨W2.heap.size, 1, none⟩, (.int .i64 za))) (show W3.cell? _ = some _ by rw [← hW3]; simp [go_sem])
  obtain ⟨W4, hW4⟩ : ∃ W4, W3.alloc (.cells #[.slice ya s dap] 29) = W4 := ⟨_, rfl⟩
  have nW4 : Below W3.heap.size W3 W4 := hW4 ▸ (Below.refl _ _).alloc (Nat.le_refl _) _
  have L4' := L3.below nW4
  have B4 := B3.trans (nW4.mono B3.size)
  have L4 := L4'.new (x := (⟨W3.heap.size, 0, none⟩, (.slice ya s dap))) (show W4.cell? _ = some _ by rw [← hW4]; simp [go_sem])
  obtain ⟨W5, hW5⟩ : ∃ W5, W4.alloc (.cells #[.int .i64 m] 3) = W5 := ⟨_, rfl⟩
  have nW5 : Below W4.heap.size W4 W5 := hW5 ▸ (Below.refl _ _).alloc (Nat.le_refl _) _
  have L5' := L4.below nW5
  have B5 := B4.trans (nW5.mono B4.size)
  have L5 := L5'.new (x := (⟨W4.heap.size, 0, none⟩, (.int .i64 m))) (show W5.cell? _ = some _ by rw [← hW5]; simp [go_sem])
  obtain ⟨W6, hW6⟩ : ∃ W6, W5.alloc (.cells #[.int .i64 sb, .int .i64 zb] 26) = W6 := ⟨_, rfl⟩
  have nW6 : Below W5.heap.size W5 W6 := hW6 ▸ (Below.refl _ _).alloc (Nat.le_refl _) _
  have L6' := L5.below nW6
  have B6 := B5.trans (nW6.mono B5.size)
  have L6'0 := L6'.new (x := (⟨W5.heap.size, 0, none⟩, (.int .i64 sb))) (show W6.cell? _ = some _ by rw [← hW6]; simp [go_sem])
  have L6 := L6'0.new (x := (⟨W5.heap.size, 1, none⟩, (.int .i64 zb))) (show W6.cell? _ = some _ by rw [← hW6]; simp [go_sem])
  obtain ⟨W7, hW7⟩ : ∃ W7, W6.alloc (.cells #[.slice za' q eap] 29) = W7 := ⟨_, rfl⟩
  have nW7 : Below W6.heap.size W6 W7 := hW7 ▸ (Below.refl _ _).alloc (Nat.le_refl _) _
  have L7' := L6.below nW7
  have B7 := B6.trans (nW7.mono B6.size)
  have L7 := L7'.new (x := (⟨W6.heap.size, 0, none⟩, (.slice za' q eap))) (show W7.cell? _ = some _ by rw [← hW7]; simp [go_sem])
  obtain ⟨W8, hW8⟩ : ∃ W8, W7.alloc (.cells #[.int .i64 sc, .int .i64 zc] 26) = W8 := ⟨_, rfl⟩
  have nW8 : Below W7.heap.size W7 W8 := hW8 ▸ (Below.refl _ _).alloc (Nat.le_refl _) _
  have L8' := L7.below nW8
  have B8 := B7.trans (nW8.mono B7.size)
  have L8'0 := L8'.new (x := (⟨W7.heap.size, 0, none⟩, (.int .i64 sc))) (show W8.cell? _ = some _ by rw [← hW8]; simp [go_sem])
  have L8 := L8'0.new (x := (⟨W7.heap.size, 1, none⟩, (.int .i64 zc))) (show W8.cell? _ = some _ by rw [← hW8]; simp [go_sem])
  have LL := hide L8
  have BL := hide B8
  clear nW1 L1' B1 nW2 L2' B2 nW3 L3' B3 nW4 L4' B4 nW5 L5' B5 nW6 L6' B6 nW7 L7' B7 nW8 L8' B8 L1 L2 L3 L4 L5 L6 L7 L8 L3'0 L6'0 L8'0 L0 B0
  have c0 : W8.cell? ⟨W7.heap.size, 1, none⟩ = some (.int .i64 zc) := LL.out (⟨W7.heap.size, 1, none⟩, (.int .i64 zc)) (.head _)
  have c1 : W8.cell? ⟨W7.heap.size, 0, none⟩ = some (.int .i64 sc) := LL.out (⟨W7.heap.size, 0, none⟩, (.int .i64 sc)) (.tail _ (.head _))
  have c2 : W8.cell? ⟨W6.heap.size, 0, none⟩ = some (.slice za' q eap) := LL.out (⟨W6.heap.size, 0, none⟩, (.slice za' q eap)) (.tail _ (.tail _ (.head _)))
  have c3 : W8.cell? ⟨W5.heap.size, 1, none⟩ = some (.int .i64 zb) := LL.out (⟨W5.heap.size, 1, none⟩, (.int .i64 zb)) (.tail _ (.tail _ (.tail _ (.head _))))
  have c4 : W8.cell? ⟨W5.heap.size, 0, none⟩ = some (.int .i64 sb) := LL.out (⟨W5.heap.size, 0, none⟩, (.int .i64 sb)) (.tail _ (.tail _ (.tail _ (.tail _ (.head _)))))
  have c5 : W8.cell? ⟨W4.heap.size, 0, none⟩ = some (.int .i64 m) := LL.out (⟨W4.heap.size, 0, none⟩, (.int .i64 m)) (.tail _ (.tail _ (.tail _ (.tail _ (.tail _ (.head _))))))
  have c6 : W8.cell? ⟨W3.heap.size, 0, none⟩ = some (.slice ya s dap) := LL.out (⟨W3.heap.size, 0, none⟩, (.slice ya s dap)) (.tail _ (.tail _ (.tail _ (.tail _ (.tail _ (.tail _ (.head _)))))))
  have c7 : W8.cell? ⟨W2.heap.size, 1, none⟩ = some (.int .i64 za) := LL.out (⟨W2.heap.size, 1, none⟩, (.int .i64 za)) (.tail _ (.tail _ (.tail _ (.tail _ (.tail _ (.tail _ (.tail _ (.head _))))))))
  have c8 : W8.cell? ⟨W2.heap.size, 0, none⟩ = some (.int .i64 sa) := LL.out (⟨W2.heap.size, 0, none⟩, (.int .i64 sa)) (.tail _ (.tail _ (.tail _ (.tail _ (.tail _ (.tail _ (.tail _ (.tail _ (.head _)))))))))
  have c9 : W8.cell? ⟨W1.heap.size, 0, none⟩ = some (.int .i64 n) := LL.out (⟨W1.heap.size, 0, none⟩, (.int .i64 n)) (.tail _ (.tail _ (.tail _ (.tail _ (.tail _ (.tail _ (.tail _ (.tail _ (.tail _ (.head _))))))))))
  have c10 : W8.cell? ⟨w.heap.size, 0, none⟩ = some (.slice xa r cap) := LL.out (⟨w.heap.size, 0, none⟩, (.slice xa r cap)) (.tail _ (.tail _ (.tail _ (.tail _ (.tail _ (.tail _ (.tail _ (.tail _ (.tail _ (.tail _ (.head _)))))))))))
  cases ok
  · clear h CM CS
    go_enter Try.func10, Try.ntmps10
    go_wp2_with fail
    refine (HFc.out _).mono ?_; rintro e1 w1 ⟨rfl, q1⟩
    have LL1 := LL.out.below q1
    have BB1 := BL.out.trans (q1.mono BL.out.size)
    clear c0 c1 c2 c3 c4 c5 c6 c7 c8 c9 c10 q1
    obtain ⟨U1, hU1⟩ : ∃ U1, w1.alloc (.cells #[.int .i64 0] 3) = U1 := ⟨_, rfl⟩
    have n1 : Below w1.heap.size w1 U1 := hU1 ▸ (Below.refl _ _).alloc (Nat.le_refl _) _
    obtain ⟨U2, hU2⟩ : ∃ U2, U1.alloc (.cells #[.int .i64 0] 3) = U2 := ⟨_, rfl⟩
    have n2 : Below U1.heap.size U1 U2 := hU2 ▸ (Below.refl _ _).alloc (Nat.le_refl _) _
    have d1 : U2.cell? ⟨w1.heap.size, 0, none⟩ = some (.int .i64 0) := by rw [← hU2, ← hU1]; simp [go_sem]
    have d1f : U2.frozen? ⟨w1.heap.size, 0, none⟩ = false := by rw [← hU2, ← hU1]; simp [go_sem]
    obtain ⟨U3, hU3⟩ : ∃ U3, U2.setCell ⟨w1.heap.size, 0, none⟩ (.int .i64 mu) = U3 := ⟨_, rfl⟩
    have zz : w1.heap.size < U1.heap.size := by rw [← hU1]; simp
    have d2 : U3.cell? ⟨U1.heap.size, 0, none⟩ = some (.int .i64 0) := by rw [← hU3, World.cell?_setCell_other _ _ _ _ (by intro e; injection e with e; omega), ← hU2]; simp [go_sem]
    have d2f : U3.frozen? ⟨U1.heap.size, 0, none⟩ = false := by rw [← hU3, World.frozen?_setCell, ← hU2]; simp [go_sem]
    obtain ⟨U4, hU4⟩ : ∃ U4, U3.setCell ⟨U1.heap.size, 0, none⟩ (.int .i64 sh) = U4 := ⟨_, rfl⟩
    have nn : Below w1.heap.size w1 U4 := by rw [← hU4, ← hU3]; exact ((n1.trans (n2.mono n1.size)).setCell (Nat.le_refl _) _).setCell (by show w1.heap.size ≤ U1.heap.size; omega) _
    have e1 : U4.cell? ⟨w1.heap.size, 0, none⟩ = some (.int .i64 mu) := by rw [← hU4, World.cell?_setCell_other _ _ _ _ (by intro e; injection e with e; omega), ← hU3]; exact World.cell?_setCell_same _ _ _ d1
    have e2 : U4.cell? ⟨U1.heap.size, 0, none⟩ = some (.int .i64 sh) := by rw [← hU4]; exact World.cell?_setCell_same _ _ _ d2
    replace LL := hide (((LL1.below nn).new (x := (⟨w1.heap.size, 0, none⟩, .int .i64 mu)) e1).new (x := (⟨U1.heap.size, 0, none⟩, .int .i64 sh)) e2)
    replace BL := hide (BB1.trans (nn.mono BB1.size))
    clear LL1 BB1 nn n1 n2 zz
    clear e1 e2
    have c0 : U4.cell? ⟨U1.heap.size, 0, none⟩ = some (.int .i64 sh) := LL.out (⟨U1.heap.size, 0, none⟩, (.int .i64 sh)) (.head _)
    have c1 : U4.cell? ⟨w1.heap.size, 0, none⟩ = some (.int .i64 mu) := LL.out (⟨w1.heap.size, 0, none⟩, (.int .i64 mu)) (.tail _ (.head _))
    have c2 : U4.cell? ⟨W7.heap.size, 1, none⟩ = some (.int .i64 zc) := LL.out (⟨W7.heap.size, 1, none⟩, (.int .i64 zc)) (.tail _ (.tail _ (.head _)))
    have c3 : U4.cell? ⟨W7.heap.size, 0, none⟩ = some (.int .i64 sc) := LL.out (⟨W7.heap.size, 0, none⟩, (.int .i64 sc)) (.tail _ (.tail _ (.tail _ (.head _))))
    have c4 : U4.cell? ⟨W6.heap.size, 0, none⟩ = some (.slice za' q eap) := LL.out (⟨W6.heap.size, 0, none⟩, (.slice za' q eap)) (.tail _ (.tail _ (.tail _ (.tail _ (.head _)))))
    have c5 : U4.cell? ⟨W5.heap.size, 1, none⟩ = some (.int .i64 zb) := LL.out (⟨W5.heap.size, 1, none⟩, (.int .i64 zb)) (.tail _ (.tail _ (.tail _ (.tail _ (.tail _ (.head _))))))
    have c6 : U4.cell? ⟨W5.heap.size, 0, none⟩ = some (.int .i64 sb) := LL.out (⟨W5.heap.size, 0, none⟩, (.int .i64 sb)) (.tail _ (.tail _ (.tail _ (.tail _ (.tail _ (.tail _ (.head _)))))))
    have c7 : U4.cell? ⟨W4.heap.size, 0, none⟩ = some (.int .i64 m) := LL.out (⟨W4.heap.size, 0, none⟩, (.int .i64 m)) (.tail _ (.tail _ (.tail _ (.tail _ (.tail _ (.tail _ (.tail _ (.head _))))))))
    have c8 : U4.cell? ⟨W3.heap.size, 0, none⟩ = some (.slice ya s dap) := LL.out (⟨W3.heap.size, 0, none⟩, (.slice ya s dap)) (.tail _ (.tail _ (.tail _ (.tail _ (.tail _ (.tail _ (.tail _ (.tail _ (.head _)))))))))
    have c9 : U4.cell? ⟨W2.heap.size, 1, none⟩ = some (.int .i64 za) := LL.out (⟨W2.heap.size, 1, none⟩, (.int .i64 za)) (.tail _ (.tail _ (.tail _ (.tail _ (.tail _ (.tail _ (.tail _ (.tail _ (.tail _ (.head _))))))))))
    have c10 : U4.cell? ⟨W2.heap.size, 0, none⟩ = some (.int .i64 sa) := LL.out (⟨W2.heap.size, 0, none⟩, (.int .i64 sa)) (.tail _ (.tail _ (.tail _ (.tail _ (.tail _ (.tail _ (.tail _ (.tail _ (.tail _ (.tail _ (.head _)))))))))))
    have c11 : U4.cell? ⟨W1.heap.size, 0, none⟩ = some (.int .i64 n) := LL.out (⟨W1.heap.size, 0, none⟩, (.int .i64 n)) (.tail _ (.tail _ (.tail _ (.tail _ (.tail _ (.tail _ (.tail _ (.tail _ (.tail _ (.tail _ (.tail _ (.head _))))))))))))
    have c12 : U4.cell? ⟨w.heap.size, 0, none⟩ = some (.slice xa r cap) := LL.out (⟨w.heap.size, 0, none⟩, (.slice xa r cap)) (.tail _ (.tail _ (.tail _ (.tail _ (.tail _ (.tail _ (.tail _ (.tail _ (.tail _ (.tail _ (.tail _ (.tail _ (.head _)))))))))))))
    have D1 := hide d1
    clear D1
    go_wp2_with fail
    go_ret
    exact ⟨_, _, rfl, .inl rfl, (BL.out).alloc (BL.out).size _⟩
  have h := hide h
  cases gm : mfit r s X Y n m
  · replace CM := hide (fun (U : World) (b : Below w.heap.size w U) => by have := CM.out U b; rw [gm] at this; exact this)
    clear gm h CS
    go_enter Try.func10, Try.ntmps10
    go_wp2_with fail
    refine (HFc.out _).mono ?_; rintro e1 w1 ⟨rfl, q1⟩
    have LL1 := LL.out.below q1
    have BB1 := BL.out.trans (q1.mono BL.out.size)
    clear c0 c1 c2 c3 c4 c5 c6 c7 c8 c9 c10 q1
    obtain ⟨U1, hU1⟩ : ∃ U1, w1.alloc (.cells #[.int .i64 0] 3) = U1 := ⟨_, rfl⟩
    have n1 : Below w1.heap.size w1 U1 := hU1 ▸ (Below.refl _ _).alloc (Nat.le_refl _) _
    obtain ⟨U2, hU2⟩ : ∃ U2, U1.alloc (.cells #[.int .i64 0] 3) = U2 := ⟨_, rfl⟩
    have n2 : Below U1.heap.size U1 U2 := hU2 ▸ (Below.refl _ _).alloc (Nat.le_refl _) _
    have d1 : U2.cell? ⟨w1.heap.size, 0, none⟩ = some (.int .i64 0) := by rw [← hU2, ← hU1]; simp [go_sem]
    have d1f : U2.frozen? ⟨w1.heap.size, 0, none⟩ = false := by rw [← hU2, ← hU1]; simp [go_sem]
    obtain ⟨U3, hU3⟩ : ∃ U3, U2.setCell ⟨w1.heap.size, 0, none⟩ (.int .i64 mu) = U3 := ⟨_, rfl⟩
    have zz : w1.heap.size < U1.heap.size := by rw [← hU1]; simp
    have d2 : U3.cell? ⟨U1.heap.size, 0, none⟩ = some (.int .i64 0) := by rw [← hU3, World.cell?_setCell_other _ _ _ _ (by intro e; injection e with e; omega), ← hU2]; simp [go_sem]
    have d2f : U3.frozen? ⟨U1.heap.size, 0, none⟩ = false := by rw [← hU3, World.frozen?_setCell, ← hU2]; simp [go_sem]
    obtain ⟨U4, hU4⟩ : ∃ U4, U3.setCell ⟨U1.heap.size, 0, none⟩ (.int .i64 sh) = U4 := ⟨_, rfl⟩
    have nn : Below w1.heap.size w1 U4 := by rw [← hU4, ← hU3]; exact ((n1.trans (n2.mono n1.size)).setCell (Nat.le_refl _) _).setCell (by show w1.heap.size ≤ U1.heap.size; omega) _
    have e1 : U4.cell? ⟨w1.heap.size, 0, none⟩ = some (.int .i64 mu) := by rw [← hU4, World.cell?_setCell_other _ _ _ _ (by intro e; injection e with e; omega), ← hU3]; exact World.cell?_setCell_same _ _ _ d1
    have e2 : U4.cell? ⟨U1.heap.size, 0, none⟩ = some (.int .i64 sh) := by rw [← hU4]; exact World.cell?_setCell_same _ _ _ d2
    replace LL := hide (((LL1.below nn).new (x := (⟨w1.heap.size, 0, none⟩, .int .i64 mu)) e1).new (x := (⟨U1.heap.size, 0, none⟩, .int .i64 sh)) e2)
    replace BL := hide (BB1.trans (nn.mono BB1.size))
    clear LL1 BB1 nn n1 n2 zz
    clear e1 e2
    have c0 : U4.cell? ⟨U1.heap.size, 0, none⟩ = some (.int .i64 sh) := LL.out (⟨U1.heap.size, 0, none⟩, (.int .i64 sh)) (.head _)
    have c1 : U4.cell? ⟨w1.heap.size, 0, none⟩ = some (.int .i64 mu) := LL.out (⟨w1.heap.size, 0, none⟩, (.int .i64 mu)) (.tail _ (.head _))
    have c2 : U4.cell? ⟨W7.heap.size, 1, none⟩ = some (.int .i64 zc) := LL.out (⟨W7.heap.size, 1, none⟩, (.int .i64 zc)) (.tail _ (.tail _ (.head _)))
    have c3 : U4.cell? ⟨W7.heap.size, 0, none⟩ = some (.int .i64 sc) := LL.out (⟨W7.heap.size, 0, none⟩, (.int .i64 sc)) (.tail _ (.tail _ (.tail _ (.head _))))
    have c4 : U4.cell? ⟨W6.heap.size, 0, none⟩ = some (.slice za' q eap) := LL.out (⟨W6.heap.size, 0, none⟩, (.slice za' q eap)) (.tail _ (.tail _ (.tail _ (.tail _ (.head _)))))
    have c5 : U4.cell? ⟨W5.heap.size, 1, none⟩ = some (.int .i64 zb) := LL.out (⟨W5.heap.size, 1, none⟩, (.int .i64 zb)) (.tail _ (.tail _ (.tail _ (.tail _ (.tail _ (.head _))))))
    have c6 : U4.cell? ⟨W5.heap.size, 0, none⟩ = some (.int .i64 sb) := LL.out (⟨W5.heap.size, 0, none⟩, (.int .i64 sb)) (.tail _ (.tail _ (.tail _ (.tail _ (.tail _ (.tail _ (.head _)))))))
    have c7 : U4.cell? ⟨W4.heap.size, 0, none⟩ = some (.int .i64 m) := LL.out (⟨W4.heap.size, 0, none⟩, (.int .i64 m)) (.tail _ (.tail _ (.tail _ (.tail _ (.tail _ (.tail _ (.tail _ (.head _))))))))
    have c8 : U4.cell? ⟨W3.heap.size, 0, none⟩ = some (.slice ya s dap) := LL.out (⟨W3.heap.size, 0, none⟩, (.slice ya s dap)) (.tail _ (.tail _ (.tail _ (.tail _ (.tail _ (.tail _ (.tail _ (.tail _ (.head _)))))))))
    have c9 : U4.cell? ⟨W2.heap.size, 1, none⟩ = some (.int .i64 za) := LL.out (⟨W2.heap.size, 1, none⟩, (.int .i64 za)) (.tail _ (.tail _ (.tail _ (.tail _ (.tail _ (.tail _ (.tail _ (.tail _ (.tail _ (.head _))))))))))
    have c10 : U4.cell? ⟨W2.heap.size, 0, none⟩ = some (.int .i64 sa) := LL.out (⟨W2.heap.size, 0, none⟩, (.int .i64 sa)) (.tail _ (.tail _ (.tail _ (.tail _ (.tail _ (.tail _ (.tail _ (.tail _ (.tail _ (.tail _ (.head _)))))))))))
    have c11 : U4.cell? ⟨W1.heap.size, 0, none⟩ = some (.int .i64 n) := LL.out (⟨W1.heap.size, 0, none⟩, (.int .i64 n)) (.tail _ (.tail _ (.tail _ (.tail _ (.tail _ (.tail _ (.tail _ (.tail _ (.tail _ (.tail _ (.tail _ (.head _))))))))))))
    have c12 : U4.cell? ⟨w.heap.size, 0, none⟩ = some (.slice xa r cap) := LL.out (⟨w.heap.size, 0, none⟩, (.slice xa r cap)) (.tail _ (.tail _ (.tail _ (.tail _ (.tail _ (.tail _ (.tail _ (.tail _ (.tail _ (.tail _ (.tail _ (.tail _ (.head _)))))))))))))
    have D1 := hide d1
    clear D1
    go_wp2_with fail
    refine (CM.out _ BL.out).mono ?_; rintro e1 w2 ⟨rfl, q2⟩
    replace BL := hide (BL.out.trans (q2.mono BL.out.size))
    go_wp2_with fail
    go_ret
    exact ⟨_, _, rfl, .inl rfl, (BL.out).alloc (BL.out).size _⟩
  replace CM := hide (fun (U : World) (b : Below w.heap.size w U) => by have := CM.out U b; rw [gm] at this; exact this)
  by_cases gq : (q : Int) = m
  case neg =>
    have gq' : ((q : Int) != m) = true := by simp [gq]
    clear gm h CS
    go_enter Try.func10, Try.ntmps10
    go_wp2_with fail
    refine (HFc.out _).mono ?_; rintro e1 w1 ⟨rfl, q1⟩
    have LL1 := LL.out.below q1
    have BB1 := BL.out.trans (q1.mono BL.out.size)
    clear c0 c1 c2 c3 c4 c5 c6 c7 c8 c9 c10 q1
    obtain ⟨U1, hU1⟩ : ∃ U1, w1.alloc (.cells #[.int .i64 0] 3) = U1 := ⟨_, rfl⟩
    have n1 : Below w1.heap.size w1 U1 := hU1 ▸ (Below.refl _ _).alloc (Nat.le_refl _) _
    obtain ⟨U2, hU2⟩ : ∃ U2, U1.alloc (.cells #[.int .i64 0] 3) = U2 := ⟨_, rfl⟩
    have n2 : Below U1.heap.size U1 U2 := hU2 ▸ (Below.refl _ _).alloc (Nat.le_refl _) _
    have d1 : U2.cell? ⟨w1.heap.size, 0, none⟩ = some (.int .i64 0) := by rw [← hU2, ← hU1]; simp [go_sem]
    have d1f : U2.frozen? ⟨w1.heap.size, 0, none⟩ = false := by rw [← hU2, ← hU1]; simp [go_sem]
    obtain ⟨U3, hU3⟩ : ∃ U3, U2.setCell ⟨w1.heap.size, 0, none⟩ (.int .i64 mu) = U3 := ⟨_, rfl⟩
    have zz : w1.heap.size < U1.heap.size := by rw [← hU1]; simp
    have d2 : U3.cell? ⟨U1.heap.size, 0, none⟩ = some (.int .i64 0) := by rw [← hU3, World.cell?_setCell_other _ _ _ _ (by intro e; injection e with e; omega), ← hU2]; simp [go_sem]
    have d2f : U3.frozen? ⟨U1.heap.size, 0, none⟩ = false := by rw [← hU3, World.frozen?_setCell, ← hU2]; simp [go_sem]
    obtain ⟨U4, hU4⟩ : ∃ U4, U3.setCell ⟨U1.heap.size, 0, none⟩ (.int .i64 sh) = U4 := ⟨_, rfl⟩
    have nn : Below w1.heap.size w1 U4 := by rw [← hU4, ← hU3]; exact ((n1.trans (n2.mono n1.size)).setCell (Nat.le_refl _) _).setCell (by show w1.heap.size ≤ U1.heap.size; omega) _
    have e1 : U4.cell? ⟨w1.heap.size, 0, none⟩ = some (.int .i64 mu) := by rw [← hU4, World.cell?_setCell_other _ _ _ _ (by intro e; injection e with e; omega), ← hU3]; exact World.cell?_setCell_same _ _ _ d1
    have e2 : U4.cell? ⟨U1.heap.size, 0, none⟩ = some (.int .i64 sh) := by rw [← hU4]; exact World.cell?_setCell_same _ _ _ d2
    replace LL := hide (((LL1.below nn).new (x := (⟨w1.heap.size, 0, none⟩, .int .i64 mu)) e1).new (x := (⟨U1.heap.size, 0, none⟩, .int .i64 sh)) e2)
    replace BL := hide (BB1.trans (nn.mono BB1.size))
    clear LL1 BB1 nn n1 n2 zz
    clear e1 e2
    have c0 : U4.cell? ⟨U1.heap.size, 0, none⟩ = some (.int .i64 sh) := LL.out (⟨U1.heap.size, 0, none⟩, (.int .i64 sh)) (.head _)
    have c1 : U4.cell? ⟨w1.heap.size, 0, none⟩ = some (.int .i64 mu) := LL.out (⟨w1.heap.size, 0, none⟩, (.int .i64 mu)) (.tail _ (.head _))
    have c2 : U4.cell? ⟨W7.heap.size, 1, none⟩ = some (.int .i64 zc) := LL.out (⟨W7.heap.size, 1, none⟩, (.int .i64 zc)) (.tail _ (.tail _ (.head _)))
    have c3 : U4.cell? ⟨W7.heap.size, 0, none⟩ = some (.int .i64 sc) := LL.out (⟨W7.heap.size, 0, none⟩, (.int .i64 sc)) (.tail _ (.tail _ (.tail _ (.head _))))
    have c4 : U4.cell? ⟨W6.heap.size, 0, none⟩ = some (.slice za' q eap) := LL.out (⟨W6.heap.size, 0, none⟩, (.slice za' q eap)) (.tail _ (.tail _ (.tail _ (.tail _ (.head _)))))
    have c5 : U4.cell? ⟨W5.heap.size, 1, none⟩ = some (.int .i64 zb) := LL.out (⟨W5.heap.size, 1, none⟩, (.int .i64 zb)) (.tail _ (.tail _ (.tail _ (.tail _ (.tail _ (.head _))))))
    have c6 : U4.cell? ⟨W5.heap.size, 0, none⟩ = some (.int .i64 sb) := LL.out (⟨W5.heap.size, 0, none⟩, (.int .i64 sb)) (.tail _ (.tail _ (.tail _ (.tail _ (.tail _ (.tail _ (.head _)))))))
    have c7 : U4.cell? ⟨W4.heap.size, 0, none⟩ = some (.int .i64 m) := LL.out (⟨W4.heap.size, 0, none⟩, (.int .i64 m)) (.tail _ (.tail _ (.tail _ (.tail _ (.tail _ (.tail _ (.tail _ (.head _))))))))
    have c8 : U4.cell? ⟨W3.heap.size, 0, none⟩ = some (.slice ya s dap) := LL.out (⟨W3.heap.size, 0, none⟩, (.slice ya s dap)) (.tail _ (.tail _ (.tail _ (.tail _ (.tail _ (.tail _ (.tail _ (.tail _ (.head _)))))))))
    have c9 : U4.cell? ⟨W2.heap.size, 1, none⟩ = some (.int .i64 za) := LL.out (⟨W2.heap.size, 1, none⟩, (.int .i64 za)) (.tail _ (.tail _ (.tail _ (.tail _ (.tail _ (.tail _ (.tail _ (.tail _ (.tail _ (.head _))))))))))
    have c10 : U4.cell? ⟨W2.heap.size, 0, none⟩ = some (.int .i64 sa) := LL.out (⟨W2.heap.size, 0, none⟩, (.int .i64 sa)) (.tail _ (.tail _ (.tail _ (.tail _ (.tail _ (.tail _ (.tail _ (.tail _ (.tail _ (.tail _ (.head _)))))))))))
    have c11 : U4.cell? ⟨W1.heap.size, 0, none⟩ = some (.int .i64 n) := LL.out (⟨W1.heap.size, 0, none⟩, (.int .i64 n)) (.tail _ (.tail _ (.tail _ (.tail _ (.tail _ (.tail _ (.tail _ (.tail _ (.tail _ (.tail _ (.tail _ (.head _))))))))))))
    have c12 : U4.cell? ⟨w.heap.size, 0, none⟩ = some (.slice xa r cap) := LL.out (⟨w.heap.size, 0, none⟩, (.slice xa r cap)) (.tail _ (.tail _ (.tail _ (.tail _ (.tail _ (.tail _ (.tail _ (.tail _ (.tail _ (.tail _ (.tail _ (.tail _ (.head _)))))))))))))
    have D1 := hide d1
    clear D1
    go_wp2_with fail
    refine (CM.out _ BL.out).mono ?_; rintro e1 w2 ⟨rfl, q2⟩
    have LL2 := LL.out.below q2
    clear c0 c1 c2 c3 c4 c5 c6 c7 c8 c9 c10 c11 c12
    have c0 : w2.cell? ⟨U1.heap.size, 0, none⟩ = some (.int .i64 sh) := LL2 (⟨U1.heap.size, 0, none⟩, (.int .i64 sh)) (.head _)
    have c1 : w2.cell? ⟨w1.heap.size, 0, none⟩ = some (.int .i64 mu) := LL2 (⟨w1.heap.size, 0, none⟩, (.int .i64 mu)) (.tail _ (.head _))
    have c2 : w2.cell? ⟨W7.heap.size, 1, none⟩ = some (.int .i64 zc) := LL2 (⟨W7.heap.size, 1, none⟩, (.int .i64 zc)) (.tail _ (.tail _ (.head _)))
    have c3 : w2.cell? ⟨W7.heap.size, 0, none⟩ = some (.int .i64 sc) := LL2 (⟨W7.heap.size, 0, none⟩, (.int .i64 sc)) (.tail _ (.tail _ (.tail _ (.head _))))
    have c4 : w2.cell? ⟨W6.heap.size, 0, none⟩ = some (.slice za' q eap) := LL2 (⟨W6.heap.size, 0, none⟩, (.slice za' q eap)) (.tail _ (.tail _ (.tail _ (.tail _ (.head _)))))
    have c5 : w2.cell? ⟨W5.heap.size, 1, none⟩ = some (.int .i64 zb) := LL2 (⟨W5.heap.size, 1, none⟩, (.int .i64 zb)) (.tail _ (.tail _ (.tail _ (.tail _ (.tail _ (.head _))))))
    have c6 : w2.cell? ⟨W5.heap.size, 0, none⟩ = some (.int .i64 sb) := LL2 (⟨W5.heap.size, 0, none⟩, (.int .i64 sb)) (.tail _ (.tail _ (.tail _ (.tail _ (.tail _ (.tail _ (.head _)))))))
    have c7 : w2.cell? ⟨W4.heap.size, 0, none⟩ = some (.int .i64 m) := LL2 (⟨W4.heap.size, 0, none⟩, (.int .i64 m)) (.tail _ (.tail _ (.tail _ (.tail _ (.tail _ (.tail _ (.tail _ (.head _))))))))
    have c8 : w2.cell? ⟨W3.heap.size, 0, none⟩ = some (.slice ya s dap) := LL2 (⟨W3.heap.size, 0, none⟩, (.slice ya s dap)) (.tail _ (.tail _ (.tail _ (.tail _ (.tail _ (.tail _ (.tail _ (.tail _ (.head _)))))))))
    have c9 : w2.cell? ⟨W2.heap.size, 1, none⟩ = some (.int .i64 za) := LL2 (⟨W2.heap.size, 1, none⟩, (.int .i64 za)) (.tail _ (.tail _ (.tail _ (.tail _ (.tail _ (.tail _ (.tail _ (.tail _ (.tail _ (.head _))))))))))
    have c10 : w2.cell? ⟨W2.heap.size, 0, none⟩ = some (.int .i64 sa) := LL2 (⟨W2.heap.size, 0, none⟩, (.int .i64 sa)) (.tail _ (.tail _ (.tail _ (.tail _ (.tail _ (.tail _ (.tail _ (.tail _ (.tail _ (.tail _ (.head _)))))))))))
    have c11 : w2.cell? ⟨W1.heap.size, 0, none⟩ = some (.int .i64 n) := LL2 (⟨W1.heap.size, 0, none⟩, (.int .i64 n)) (.tail _ (.tail _ (.tail _ (.tail _ (.tail _ (.tail _ (.tail _ (.tail _ (.tail _ (.tail _ (.tail _ (.head _))))))))))))
    have c12 : w2.cell? ⟨w.heap.size, 0, none⟩ = some (.slice xa r cap) := LL2 (⟨w.heap.size, 0, none⟩, (.slice xa r cap)) (.tail _ (.tail _ (.tail _ (.tail _ (.tail _ (.tail _ (.tail _ (.tail _ (.tail _ (.tail _ (.tail _ (.tail _ (.head _)))))))))))))
    clear LL2
    replace BL := hide (BL.out.trans (q2.mono BL.out.size))
    clear q2
    go_wp2_with fail
    go_ret
    exact ⟨_, _, rfl, .inl rfl, (BL.out).alloc (BL.out).size _⟩
  have gq' : ((q : Int) != m) = false := by simp [gq]
  cases gs : ib (-1073741824) 1073741824 q Z
  case true => exact absurd ⟨rfl, of_decide_eq_true gm, gq, gs⟩ h.out
  replace CS := hide (fun (U : World) (b : Below w.heap.size w U) => by have := CS.out U b; rw [gs] at this; exact this)
  clear gm gs h
  go_enter Try.func10, Try.ntmps10
  go_wp2_with fail
  refine (HFc.out _).mono ?_; rintro e1 w1 ⟨rfl, q1⟩
  have LL1 := LL.out.below q1
  have BB1 := BL.out.trans (q1.mono BL.out.size)
  clear c0 c1 c2 c3 c4 c5 c6 c7 c8 c9 c10 q1
  obtain ⟨U1, hU1⟩ : ∃ U1, w1.alloc (.cells #[.int .i64 0] 3) = U1 := ⟨_, rfl⟩
  have n1 : Below w1.heap.size w1 U1 := hU1 ▸ (Below.refl _ _).alloc (Nat.le_refl _) _
  obtain ⟨U2, hU2⟩ : ∃ U2, U1.alloc (.cells #[.int .i64 0] 3) = U2 := ⟨_, rfl⟩
  have n2 : Below U1.heap.size U1 U2 := hU2 ▸ (Below.refl _ _).alloc (Nat.le_refl _) _
  have d1 : U2.cell? ⟨w1.heap.size, 0, none⟩ = some (.int .i64 0) := by rw [← hU2, ← hU1]; simp [go_sem]
  have d1f : U2.frozen? ⟨w1.heap.size, 0, none⟩ = false := by rw [← hU2, ← hU1]; simp [go_sem]
  obtain ⟨U3, hU3⟩ : ∃ U3, U2.setCell ⟨w1.heap.size, 0, none⟩ (.int .i64 mu) = U3 := ⟨_, rfl⟩
  have zz : w1.heap.size < U1.heap.size := by rw [← hU1]; simp
  have d2 : U3.cell? ⟨U1.heap.size, 0, none⟩ = some (.int .i64 0) := by rw [← hU3, World.cell?_setCell_other _ _ _ _ (by intro e; injection e with e; omega), ← hU2]; simp [go_sem]
  have d2f : U3.frozen? ⟨U1.heap.size, 0, none⟩ = false := by rw [← hU3, World.frozen?_setCell, ← hU2]; simp [go_sem]
  obtain ⟨U4, hU4⟩ : ∃ U4, U3.setCell ⟨U1.heap.size, 0, none⟩ (.int .i64 sh) = U4 := ⟨_, rfl⟩
  have nn : Below w1.heap.size w1 U4 := by rw [← hU4, ← hU3]; exact ((n1.trans (n2.mono n1.size)).setCell (Nat.le_refl _) _).setCell (by show w1.heap.size ≤ U1.heap.size; omega) _
  have e1 : U4.cell? ⟨w1.heap.size, 0, none⟩ = some (.int .i64 mu) := by rw [← hU4, World.cell?_setCell_other _ _ _ _ (by intro e; injection e with e; omega), ← hU3]; exact World.cell?_setCell_same _ _ _ d1
  have e2 : U4.cell? ⟨U1.heap.size, 0, none⟩ = some (.int .i64 sh) := by rw [← hU4]; exact World.cell?_setCell_same _ _ _ d2
  replace LL := hide (((LL1.below nn).new (x := (⟨w1.heap.size, 0, none⟩, .int .i64 mu)) e1).new (x := (⟨U1.heap.size, 0, none⟩, .int .i64 sh)) e2)
  replace BL := hide (BB1.trans (nn.mono BB1.size))
  clear LL1 BB1 nn n1 n2 zz
  clear e1 e2
  have c0 : U4.cell? ⟨U1.heap.size, 0, none⟩ = some (.int .i64 sh) := LL.out (⟨U1.heap.size, 0, none⟩, (.int .i64 sh)) (.head _)
  have c1 : U4.cell? ⟨w1.heap.size, 0, none⟩ = some (.int .i64 mu) := LL.out (⟨w1.heap.size, 0, none⟩, (.int .i64 mu)) (.tail _ (.head _))
  have c2 : U4.cell? ⟨W7.heap.size, 1, none⟩ = some (.int .i64 zc) := LL.out (⟨W7.heap.size, 1, none⟩, (.int .i64 zc)) (.tail _ (.tail _ (.head _)))
  have c3 : U4.cell? ⟨W7.heap.size, 0, none⟩ = some (.int .i64 sc) := LL.out (⟨W7.heap.size, 0, none⟩, (.int .i64 sc)) (.tail _ (.tail _ (.tail _ (.head _))))
  have c4 : U4.cell? ⟨W6.heap.size, 0, none⟩ = some (.slice za' q eap) := LL.out (⟨W6.heap.size, 0, none⟩, (.slice za' q eap)) (.tail _ (.tail _ (.tail _ (.tail _ (.head _)))))
  have c5 : U4.cell? ⟨W5.heap.size, 1, none⟩ = some (.int .i64 zb) := LL.out (⟨W5.heap.size, 1, none⟩, (.int .i64 zb)) (.tail _ (.tail _ (.tail _ (.tail _ (.tail _ (.head _))))))
  have c6 : U4.cell? ⟨W5.heap.size, 0, none⟩ = some (.int .i64 sb) := LL.out (⟨W5.heap.size, 0, none⟩, (.int .i64 sb)) (.tail _ (.tail _ (.tail _ (.tail _ (.tail _ (.tail _ (.head _)))))))
  have c7 : U4.cell? ⟨W4.heap.size, 0, none⟩ = some (.int .i64 m) := LL.out (⟨W4.heap.size, 0, none⟩, (.int .i64 m)) (.tail _ (.tail _ (.tail _ (.tail _ (.tail _ (.tail _ (.tail _ (.head _))))))))
  have c8 : U4.cell? ⟨W3.heap.size, 0, none⟩ = some (.slice ya s dap) := LL.out (⟨W3.heap.size, 0, none⟩, (.slice ya s dap)) (.tail _ (.tail _ (.tail _ (.tail _ (.tail _ (.tail _ (.tail _ (.tail _ (.head _)))))))))
  have c9 : U4.cell? ⟨W2.heap.size, 1, none⟩ = some (.int .i64 za) := LL.out (⟨W2.heap.size, 1, none⟩, (.int .i64 za)) (.tail _ (.tail _ (.tail _ (.tail _ (.tail _ (.tail _ (.tail _ (.tail _ (.tail _ (.head _))))))))))
  have c10 : U4.cell? ⟨W2.heap.size, 0, none⟩ = some (.int .i64 sa) := LL.out (⟨W2.heap.size, 0, none⟩, (.int .i64 sa)) (.tail _ (.tail _ (.tail _ (.tail _ (.tail _ (.tail _ (.tail _ (.tail _ (.tail _ (.tail _ (.head _)))))))))))
  have c11 : U4.cell? ⟨W1.heap.size, 0, none⟩ = some (.int .i64 n) := LL.out (⟨W1.heap.size, 0, none⟩, (.int .i64 n)) (.tail _ (.tail _ (.tail _ (.tail _ (.tail _ (.tail _ (.tail _ (.tail _ (.tail _ (.tail _ (.tail _ (.head _))))))))))))
  have c12 : U4.cell? ⟨w.heap.size, 0, none⟩ = some (.slice xa r cap) := LL.out (⟨w.heap.size, 0, none⟩, (.slice xa r cap)) (.tail _ (.tail _ (.tail _ (.tail _ (.tail _ (.tail _ (.tail _ (.tail _ (.tail _ (.tail _ (.tail _ (.tail _ (.head _)))))))))))))
  have D1 := hide d1
  clear D1
  go_wp2_with fail
  refine (CM.out _ BL.out).mono ?_; rintro e1 w2 ⟨rfl, q2⟩
  have LL2 := LL.out.below q2
  clear c0 c1 c2 c3 c4 c5 c6 c7 c8 c9 c10 c11 c12
  have c0 : w2.cell? ⟨U1.heap.size, 0, none⟩ = some (.int .i64 sh) := LL2 (⟨U1.heap.size, 0, none⟩, (.int .i64 sh)) (.head _)
  have c1 : w2.cell? ⟨w1.heap.size, 0, none⟩ = some (.int .i64 mu) := LL2 (⟨w1.heap.size, 0, none⟩, (.int .i64 mu)) (.tail _ (.head _))
  have c2 : w2.cell? ⟨W7.heap.size, 1, none⟩ = some (.int .i64 zc) := LL2 (⟨W7.heap.size, 1, none⟩, (.int .i64 zc)) (.tail _ (.tail _ (.head _)))
  have c3 : w2.cell? ⟨W7.heap.size, 0, none⟩ = some (.int .i64 sc) := LL2 (⟨W7.heap.size, 0, none⟩, (.int .i64 sc)) (.tail _ (.tail _ (.tail _ (.head _))))
  have c4 : w2.cell? ⟨W6.heap.size, 0, none⟩ = some (.slice za' q eap) := LL2 (⟨W6.heap.size, 0, none⟩, (.slice za' q eap)) (.tail _ (.tail _ (.tail _ (.tail _ (.head _)))))
  have c5 : w2.cell? ⟨W5.heap.size, 1, none⟩ = some (.int .i64 zb) := LL2 (⟨W5.heap.size, 1, none⟩, (.int .i64 zb)) (.tail _ (.tail _ (.tail _ (.tail _ (.tail _ (.head _))))))
  have c6 : w2.cell? ⟨W5.heap.size, 0, none⟩ = some (.int .i64 sb) := LL2 (⟨W5.heap.size, 0, none⟩, (.int .i64 sb)) (.tail _ (.tail _ (.tail _ (.tail _ (.tail _ (.tail _ (.head _)))))))
  have c7 : w2.cell? ⟨W4.heap.size, 0, none⟩ = some (.int .i64 m) := LL2 (⟨W4.heap.size, 0, none⟩, (.int .i64 m)) (.tail _ (.tail _ (.tail _ (.tail _ (.tail _ (.tail _ (.tail _ (.head _))))))))
  have c8 : w2.cell? ⟨W3.heap.size, 0, none⟩ = some (.slice ya s dap) := LL2 (⟨W3.heap.size, 0, none⟩, (.slice ya s dap)) (.tail _ (.tail _ (.tail _ (.tail _ (.tail _ (.tail _ (.tail _ (.tail _ (.head _)))))))))
  have c9 : w2.cell? ⟨W2.heap.size, 1, none⟩ = some (.int .i64 za) := LL2 (⟨W2.heap.size, 1, none⟩, (.int .i64 za)) (.tail _ (.tail _ (.tail _ (.tail _ (.tail _ (.tail _ (.tail _ (.tail _ (.tail _ (.head _))))))))))
  have c10 : w2.cell? ⟨W2.heap.size, 0, none⟩ = some (.int .i64 sa) := LL2 (⟨W2.heap.size, 0, none⟩, (.int .i64 sa)) (.tail _ (.tail _ (.tail _ (.tail _ (.tail _ (.tail _ (.tail _ (.tail _ (.tail _ (.tail _ (.head _)))))))))))
  have c11 : w2.cell? ⟨W1.heap.size, 0, none⟩ = some (.int .i64 n) := LL2 (⟨W1.heap.size, 0, none⟩, (.int .i64 n)) (.tail _ (.tail _ (.tail _ (.tail _ (.tail _ (.tail _ (.tail _ (.tail _ (.tail _ (.tail _ (.tail _ (.head _))))))))))))
  have c12 : w2.cell? ⟨w.heap.size, 0, none⟩ = some (.slice xa r cap) := LL2 (⟨w.heap.size, 0, none⟩, (.slice xa r cap)) (.tail _ (.tail _ (.tail _ (.tail _ (.tail _ (.tail _ (.tail _ (.tail _ (.tail _ (.tail _ (.tail _ (.tail _ (.head _)))))))))))))
  clear LL2
  replace BL := hide (BL.out.trans (q2.mono BL.out.size))
  clear q2
  go_wp2_with fail
  refine (CS.out _ BL.out).mono ?_; rintro e1 w3 ⟨rfl, q3⟩
  replace BL := hide (BL.out.trans (q3.mono BL.out.size))
  go_wp2_with fail
  go_ret
  exact ⟨_, _, rfl, .inl rfl, (BL.out).alloc (BL.out).size _⟩
set_option maxHeartbeats 4000000 in
theorem iMat_yes (xa ya za' : Option Addr) (r s q cap dap eap : Nat) (X Y Z : Nat → Int) (n m sa za sb zb sc zc mu sh : Int) (ok : Bool) (w : World) (hx : Ints w.heap.size w xa r X) (hy : Ints w.heap.size w ya s Y) (hz : Ints w.heap.size w za' q Z) (hn : bd n) (hm : bd m) (hr : (r : Int) ≤ 1048576) (hs : (s : Int) ≤ 1048576) (hq : (q : Int) ≤ 1048576) (hF : ∀ w, Calls Try.prog 7 #[.agg #[.int .i64 sa, .int .i64 za], .agg #[.int .i64 sb, .int .i64 zb], .agg #[.int .i64 sc, .int .i64 zc]] w fun e w' => e = .returned (.tuple #[.int .i64 mu, .int .i64 sh, .bool ok]) ∧ Below w.heap.size w w') (rc : r ≤ cap) (sd : s ≤ dap) (ba : bd sa) (bza : bd za) (bb : bd sb) (bzb : bd zb) (h : MOk ok r s q X Y Z n m) (V : Nat → Int)
    (hV : ∀ k, k < r / n.toNat * m.toNat → bd (V k) ∧ ∀ w, Calls Try.prog 29 #[.int .i64 (cl (-1073741824) 1073741824 (mtD sa za sb zb n.toNat m.toNat X Y Z k)), .int .i64 mu, .int .i64 sh, .agg #[.int .i64 sc, .int .i64 zc]] w fun e w' => e = .returned (.int .i64 (V k)) ∧ Below w.heap.size w w') :
    Calls Try.prog 10 #[.slice xa r cap, .int .i64 n, .agg #[.int .i64 sa, .int .i64 za], .slice ya s dap, .int .i64 m, .agg #[.int .i64 sb, .int .i64 zb], .slice za' q eap, .agg #[.int .i64 sc, .int .i64 zc]] w (ListR (r / n.toNat * m.toNat) V w) := by
  have HX := hide hx
  have HY := hide hy
  have HZ := hide hz
  have HFc := hide hF
  clear hx hy hz hF
  have CM := hide (fun (U : World) (b : Below w.heap.size w U) => matricesFitF xa ya r s cap dap X Y n m U ((HX.out.below b).mono b.size) ((HY.out.below b).mono b.size) hn hm hr hs)
  have CS := hide (fun (U : World) (b : Below w.heap.size w U) => areSumsF w.heap.size za' q eap Z U b.size (HZ.out.below b) hq)
  clear hr hs hq
  obtain ⟨rfl, hfit, hqm, gs⟩ := h
  have gm := mfit_yes hfit
  replace CM := hide (fun (U : World) (b : Below w.heap.size w U) => by have := CM.out U b; rw [gm] at this; exact this)
  replace CS := hide (fun (U : World) (b : Below w.heap.size w U) => by have := CS.out U b; rw [gs] at this; exact this)
  have IB := hide (fun j hj => ib_at gs j hj)
  obtain ⟨⟨⟨n0, n1⟩, m0, m1⟩, r4, s4, g4, g5, g6, g7, -, -⟩ := hfit
  obtain ⟨N, rfl⟩ := Int.eq_ofNat_of_zero_le (show 0 ≤ n by omega)
  obtain ⟨M, rfl⟩ := Int.eq_ofNat_of_zero_le (show 0 ≤ m by omega)
  rw [Int.toNat_natCast] at g4 g5 g6 g7 hV ⊢
  rw [Int.toNat_natCast] at g5 g6 g7 hV ⊢
  obtain rfl : q = M := by omega
  obtain ⟨R, hR⟩ : ∃ R, r / N = R := ⟨_, rfl⟩
  rw [hR] at g6 g7 hV ⊢
  have eR : R * N = r := by have := Nat.div_add_mod r N; rw [hR, g4, Nat.mul_comm] at this; omega
  obtain ⟨P, hP⟩ : ∃ P, R * q = P := ⟨_, rfl⟩
  rw [hP] at g6 g7 hV ⊢
  have Rl : R ≤ 4096 := by rw [← hR]; exact Nat.le_trans (Nat.div_le_self _ _) (by omega)
  have dq : (r : Int).tdiv (N : Int) = (R : Int) := by rw [div_td, hR]
  have wq : IntKind.i64.wrap (R : Int) = R := by rw [IntKind.wrap_i64]; omega
  have wp : IntKind.i64.wrap ((R : Int) * (q : Int)) = (P : Int) := by rw [← Int.natCast_mul, hP, IntKind.wrap_i64]; omega
  have nz : ((N : Int) == 0) = false := by simp; omega
  have HV := hide hV
  have HP := hide hP
  have ER := hide eR
  have S5 := hide g5
  have NN := hide (And.intro n0 n1)
  have MM := hide (And.intro m0 m1)
  have R4 := hide (And.intro r4 s4)
  have RC := hide (And.intro rc sd)
  have BB := hide (And.intro (And.intro ba bza) (And.intro bb bzb))
  have P6 := hide g6
  have RLL := hide Rl
  clear hR hP eR hV g4 g5 g6 g7 gm gs n0 n1 m0 m1 r4 s4 rc sd ba bza bb bzb Rl hqm hn hm
  have L0 := Lies.nil w
  have B0 : Below w.heap.size w w := Below.refl _ _
  obtain ⟨W1, hW1⟩ : ∃ W1, w.alloc (.cells #[.slice xa r cap] 29) = W1 := ⟨_, rfl⟩
  have nW1 : Below w.heap.size w W1 := hW1 ▸ (Below.refl _ _).alloc (Nat.le_refl _) _
  have L1' := L0.below nW1
  have B1 := B0.trans (nW1.mono B0.size)
  have L1 := L1'.new (x := (⟨w.heap.size, 0, none⟩, (.slice xa r cap))) (show W1.cell? _ = some _ by rw [← hW1]; simp [go_sem])
  obtain ⟨W2, hW2⟩ : ∃ W2, W1.alloc (.cells #[.int .i64 (N : Int)] 3) = W2 := ⟨_, rfl⟩
  have nW2 : Below W1.heap.size W1 W2 := hW2 ▸ (Below.refl _ _).alloc (Nat.le_refl _) _
  have L2' := L1.below nW2
  have B2 := B1.trans (nW2.mono B1.size)
  have L2 := L2'.new (x := (⟨W1.heap.size, 0, none⟩, (.int .i64 (N : Int)))) (show W2.cell? _ = some _ by rw [← hW2]; simp [go_sem])
  obtain ⟨W3, hW3⟩ : ∃ W3, W2.alloc (.cells #[.int .i64 sa, .int .i64 za] 26) = W3 := ⟨_, rfl⟩
  have nW3 : Below W2.heap.size W2 W3 := hW3 ▸ (Below.refl _ _).alloc (Nat.le_refl _) _
  have L3' := L2.below nW3
  have B3 := B2.trans (nW3.mono B2.size)
  have L3'0 := L3'.new (x := (⟨W2.heap.size, 0, none⟩, (.int .i64 sa))) (show W3.cell? _ = some _ by rw [← hW3]; simp [go_sem])
  have L3 := L3'0.new (x := (⟨W2.heap.size, 1, none⟩, (.int .i64 za))) (show W3.cell? _ = some _ by rw [← hW3]; simp [go_sem])
  obtain ⟨W4, hW4⟩ : ∃ W4, W3.alloc (.cells #[.slice ya s dap] 29) = W4 := ⟨_, rfl⟩
  have nW4 : Below W3.heap.size W3 W4 := hW4 ▸ (Below.refl _ _).alloc (Nat.le_refl _) _
  have L4' := L3.below nW4
  have B4 := B3.trans (nW4.mono B3.size)
  have L4 := L4'.new (x := (⟨W3.heap.size, 0, none⟩, (.slice ya s dap))) (show W4.cell? _ = some _ by rw [← hW4]; simp [go_sem])
  obtain ⟨W5, hW5⟩ : ∃ W5, W4.alloc (.cells #[.int .i64 (q : Int)] 3) = W5 := ⟨_, rfl⟩
  have nW5 : Below W4.heap.size W4 W5 := hW5 ▸ (Below.refl _ _).alloc (Nat.le_refl _) _
  have L5' := L4.below nW5
  have B5 := B4.trans (nW5.mono B4.size)
  have L5 := L5'.new (x := (⟨W4.heap.size, 0, none⟩, (.int .i64 (q : Int)))) (show W5.cell? _ = some _ by rw [← hW5]; simp [go_sem])
  obtain ⟨W6, hW6⟩ : ∃ W6, W5.alloc (.cells #[.int .i64 sb, .int .i64 zb] 26) = W6 := ⟨_, rfl⟩
  have nW6 : Below W5.heap.size W5 W6 := hW6 ▸ (Below.refl _ _).alloc (Nat.le_refl _) _
  have L6' := L5.below nW6
  have B6 := B5.trans (nW6.mono B5.size)
  have L6'0 := L6'.new (x := (⟨W5.heap.size, 0, none⟩, (.int .i64 sb))) (show W6.cell? _ = some _ by rw [← hW6]; simp [go_sem])
  have L6 := L6'0.new (x := (⟨W5.heap.size, 1, none⟩, (.int .i64 zb))) (show W6.cell? _ = some _ by rw [← hW6]; simp [go_sem])
  obtain ⟨W7, hW7⟩ : ∃ W7, W6.alloc (.cells #[.slice za' q eap] 29) = W7 := ⟨_, rfl⟩
  have nW7 : Below W6.heap.size W6 W7 := hW7 ▸ (Below.refl _ _).alloc (Nat.le_refl _) _
  have L7' := L6.below nW7
  have B7 := B6.trans (nW7.mono B6.size)
  have L7 := L7'.new (x := (⟨W6.heap.size, 0, none⟩, (.slice za' q eap))) (show W7.cell? _ = some _ by rw [← hW7]; simp [go_sem])
  obtain ⟨W8, hW8⟩ : ∃ W8, W7.alloc (.cells #[.int .i64 sc, .int .i64 zc] 26) = W8 := ⟨_, rfl⟩
  have nW8 : Below W7.heap.size W7 W8 := hW8 ▸ (Below.refl _ _).alloc (Nat.le_refl _) _
  have L8' := L7.below nW8
  have B8 := B7.trans (nW8.mono B7.size)
  have L8'0 := L8'.new (x := (⟨W7.heap.size, 0, none⟩, (.int .i64 sc))) (show W8.cell? _ = some _ by rw [← hW8]; simp [go_sem])
  have L8 := L8'0.new (x := (⟨W7.heap.size, 1, none⟩, (.int .i64 zc))) (show W8.cell? _ = some _ by rw [← hW8]; simp [go_sem])
  have LL := hide L8
  have BL := hide B8
  clear nW1 L1' B1 nW2 L2' B2 nW3 L3' B3 nW4 L4' B4 nW5 L5' B5 nW6 L6' B6 nW7 L7' B7 nW8 L8' B8 L1 L2 L3 L4 L5 L6 L7 L8 L3'0 L6'0 L8'0 L0 B0
  have c0 : W8.cell? ⟨W7.heap.size, 1, none⟩ = some (.int .i64 zc) := LL.out (⟨W7.heap.size, 1, none⟩, (.int .i64 zc)) (.head _)
  have c1 : W8.cell? ⟨W7.heap.size, 0, none⟩ = some (.int .i64 sc) := LL.out (⟨W7.heap.size, 0, none⟩, (.int .i64 sc)) (.tail _ (.head _))
  have c2 : W8.cell? ⟨W6.heap.size, 0, none⟩ = some (.slice za' q eap) := LL.out (⟨W6.heap.size, 0, none⟩, (.slice za' q eap)) (.tail _ (.tail _ (.head _)))
  have c3 : W8.cell? ⟨W5.heap.size, 1, none⟩ = some (.int .i64 zb) := LL.out (⟨W5.heap.size, 1, none⟩, (.int .i64 zb)) (.tail _ (.tail _ (.tail _ (.head _))))
  have c4 : W8.cell? ⟨W5.heap.size, 0, none⟩ = some (.int .i64 sb) := LL.out (⟨W5.heap.size, 0, none⟩, (.int .i64 sb)) (.tail _ (.tail _ (.tail _ (.tail _ (.head _)))))
  have c5 : W8.cell? ⟨W4.heap.size, 0, none⟩ = some (.int .i64 (q : Int)) := LL.out (⟨W4.heap.size, 0, none⟩, (.int .i64 (q : Int))) (.tail _ (.tail _ (.tail _ (.tail _ (.tail _ (.head _))))))
  have c6 : W8.cell? ⟨W3.heap.size, 0, none⟩ = some (.slice ya s dap) := LL.out (⟨W3.heap.size, 0, none⟩, (.slice ya s dap)) (.tail _ (.tail _ (.tail _ (.tail _ (.tail _ (.tail _ (.head _)))))))
  have c7 : W8.cell? ⟨W2.heap.size, 1, none⟩ = some (.int .i64 za) := LL.out (⟨W2.heap.size, 1, none⟩, (.int .i64 za)) (.tail _ (.tail _ (.tail _ (.tail _ (.tail _ (.tail _ (.tail _ (.head _))))))))
  have c8 : W8.cell? ⟨W2.heap.size, 0, none⟩ = some (.int .i64 sa) := LL.out (⟨W2.heap.size, 0, none⟩, (.int .i64 sa)) (.tail _ (.tail _ (.tail _ (.tail _ (.tail _ (.tail _ (.tail _ (.tail _ (.head _)))))))))
  have c9 : W8.cell? ⟨W1.heap.size, 0, none⟩ = some (.int .i64 (N : Int)) := LL.out (⟨W1.heap.size, 0, none⟩, (.int .i64 (N : Int))) (.tail _ (.tail _ (.tail _ (.tail _ (.tail _ (.tail _ (.tail _ (.tail _ (.tail _ (.head _))))))))))
  have c10 : W8.cell? ⟨w.heap.size, 0, none⟩ = some (.slice xa r cap) := LL.out (⟨w.heap.size, 0, none⟩, (.slice xa r cap)) (.tail _ (.tail _ (.tail _ (.tail _ (.tail _ (.tail _ (.tail _ (.tail _ (.tail _ (.tail _ (.head _)))))))))))
  go_enter Try.func10, Try.ntmps10
  go_wp2_with fail
  refine (HFc.out _).mono ?_; rintro e1 w1 ⟨rfl, q1⟩
  have LL1 := LL.out.below q1
  have BB1 := BL.out.trans (q1.mono BL.out.size)
  clear c0 c1 c2 c3 c4 c5 c6 c7 c8 c9 c10 q1
  obtain ⟨U1, hU1⟩ : ∃ U1, w1.alloc (.cells #[.int .i64 0] 3) = U1 := ⟨_, rfl⟩
  have n1 : Below w1.heap.size w1 U1 := hU1 ▸ (Below.refl _ _).alloc (Nat.le_refl _) _
  obtain ⟨U2, hU2⟩ : ∃ U2, U1.alloc (.cells #[.int .i64 0] 3) = U2 := ⟨_, rfl⟩
  have n2 : Below U1.heap.size U1 U2 := hU2 ▸ (Below.refl _ _).alloc (Nat.le_refl _) _
  have d1 : U2.cell? ⟨w1.heap.size, 0, none⟩ = some (.int .i64 0) := by rw [← hU2, ← hU1]; simp [go_sem]
  have d1f : U2.frozen? ⟨w1.heap.size, 0, none⟩ = false := by rw [← hU2, ← hU1]; simp [go_sem]
  obtain ⟨U3, hU3⟩ : ∃ U3, U2.setCell ⟨w1.heap.size, 0, none⟩ (.int .i64 mu) = U3 := ⟨_, rfl⟩
  have zz : w1.heap.size < U1.heap.size := by rw [← hU1]; simp
  have d2 : U3.cell? ⟨U1.heap.size, 0, none⟩ = some (.int .i64 0) := by rw [← hU3, World.cell?_setCell_other _ _ _ _ (by intro e; injection e with e; omega), ← hU2]; simp [go_sem]
  have d2f : U3.frozen? ⟨U1.heap.size, 0, none⟩ = false := by rw [← hU3, World.frozen?_setCell, ← hU2]; simp [go_sem]
  obtain ⟨U4, hU4⟩ : ∃ U4, U3.setCell ⟨U1.heap.size, 0, none⟩ (.int .i64 sh) = U4 := ⟨_, rfl⟩
  have nn : Below w1.heap.size w1 U4 := by rw [← hU4, ← hU3]; exact ((n1.trans (n2.mono n1.size)).setCell (Nat.le_refl _) _).setCell (by show w1.heap.size ≤ U1.heap.size; omega) _
  have e1 : U4.cell? ⟨w1.heap.size, 0, none⟩ = some (.int .i64 mu) := by rw [← hU4, World.cell?_setCell_other _ _ _ _ (by intro e; injection e with e; omega), ← hU3]; exact World.cell?_setCell_same _ _ _ d1
  have e2 : U4.cell? ⟨U1.heap.size, 0, none⟩ = some (.int .i64 sh) := by rw [← hU4]; exact World.cell?_setCell_same _ _ _ d2
  replace LL := hide (((LL1.below nn).new (x := (⟨w1.heap.size, 0, none⟩, .int .i64 mu)) e1).new (x := (⟨U1.heap.size, 0, none⟩, .int .i64 sh)) e2)
  replace BL := hide (BB1.trans (nn.mono BB1.size))
  clear LL1 BB1 nn n1 n2 zz
  clear e1 e2
  have c0 : U4.cell? ⟨U1.heap.size, 0, none⟩ = some (.int .i64 sh) := LL.out (⟨U1.heap.size, 0, none⟩, (.int .i64 sh)) (.head _)
  have c1 : U4.cell? ⟨w1.heap.size, 0, none⟩ = some (.int .i64 mu) := LL.out (⟨w1.heap.size, 0, none⟩, (.int .i64 mu)) (.tail _ (.head _))
  have c2 : U4.cell? ⟨W7.heap.size, 1, none⟩ = some (.int .i64 zc) := LL.out (⟨W7.heap.size, 1, none⟩, (.int .i64 zc)) (.tail _ (.tail _ (.head _)))
  have c3 : U4.cell? ⟨W7.heap.size, 0, none⟩ = some (.int .i64 sc) := LL.out (⟨W7.heap.size, 0, none⟩, (.int .i64 sc)) (.tail _ (.tail _ (.tail _ (.head _))))
  have c4 : U4.cell? ⟨W6.heap.size, 0, none⟩ = some (.slice za' q eap) := LL.out (⟨W6.heap.size, 0, none⟩, (.slice za' q eap)) (.tail _ (.tail _ (.tail _ (.tail _ (.head _)))))
  have c5 : U4.cell? ⟨W5.heap.size, 1, none⟩ = some (.int .i64 zb) := LL.out (⟨W5.heap.size, 1, none⟩, (.int .i64 zb)) (.tail _ (.tail _ (.tail _ (.tail _ (.tail _ (.head _))))))
  have c6 : U4.cell? ⟨W5.heap.size, 0, none⟩ = some (.int .i64 sb) := LL.out (⟨W5.heap.size, 0, none⟩, (.int .i64 sb)) (.tail _ (.tail _ (.tail _ (.tail _ (.tail _ (.tail _ (.head _)))))))
  have c7 : U4.cell? ⟨W4.heap.size, 0, none⟩ = some (.int .i64 (q : Int)) := LL.out (⟨W4.heap.size, 0, none⟩, (.int .i64 (q : Int))) (.tail _ (.tail _ (.tail _ (.tail _ (.tail _ (.tail _ (.tail _ (.head _))))))))
  have c8 : U4.cell? ⟨W3.heap.size, 0, none⟩ = some (.slice ya s dap) := LL.out (⟨W3.heap.size, 0, none⟩, (.slice ya s dap)) (.tail _ (.tail _ (.tail _ (.tail _ (.tail _ (.tail _ (.tail _ (.tail _ (.head _)))))))))
  have c9 : U4.cell? ⟨W2.heap.size, 1, none⟩ = some (.int .i64 za) := LL.out (⟨W2.heap.size, 1, none⟩, (.int .i64 za)) (.tail _ (.tail _ (.tail _ (.tail _ (.tail _ (.tail _ (.tail _ (.tail _ (.tail _ (.head _))))))))))
  have c10 : U4.cell? ⟨W2.heap.size, 0, none⟩ = some (.int .i64 sa) := LL.out (⟨W2.heap.size, 0, none⟩, (.int .i64 sa)) (.tail _ (.tail _ (.tail _ (.tail _ (.tail _ (.tail _ (.tail _ (.tail _ (.tail _ (.tail _ (.head _)))))))))))
  have c11 : U4.cell? ⟨W1.heap.size, 0, none⟩ = some (.int .i64 (N : Int)) := LL.out (⟨W1.heap.size, 0, none⟩, (.int .i64 (N : Int))) (.tail _ (.tail _ (.tail _ (.tail _ (.tail _ (.tail _ (.tail _ (.tail _ (.tail _ (.tail _ (.tail _ (.head _))))))))))))
  have c12 : U4.cell? ⟨w.heap.size, 0, none⟩ = some (.slice xa r cap) := LL.out (⟨w.heap.size, 0, none⟩, (.slice xa r cap)) (.tail _ (.tail _ (.tail _ (.tail _ (.tail _ (.tail _ (.tail _ (.tail _ (.tail _ (.tail _ (.tail _ (.tail _ (.head _)))))))))))))
  have D1 := hide d1
  clear D1
  have gq' : ((q : Int) != (q : Int)) = false := by simp
  go_wp2_with fail
  refine (CM.out _ BL.out).mono ?_; rintro e1 w2 ⟨rfl, q2⟩
  clear d1 d1f d2 d2f hU1 hU2 hU3 hU4
  have LL2 := LL.out.below q2
  clear c0 c1 c2 c3 c4 c5 c6 c7 c8 c9 c10 c11 c12
  have c0 : w2.cell? ⟨U1.heap.size, 0, none⟩ = some (.int .i64 sh) := LL2 (⟨U1.heap.size, 0, none⟩, (.int .i64 sh)) (.head _)
  have c1 : w2.cell? ⟨w1.heap.size, 0, none⟩ = some (.int .i64 mu) := LL2 (⟨w1.heap.size, 0, none⟩, (.int .i64 mu)) (.tail _ (.head _))
  have c2 : w2.cell? ⟨W7.heap.size, 1, none⟩ = some (.int .i64 zc) := LL2 (⟨W7.heap.size, 1, none⟩, (.int .i64 zc)) (.tail _ (.tail _ (.head _)))
  have c3 : w2.cell? ⟨W7.heap.size, 0, none⟩ = some (.int .i64 sc) := LL2 (⟨W7.heap.size, 0, none⟩, (.int .i64 sc)) (.tail _ (.tail _ (.tail _ (.head _))))
  have c4 : w2.cell? ⟨W6.heap.size, 0, none⟩ = some (.slice za' q eap) := LL2 (⟨W6.heap.size, 0, none⟩, (.slice za' q eap)) (.tail _ (.tail _ (.tail _ (.tail _ (.head _)))))
  have c5 : w2.cell? ⟨W5.heap.size, 1, none⟩ = some (.int .i64 zb) := LL2 (⟨W5.heap.size, 1, none⟩, (.int .i64 zb)) (.tail _ (.tail _ (.tail _ (.tail _ (.tail _ (.head _))))))
  have c6 : w2.cell? ⟨W5.heap.size, 0, none⟩ = some (.int .i64 sb) := LL2 (⟨W5.heap.size, 0, none⟩, (.int .i64 sb)) (.tail _ (.tail _ (.tail _ (.tail _ (.tail _ (.tail _ (.head _)))))))
  have c7 : w2.cell? ⟨W4.heap.size, 0, none⟩ = some (.int .i64 (q : Int)) := LL2 (⟨W4.heap.size, 0, none⟩, (.int .i64 (q : Int))) (.tail _ (.tail _ (.tail _ (.tail _ (.tail _ (.tail _ (.tail _ (.head _))))))))
  have c8 : w2.cell? ⟨W3.heap.size, 0, none⟩ = some (.slice ya s dap) := LL2 (⟨W3.heap.size, 0, none⟩, (.slice ya s dap)) (.tail _ (.tail _ (.tail _ (.tail _ (.tail _ (.tail _ (.tail _ (.tail _ (.head _)))))))))
  have c9 : w2.cell? ⟨W2.heap.size, 1, none⟩ = some (.int .i64 za) := LL2 (⟨W2.heap.size, 1, none⟩, (.int .i64 za)) (.tail _ (.tail _ (.tail _ (.tail _ (.tail _ (.tail _ (.tail _ (.tail _ (.tail _ (.head _))))))))))
  have c10 : w2.cell? ⟨W2.heap.size, 0, none⟩ = some (.int .i64 sa) := LL2 (⟨W2.heap.size, 0, none⟩, (.int .i64 sa)) (.tail _ (.tail _ (.tail _ (.tail _ (.tail _ (.tail _ (.tail _ (.tail _ (.tail _ (.tail _ (.head _)))))))))))
  have c11 : w2.cell? ⟨W1.heap.size, 0, none⟩ = some (.int .i64 (N : Int)) := LL2 (⟨W1.heap.size, 0, none⟩, (.int .i64 (N : Int))) (.tail _ (.tail _ (.tail _ (.tail _ (.tail _ (.tail _ (.tail _ (.tail _ (.tail _ (.tail _ (.tail _ (.head _))))))))))))
  have c12 : w2.cell? ⟨w.heap.size, 0, none⟩ = some (.slice xa r cap) := LL2 (⟨w.heap.size, 0, none⟩, (.slice xa r cap)) (.tail _ (.tail _ (.tail _ (.tail _ (.tail _ (.tail _ (.tail _ (.tail _ (.tail _ (.tail _ (.tail _ (.tail _ (.head _)))))))))))))
  clear LL2
  have LL2 := hide (LL.out.below q2)
  replace BL := hide (BL.out.trans (q2.mono BL.out.size))
  clear q2
  go_wp2_with fail
  refine (CS.out _ BL.out).mono ?_; rintro e1 w3 ⟨rfl, q3⟩
  replace LL2 := hide (LL2.out.below q3)
  replace BL := hide (BL.out.trans (q3.mono BL.out.size))
  clear q3 LL CM CS HFc c0 c1 c2 c3 c4 c5 c6 c7 c8 c9 c10 c11 c12
  have k7 := cell_regrown (show w3.cell? ⟨W4.heap.size, 0, none⟩ = some (.int .i64 (q : Int)) from LL2.out (⟨W4.heap.size, 0, none⟩, (.int .i64 (q : Int))) (.tail _ (.tail _ (.tail _ (.tail _ (.tail _ (.tail _ (.tail _ (.head _)))))))))
  have k11 := cell_regrown (show w3.cell? ⟨W1.heap.size, 0, none⟩ = some (.int .i64 (N : Int)) from LL2.out (⟨W1.heap.size, 0, none⟩, (.int .i64 (N : Int))) (.tail _ (.tail _ (.tail _ (.tail _ (.tail _ (.tail _ (.tail _ (.tail _ (.tail _ (.tail _ (.tail _ (.head _)))))))))))))
  have k12 := cell_regrown (show w3.cell? ⟨w.heap.size, 0, none⟩ = some (.slice xa r cap) from LL2.out (⟨w.heap.size, 0, none⟩, (.slice xa r cap)) (.tail _ (.tail _ (.tail _ (.tail _ (.tail _ (.tail _ (.tail _ (.tail _ (.tail _ (.tail _ (.tail _ (.tail _ (.head _))))))))))))))
  have n0' := NN.out.1
  go_wp2_with fail
  refine Qt.region_tail_below 7 (by kernel_rfl) (by kernel_rfl) ?_
  simp only [List.take_succ_cons, List.take_zero, List.drop_succ_cons, List.drop_zero]
  repeat (go_big_quiet_step (fail))
  refine wpQuiet_nil ?_
  intro _ hw'
  obtain ⟨⟨dq', osq⟩, hw''⟩ := hw'
  subst hw''
  obtain ⟨Z4, hZ4⟩ : ∃ Z4, Sort.grow (redrawn w3 dq') osq = Z4 := ⟨_, rfl⟩
  have bz : Below w3.heap.size w3 Z4 := hZ4 ▸ below_regrown _ _ _
  rw [hZ4]
  clear hZ4
  replace LL2 := hide (LL2.out.below bz)
  replace BL := hide (BL.out.trans (bz.mono BL.out.size))
  clear bz k7 k11 k12 n0'
  go_wp2_with fail
  refine (elemN P 27 #[.pointer (some ⟨W4.heap.size, 0, none⟩), .pointer (some ⟨W2.heap.size, 0, none⟩), .pointer (some ⟨W5.heap.size, 0, none⟩), .pointer (some ⟨w.heap.size, 0, none⟩), .pointer (some ⟨W1.heap.size, 0, none⟩), .pointer (some ⟨W3.heap.size, 0, none⟩), .pointer (some ⟨W6.heap.size, 0, none⟩), .pointer (some ⟨w1.heap.size, 0, none⟩), .pointer (some ⟨U1.heap.size, 0, none⟩), .pointer (some ⟨W7.heap.size, 0, none⟩)] V _ (by have := P6.out; omega) (fun k hk => (HV.out k hk).1) (enters_of Try.func27 (by kernel_rfl) rfl) ?_).mono ?_
  case refine_1 =>
    intro k Q hk hQ
    have Rl := RLL.out
    have rowR : k / q < R := Nat.div_lt_of_lt_mul (by rw [Nat.mul_comm, HP.out]; exact hk)
    have hRq := (HV.out k hk).2
    unfold mtD at hRq
    have mq : 0 < q := by have := MM.out; omega
    have colM : k % q < q := Nat.mod_lt _ mq
    obtain ⟨row, erow⟩ : ∃ row, k / q = row := ⟨_, rfl⟩
    obtain ⟨col, ecol⟩ : ∃ col, k % q = col := ⟨_, rfl⟩
    have td := div_td k q
    have tm := mod_tm k q
    rw [erow] at rowR hRq td
    rw [ecol] at colM hRq tm
    clear erow ecol
    obtain ⟨n0, n1⟩ := NN.out
    obtain ⟨m0, m1⟩ := MM.out
    obtain ⟨r4, s4⟩ := R4.out
    have vr : (row + 1) * N ≤ r := by rw [← ER.out]; exact Nat.mul_le_mul_right _ rowR
    have vs : (col + 1) * N ≤ s := by rw [S5.out, Nat.mul_comm N]; exact Nat.mul_le_mul_right _ colM
    have ur : (row + 1) * N = row * N + N := Nat.succ_mul _ _
    have us : (col + 1) * N = col * N + N := Nat.succ_mul _ _
    have bq : Below w.heap.size w Q := BL.out.trans (hQ.mono BL.out.size)
    have IX := (HX.out.below bq).mono bq.size
    have IY := (HY.out.below bq).mono bq.size
    have IZ := HZ.out.below bq
    have LQ := LL2.out.below hQ
    obtain ⟨xb, xo, rfl⟩ : ∃ xb xo, xa = some ⟨xb, xo, none⟩ := by
      rcases IX with e | ⟨b, o, e, _⟩
      · omega
      · exact ⟨b, o, e⟩
    obtain ⟨yb, yo, rfl⟩ : ∃ yb yo, ya = some ⟨yb, yo, none⟩ := by
      rcases IY with e | ⟨b, o, e, _⟩
      · omega
      · exact ⟨b, o, e⟩
    obtain ⟨zb', zo, rfl, hz⟩ : ∃ zb' zo, za' = some ⟨zb', zo, none⟩ ∧ Q.cell? ⟨zb', zo + col, none⟩ = some (.int .i64 (Z (col))) := by
      rcases IZ with e | ⟨b, o, e, _, hc⟩
      · omega
      · exact ⟨b, o, e, (hc _ colM).1⟩
    have LM : Lies [(⟨W4.heap.size, 0, none⟩, .int .i64 (q : Int)), (⟨W2.heap.size, 0, none⟩, .int .i64 sa), (⟨W2.heap.size, 1, none⟩, .int .i64 za), (⟨W5.heap.size, 0, none⟩, .int .i64 sb), (⟨W5.heap.size, 1, none⟩, .int .i64 zb), (⟨w.heap.size, 0, none⟩, .slice (some ⟨xb, xo, none⟩) r cap), (⟨W1.heap.size, 0, none⟩, .int .i64 (N : Int)), (⟨W3.heap.size, 0, none⟩, .slice (some ⟨yb, yo, none⟩) s dap), (⟨W6.heap.size, 0, none⟩, .slice (some ⟨zb', zo, none⟩) q eap), (⟨w1.heap.size, 0, none⟩, .int .i64 mu), (⟨U1.heap.size, 0, none⟩, .int .i64 sh), (⟨W7.heap.size, 0, none⟩, .int .i64 sc), (⟨W7.heap.size, 1, none⟩, .int .i64 zc)] Q := by
      intro y hy
      simp only [List.mem_cons, List.not_mem_nil, or_false] at hy
      rcases hy with rfl | rfl | rfl | rfl | rfl | rfl | rfl | rfl | rfl | rfl | rfl | rfl | rfl
      · exact LQ (⟨W4.heap.size, 0, none⟩, .int .i64 (q : Int)) (.tail _ (.tail _ (.tail _ (.tail _ (.tail _ (.tail _ (.tail _ (.head _))))))))
      · exact LQ (⟨W2.heap.size, 0, none⟩, .int .i64 sa) (.tail _ (.tail _ (.tail _ (.tail _ (.tail _ (.tail _ (.tail _ (.tail _ (.tail _ (.tail _ (.head _)))))))))))
      · exact LQ (⟨W2.heap.size, 1, none⟩, .int .i64 za) (.tail _ (.tail _ (.tail _ (.tail _ (.tail _ (.tail _ (.tail _ (.tail _ (.tail _ (.head _))))))))))
      · exact LQ (⟨W5.heap.size, 0, none⟩, .int .i64 sb) (.tail _ (.tail _ (.tail _ (.tail _ (.tail _ (.tail _ (.head _)))))))
      · exact LQ (⟨W5.heap.size, 1, none⟩, .int .i64 zb) (.tail _ (.tail _ (.tail _ (.tail _ (.tail _ (.head _))))))
      · exact LQ (⟨w.heap.size, 0, none⟩, .slice (some ⟨xb, xo, none⟩) r cap) (.tail _ (.tail _ (.tail _ (.tail _ (.tail _ (.tail _ (.tail _ (.tail _ (.tail _ (.tail _ (.tail _ (.tail _ (.head _)))))))))))))
      · exact LQ (⟨W1.heap.size, 0, none⟩, .int .i64 (N : Int)) (.tail _ (.tail _ (.tail _ (.tail _ (.tail _ (.tail _ (.tail _ (.tail _ (.tail _ (.tail _ (.tail _ (.head _))))))))))))
      · exact LQ (⟨W3.heap.size, 0, none⟩, .slice (some ⟨yb, yo, none⟩) s dap) (.tail _ (.tail _ (.tail _ (.tail _ (.tail _ (.tail _ (.tail _ (.tail _ (.head _)))))))))
      · exact LQ (⟨W6.heap.size, 0, none⟩, .slice (some ⟨zb', zo, none⟩) q eap) (.tail _ (.tail _ (.tail _ (.tail _ (.head _)))))
      · exact LQ (⟨w1.heap.size, 0, none⟩, .int .i64 mu) (.tail _ (.head _))
      · exact LQ (⟨U1.heap.size, 0, none⟩, .int .i64 sh) (.head _)
      · exact LQ (⟨W7.heap.size, 0, none⟩, .int .i64 sc) (.tail _ (.tail _ (.tail _ (.head _))))
      · exact LQ (⟨W7.heap.size, 1, none⟩, .int .i64 zc) (.tail _ (.tail _ (.head _)))
    refine (mat1 sa za sb zb sc zc mu sh (dotV sa za sb zb N N (fun t => X (row * N + t)) (fun t => Y (col * N + t))) (V k) (Z (col)) N q r s cap dap eap k (row * N) ((row + 1) * N) (col * N) ((col + 1) * N) (row) (col) xb xo yb yo zb' zo _ _ _ _ _ _ _ _ _ _ X Y Z Q LM IX IY hz m0 td tm (by rw [IntKind.wrap_i64]; omega) (by omega) (by rw [← Int.natCast_mul, IntKind.wrap_i64]; omega) (by rw [IntKind.wrap_i64]; omega) (by rw [show ((row : Nat) : Int) + 1 = ((row + 1 : Nat) : Int) by omega, ← Int.natCast_mul, IntKind.wrap_i64]; omega) ur vr RC.out.1 (by rw [← Int.natCast_mul, IntKind.wrap_i64]; omega) (by rw [IntKind.wrap_i64]; omega) (by rw [show ((col : Nat) : Int) + 1 = ((col + 1 : Nat) : Int) by omega, ← Int.natCast_mul, IntKind.wrap_i64]; omega) us vs RC.out.2 (by omega) r4 s4 BB.out.1.1 BB.out.1.2 BB.out.2.1 BB.out.2.2 rfl (IB.out _ colM).1 (IB.out _ colM).2 hRq)
  case refine_2 =>
    rintro e1 w5 ⟨rfl, q5, s5, b5⟩
    go_wp2_with fail
    go_ret
    exact ⟨_, _, rfl, .inr ⟨_, rfl, BL.out.size, q5⟩, BL.out.trans (b5.mono BL.out.size)⟩
end Vo
end Go.Proofs.Ytnnjkanmcfjblaa
