/- Lemmas for the proof of the law. -/
import Derived.Test.YtejfodkobfdelaaMgaf
import Derived.Test.YtejfodkobfdelaaMgad
/- eachPlace's walk. -/
namespace Go.Proofs.Ytejfodkobfdelaa
namespace Vo
open Go.ChangeShapes Go.WideShapes Go.ChangeAt Go.RowKit Go.Joins
open Vl Vp Vr
set_option linter.unusedVariables false
attribute [local go_sem] Oper.semAt_some

set_option maxRecDepth 100000 in
set_option maxHeartbeats 4000000 in
theorem eachPlace1 (p B : Nat) (a b : Option Addr) (r s cap dap : Nat) (D S : Nat → Int) (o n : Int) (own : Nat → Prop) (w : World) (hx : Box w p (.slice a r cap) (.slice b s dap) (.int .i64 o) (.int .i64 n)) (hp : p < w.heap.size) (hpo : ¬ own p) (hown : ∀ k, own k → k < w.heap.size)
    (hB : B ≤ w.heap.size) (h : Ints B w a r D) (h' : Ints B w b s S) (hBo : ∀ k, k < B → ¬ own k) (hr : (r : Int) ≤ 1048576) (hs : (s : Int) ≤ 1048576) :
    SeqN Try.prog 102 #[.pointer (some ⟨p, 0, none⟩)] (fun k => #[.int .i64 (o + rel D S r k)]) (cnt r s D S o n) own w := by
  intro J Jx W hW hWs hJ hJx hY h0
  have X := hide (hx.below hW hp)
  have H := hide (h.below (hW.mono hB))
  have H' := hide (h'.below (hW.mono hB))
  have HJ := hide hJ
  have HJx := hide hJx
  have HY := hide hY
  have H0 := hide h0
  have HOwn := hide hown
  have HBo := hide hBo
  clear hx h h' hJ hJx hY h0 hown hBo
  generalize hz : w.heap.size = z at *
  obtain ⟨x0, x1, x2, x3⟩ := X.out
  show Calls Try.prog 102 #[.func (.yield (z + 1)) #[] #[], .pointer (some ⟨p, 0, none⟩)] W _
  go_enter Try.func102, Try.ntmps102
  go_wp2_with fail
  refine (viewOk B a b r s cap dap D S o n _ (by omega) H.out H'.out hr hs).mono ?_
  rintro e w1 ⟨rfl, b1⟩
  have B1 := hide b1
  have X1 := hide (X.out.below b1 (by omega))
  clear x0 x1 x2 x3 b1
  obtain ⟨x0, x1, x2, x3⟩ := X1.out
  have J1 := hide (HJ.out 0 W w1 H0.out (B1.out.mono (by omega)))
  cases hv : vok r s D S o n with
  | false =>
    have e := hide (show cnt r s D S o n = 0 by unfold cnt; rw [hv]; simp)
    clear hv
    go_wp2_with fail
    refine bodyPost_ret (results_none rfl _ _ _) rfl ⟨⟨_, rfl⟩, .inl ?_⟩
    rw [e.out]; exact J1.out
  | true =>
    have V := hide (vok_iff.1 hv)
    have CN := hide (show ((cnt r s D S o n : Nat) : Int) = pr D r by
      unfold cnt; rw [if_pos hv]
      have hd := (vok_iff.1 hv).1
      have h0 := (dok_iff.1 hd).2
      rcases szR_cases D r with q | ⟨_, q, _, _⟩
      · omega
      · rw [← q]; omega)
    clear hv
    obtain ⟨N, hN⟩ : ∃ N, cnt r s D S o n = N := ⟨_, rfl⟩
    have HNN := hide hN
    rw [hN] at CN
    clear hN
    have r6 : (r : Int) ≤ 6 := by have := (dok_iff.1 V.out.1).1; omega
    obtain rfl : s = r := V.out.2.1
    have HD := hide (fun j (hj : j < s) => V.out.len hj)
    have HS := hide V.out.2.2.2.2.2.2.1
    have hmk := make_int s (by omega)
    have o1 : 0 ≤ o := V.out.2.2.2.2.1
    have o2 : o ≤ 4096 := by have := V.out.2.2.2.1; have := V.out.2.2.2.2.2.1; omega
    go_wp2_with fail
    go_region_held3 (fun w' => w'.cell? ⟨p, 0, none⟩ = some (.slice a s cap) ∧ w'.cell? ⟨p, 1, none⟩ = some (.slice b s dap) ∧ w'.cell? ⟨p, 2, none⟩ = some (.int .i64 o) ∧ w'.cell? ⟨p, 3, none⟩ = some (.int .i64 n))
      ((try dsimp only) <;> (repeat' apply And.intro) <;> (repeat (first | with_reducible assumption | with_reducible apply drew_old | with_reducible apply alloc_old)))
      (fail)
    go_wp2_with fail
    have b2 : Below w1.heap.size w1 (w1.alloc (.cells (madeCells #[.int .i64 0] s) 3)).drew := ((Below.refl _ w1).alloc (Nat.le_refl _) _).drew
    have rn : Rw (w1.alloc (.cells (madeCells #[.int .i64 0] s) 3)).drew w1.heap.size s (dg D s 0) := (rw_new w1 s 3).same (fun t ht => dg_zero D s t)
    have sz1 := B1.out.size
    have J2 := hide (HJ.out 0 w1 _ J1.out (b2.mono (by omega)))
    have X2 := hide (X1.out.below b2 (by omega))
    have Ha := hide ((H.out.below (B1.out.mono (by omega))).below (b2.mono (by omega)))
    have Hb := hide ((H'.out.below (B1.out.mono (by omega))).below (b2.mono (by omega)))
    have lg : w1.heap.size < (w1.alloc (.cells (madeCells #[.int .i64 0] s) 3)).drew.heap.size := by show w1.heap.size < (w1.alloc (.cells (madeCells #[.int .i64 0] s) 3)).heap.size; simp
    have NP : 1 ≤ N := by have := CN.out; have := pr_pos (D := D) (r := s) (fun j hj => (HD.out j hj).1); omega
    generalize hg : w1.heap.size = g at *
    clear b2 x0 x1 x2 x3
    go_loopg [4] N (fun m pl wx => ∃ k : Nat, k + m = N ∧ 1 ≤ m ∧ pl = .int .i64 (o + rel D S s k) ∧ Rw wx g s (dg D s k) ∧ J k wx ∧ Box wx p (.slice a s cap) (.slice b s dap) (.int .i64 o) (.int .i64 n) ∧ Ints B wx a s D ∧ Ints B wx b s S ∧ g < wx.heap.size)
    case atStart => exact ⟨0, by omega, NP, by rw [show ((0 : Nat) : Int) = 0 from rfl, rel_zero]; simp, rn, J2.out, X2.out, Ha.out, Hb.out, lg⟩
    case round =>
      obtain ⟨k, hkm, hm1, rfl, hrw, hj, hbx, ha, hb, hgl⟩ := hrel
      have hkN : k < N := by omega
      have HkN := hide hkN
      obtain ⟨fn, tmps, asg, bdy, hy, hR⟩ := HY.out k wr hj (by rw [HNN.out]; exact hkN)
      have RW := hide hrw
      have BX := hide hbx
      have HA := hide ha
      have HB := hide hb
      have HR := hide hR
      clear hrw hbx ha hb hR hj rn
      go_step
      go_step
      refine (wpIn_wide (n := 0)).1 ?_
      gi_wp2
      refine ⟨rfl, HR.out.mono ?_⟩
      rintro e A (⟨rfl, hj1, hk1⟩ | ⟨rfl, hjx, hk1⟩)
      rotate_left
      · have JX := hide hjx
        clear hjx hk1 HR hy
        gi_wp2
        go_wp2_with fail
        refine bodyPost_end (results_none rfl _ _ _) rfl ⟨⟨_, rfl⟩, .inr ⟨k, by rw [HNN.out]; exact HkN.out, JX.out⟩⟩
      · have nt : ∀ t, (z + 2 ≤ t ∨ (t < z ∧ ¬ own t)) → ¬ Turn own z t := by
          rintro t ht (e | e | e)
          · have := HOwn.out t e
            rcases ht with ht | ht
            · omega
            · exact ht.2 e
          · omega
          · omega
        have sA := hk1.size
        have RW1 := hide (RW.out.kept hk1 (nt g (.inl (by omega))))
        have BX1 := hide (BX.out.kept hk1 (by omega) (nt p (.inr ⟨by omega, hpo⟩)))
        have HA1 := hide (HA.out.kept (by omega) hk1 (fun t ht => nt t (.inr ⟨by omega, HBo.out t ht⟩)))
        have HB1 := hide (HB.out.kept (by omega) hk1 (fun t ht => nt t (.inr ⟨by omega, HBo.out t ht⟩)))
        have JK := hide hj1
        have gA : g < A.heap.size := by omega
        clear hj1 hk1 nt HR hy RW BX HA HB
        gi_wp2
        go_wp2_with fail
        go_loopw [4, 5] (fun pl ax wx => ∃ (m : Nat) (q : Int), pl = .int .i64 (o + rel D S m q) ∧ ax = .int .i64 ((m : Int) - 1) ∧ Odo D S s k m q ∧ Rw wx g s (fun j => if j < m then dg D m q j else 0) ∧ J (k + 1) wx ∧ Box wx p (.slice a s cap) (.slice b s dap) (.int .i64 o) (.int .i64 n) ∧ Ints B wx a s D ∧ Ints B wx b s S ∧ g < wx.heap.size) (fun _ ax _ => (intOf ax + 1).toNat)
        case atStart => exact ⟨s, k, rfl, rfl, Odo.start (by omega) (by have := CN.out; omega), RW1.out.same (fun t ht => by rw [if_pos ht]), JK.out, BX1.out, HA1.out, HB1.out, gA⟩
        case round =>
          obtain ⟨m, q, rfl, hax, hod, hrw, hj, hbx, ha, hb, hgl2⟩ := hrel
          have OD := hide hod
          have RW := hide hrw
          have BX := hide hbx
          have HA := hide ha
          have HB := hide hb
          have JJ := hide hj
          obtain ⟨x0, x1, x2, x3⟩ := BX.out
          clear hod hbx ha hb hj
          rcases m with _ | m
          · have hax2 : _ = Value.int .i64 (-1) := hax
            subst hax2
            have eN := hide (show k + 1 = N by have := OD.out.last; have := CN.out; omega)
            clear hrw
            go_wp2_with fail
            go_quiet (fail)
            go_wp2_with fail
            refine bodyPost_ret (results_none rfl _ _ _) rfl ⟨⟨_, rfl⟩, .inl ?_⟩
            rw [HNN.out, ← eN.out]
            exact HJ.out _ _ _ JJ.out (below_drewN (Below.refl _ _) _)
          · rw [show (((m + 1 : Nat) : Int) - 1) = (m : Int) by omega] at hax
            subst hax
            have hms : m < s := by have := OD.out.1; omega
            have mI : (m : Int) < s := by omega
            obtain ⟨c1, f1, _⟩ := hrw m hms
            dsimp only at c1
            rw [if_pos (by omega), show dg D (m + 1) q m = q % D m by simp [dg]] at c1
            rcases HA.out with h0 | ⟨ba, offa, rfl, hbB, hc⟩
            · omega
            rcases HB.out with h0 | ⟨bb, offb, rfl, hbB', hc'⟩
            · omega
            have c2 := (hc m hms).1
            have c3 := (hc' m hms).1
            obtain ⟨d1, d2⟩ := HD.out m hms
            obtain ⟨s1, s2⟩ := HS.out m hms
            have q0 := OD.out.2.1
            have z1 : 0 ≤ q % D m := Int.emod_nonneg _ (by omega)
            have z2 : q % D m < D m := Int.emod_lt_of_pos _ (by omega)
            have rb := reach_bd (d := q % D m + 1) (by omega) (by omega) s1 s2
            rw [Int.add_sub_cancel] at rb
            obtain ⟨r1, r2⟩ := rb
            have lh := lohi_bd (m + 1) (fun j hj => HD.out j (by omega)) (fun j hj => HS.out j (by omega))
            have rl := rel_bd (S := S) (m + 1) (fun j hj => (HD.out j (by omega)).1) q
            have re := hide (show rel D S (m + 1) q = (q % D m) * S m + rel D S m (q / D m) from rfl)
            obtain ⟨l1, l2, l3, l4⟩ := lh
            obtain ⟨t1, t2⟩ := rl
            have ne1 : ba ≠ g := by omega
            have ne2 : bb ≠ g := by omega
            have ne3 : p ≠ g := by omega
            clear hrw hc hc'
            by_cases hq : q % D m = D m - 1
            · have p1 : (q % D m == D m - 1) = true := beq_iff_eq.2 hq
              have OD2 := hide (OD.out.step d1 hq)
              clear hq
              go_wp2_with fail
              go_quiet (fail)
              go_wp2_with fail
              go_quiet (fail)
              go_wp2_with fail
              go_roundw
              case rel =>
                have b5 : ∀ n1 : Nat, Below g wr ((wr.drewN n1).setCell ⟨g, m, none⟩ (.int .i64 0)) := fun n1 => (below_drewN (Below.refl _ _) _).setCell (p := ⟨g, m, none⟩) (Nat.le_refl _) _
                refine ⟨m, q / D m, congrArg (Value.int .i64) (by rw [re.out]; omega), rfl, OD2.out, ((RW.out.below (below_drewN (Below.refl wr.heap.size wr) _) hgl2).set m 0 (by unfold bd; omega)).same (fun t ht => ?_), HJ.out _ _ _ JJ.out ((b5 _).mono (by omega)), BX.out.below (b5 _) (by omega), HA.out.below (Below.mono (B' := B) (b5 _) (by omega)), HB.out.below (Below.mono (B' := B) (b5 _) (by omega)), Nat.lt_of_lt_of_le hgl2 (b5 _).size⟩
                by_cases e : t = m
                · subst e; simp
                · by_cases l : t < m
                  · rw [if_pos l, if_neg e, if_pos (by omega)]; simp only [dg]; rw [if_neg e]
                  · rw [if_neg l, if_neg e, if_neg (by omega)]
              case measure => simp [intOf] <;> omega
            · have p1 : (q % D m == D m - 1) = false := beq_eq_false_iff_ne.2 hq
              have NX := hide (OD.out.next d1 hq)
              have nk := hide (show k + 1 < N by have := NX.out.1; have := CN.out; omega)
              clear hq
              go_wp2_with fail
              go_quiet (fail)
              go_wp2_with fail
              go_roundg (gk - 1)
              case rel =>
                have b5 : ∀ n1 : Nat, Below g wr ((wr.drewN n1).setCell ⟨g, m, none⟩ (.int .i64 (q % D m + 1))) := fun n1 => (below_drewN (Below.refl _ _) _).setCell (p := ⟨g, m, none⟩) (Nat.le_refl _) _
                have nk' := nk.out
                refine ⟨k + 1, by omega, by omega, congrArg (Value.int .i64) (by rw [show ((k + 1 : Nat) : Int) = (k : Int) + 1 from rfl, NX.out.2.2, re.out, Int.add_mul, Int.one_mul]; omega), ((RW.out.below (below_drewN (Below.refl wr.heap.size wr) _) hgl2).set m (q % D m + 1) (by unfold bd; omega)).same (fun t ht => ?_), HJ.out _ _ _ JJ.out ((b5 _).mono (by omega)), BX.out.below (b5 _) (by omega), HA.out.below (Below.mono (B' := B) (b5 _) (by omega)), HB.out.below (Below.mono (B' := B) (b5 _) (by omega)), Nat.lt_of_lt_of_le hgl2 (b5 _).size⟩
                rw [show ((k + 1 : Nat) : Int) = (k : Int) + 1 from rfl, NX.out.2.1 t ht]
                by_cases e : t = m
                · subst e; simp
                · by_cases l : t < m
                  · rw [if_pos l, if_neg e, if_pos (by omega)]; simp only [dg]; rw [if_neg e]
                  · rw [if_neg l, if_neg e, if_neg e, if_neg (by omega)]
              case measure => omega
end Vo
end Go.Proofs.Ytejfodkobfdelaa

/- Places that are there twice, places that meet: plain, and Twice on the model's side. -/
namespace Go.Proofs.Ytejfodkobfdelaa
namespace Vo
open Go.ChangeShapes Go.WideShapes Go.ChangeAt Go.RowKit Go.Joins
open Vl Vp
set_option linter.unusedVariables false

def memB (f : Nat → Int) : Nat → Int → Bool | 0, _ => false | n + 1, x => memB f n x || (f n == x)
def dupB (f : Nat → Int) : Nat → Bool | 0 => false | n + 1 => dupB f n || memB f n (f n)
/-- is one of the first n of g among the first m of f? -/
def metB (f : Nat → Int) (m : Nat) (g : Nat → Int) : Nat → Bool | 0 => false | n + 1 => metB f m g n || memB f m (g n)
theorem dupB_mono {f : Nat → Int} {n m : Nat} (h : dupB f n = true) (hm : n ≤ m) : dupB f m = true := by
  induction m with
  | zero => obtain rfl : n = 0 := by omega
            exact h
  | succ m ih =>
    by_cases e : n = m + 1
    · rw [← e]; exact h
    · simp only [dupB]; rw [ih (by omega)]; rfl
theorem metB_mono {f g : Nat → Int} {k n m : Nat} (h : metB f k g n = true) (hm : n ≤ m) : metB f k g m = true := by
  induction m with
  | zero => obtain rfl : n = 0 := by omega
            exact h
  | succ m ih =>
    by_cases e : n = m + 1
    · rw [← e]; exact h
    · simp only [metB]; rw [ih (by omega)]; rfl
/-- a row of flags of one's own -/
def Bw (w : World) (g n : Nat) (f : Nat → Bool) : Prop := ∀ t, t < n → w.cell? ⟨g, t, none⟩ = some (.bool (f t)) ∧ w.frozen? ⟨g, t, none⟩ = false
theorem Bw.below {B : Nat} {w w' : World} {g n : Nat} {f : Nat → Bool} (h : Bw w g n f) (hb : Below B w w') (hg : g < B) : Bw w' g n f := fun t ht =>
  ⟨(hb.cell (p := ⟨g, t, none⟩) hg).trans (h t ht).1, (hb.frozen (p := ⟨g, t, none⟩) hg).trans (h t ht).2⟩
theorem Bw.same {w : World} {g n : Nat} {f f' : Nat → Bool} (h : Bw w g n f) (e : ∀ t, t < n → f' t = f t) : Bw w g n f' := fun t ht => by rw [e t ht]; exact h t ht
theorem Bw.set {w : World} {g n : Nat} {f : Nat → Bool} (h : Bw w g n f) (j : Nat) : Bw (w.setCell ⟨g, j, none⟩ (.bool true)) g n (fun t => f t || (j == t)) := by
  intro t ht
  rw [World.frozen?_setCell]
  by_cases c : t = j
  · subst c
    rw [World.cell?_setCell_same _ _ _ (h t ht).1]
    refine ⟨by simp, (h t ht).2⟩
  · rw [World.cell?_setCell_other _ _ _ _ (by intro e; cases e; exact c rfl)]
    dsimp only
    rw [show (j == t) = false by rw [beq_eq_false_iff_ne]; omega, Bool.or_false]
    exact h t ht
theorem bw_new (w : World) (n : Nat) (ty : TypeId) : Bw (w.alloc (.cells (madeCells #[.bool false] n) ty)) w.heap.size n (fun _ => false) := by
  intro t ht
  refine ⟨?_, ?_⟩
  · rw [World.cell?_alloc_at _ _ _ _ rfl]
    simp [madeCells, ht, Nat.mod_one]
  · simp [go_sem]
theorem memB_step (f : Nat → Int) (k j : Nat) (hj : f k = j) (t : Nat) : memB f (k + 1) t = (memB f k t || (j == t)) := by
  simp only [memB]; rw [hj]; congr 1
  rw [Bool.eq_iff_iff]; simp; omega
/-- the k-th place, as a number of the list -/
def plcN (D S : Nat → Int) (r : Nat) (o : Int) : Nat → Int := fun k => o + rel D S r k

def cntS (r s : Nat) (D S : Nat → Int) (o n : Int) : Nat := if vok r s D S o n = true then (szR D r).toNat else 0
theorem cntS_no {r s : Nat} {D S : Nat → Int} {o n : Int} (h : vok r s D S o n = false) : cntS r s D S o n = 0 := by unfold cntS; rw [h]; simp
theorem cntS_yes {r s : Nat} {D S : Nat → Int} {o n : Int} (h : vok r s D S o n = true) : ((cntS r s D S o n : Nat) : Int) = szR D r := by unfold cntS; rw [if_pos h]; have := (szR_rng D r).1; omega
end Vo
end Go.Proofs.Ytejfodkobfdelaa
