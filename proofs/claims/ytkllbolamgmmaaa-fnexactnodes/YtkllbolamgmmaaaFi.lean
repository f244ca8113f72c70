/- Rows of Moves: what the laws do with them. -/
import Derived.Test.YtkllbolamgmmaaaFh
namespace Go.Proofs.Ytkllbolamgmmaaa
namespace Vo
open Go.ChangeShapes Go.WideShapes Go.ChangeAt Go.RowKit Go.Joins Go.Sort
open Vl
set_option linter.unusedVariables false
set_option linter.unusedSimpArgs false
/-- how many Moves there are -/
def tot : List VM → Nat | [] => 0 | x :: L => x.l.length + tot L
/-- rows that were written over -/
def mkL : Int → List VM → List VM | _, [] => [] | k, x :: L => ⟨x.a, x.c, mkm k x.l.length⟩ :: mkL (k + 4 * (x.l.length : Int)) L
theorem mkL_len : ∀ (L : List VM) (k : Int), (mkL k L).length = L.length
  | [], _ => rfl
  | x :: L, k => by show (mkL _ L).length + 1 = _; rw [mkL_len L]; rfl
theorem tot_app : ∀ (L M : List VM), tot (L ++ M) = tot L + tot M
  | [], M => by simp [tot]
  | x :: L, M => by show _ + tot (L ++ M) = _; rw [tot_app L M]; simp [tot]; omega
theorem mkL_app : ∀ (L M : List VM) (k : Int), mkL k (L ++ M) = mkL k L ++ mkL (k + 4 * (tot L : Int)) M
  | [], M, k => by simp [mkL, tot]
  | x :: L, M, k => by
    show (⟨x.a, x.c, mkm k x.l.length⟩ : VM) :: mkL (k + 4 * (x.l.length : Int)) (L ++ M) = (⟨x.a, x.c, mkm k x.l.length⟩ : VM) :: mkL (k + 4 * (x.l.length : Int)) L ++ mkL (k + 4 * ((tot (x :: L) : Nat) : Int)) M
    rw [mkL_app L M, List.cons_append]
    congr 3
    show _ = k + 4 * ((x.l.length + tot L : Nat) : Int)
    omega
theorem tot_take {L : List VM} {j : Nat} (h : j < L.length) : tot (L.take (j + 1)) = tot (L.take j) + L[j].l.length := by
  rw [List.take_add_one, List.getElem?_eq_getElem h, tot_app]
  simp [tot]
theorem tot_le (L : List VM) (j : Nat) : tot (L.take j) ≤ tot L := by
  have := tot_app (L.take j) (L.drop j)
  rw [List.take_append_drop] at this
  omega
theorem mkL_take {L : List VM} {k : Int} {j : Nat} (h : j < L.length) : mkL k (L.take (j + 1)) = mkL k (L.take j) ++ [⟨L[j].a, L[j].c, mkm (k + 4 * (tot (L.take j) : Int)) L[j].l.length⟩] := by
  rw [List.take_add_one, List.getElem?_eq_getElem h, mkL_app]
  simp [mkL]
theorem mkL_get {L : List VM} {k : Int} {j : Nat} (h : j < L.length) (h' : j < (mkL k L).length) : (mkL k L)[j] = ⟨L[j].a, L[j].c, mkm (k + 4 * (tot (L.take j) : Int)) L[j].l.length⟩ := by
  have e : mkL k L = mkL k (L.take (j + 1)) ++ mkL (k + 4 * (tot (L.take (j + 1)) : Int)) (L.drop (j + 1)) := by rw [← mkL_app, List.take_append_drop]
  have e2 : (mkL k L)[j]? = some ⟨L[j].a, L[j].c, mkm (k + 4 * (tot (L.take j) : Int)) L[j].l.length⟩ := by
    rw [e, mkL_take h, List.append_assoc, List.getElem?_append_right (by rw [mkL_len, List.length_take]; omega), mkL_len, List.length_take, Nat.min_eq_left (by omega), Nat.sub_self]
    rfl
  rw [List.getElem?_eq_getElem h'] at e2
  exact Option.some.inj e2
theorem mkL_step {L : List VM} {k : Int} {j : Nat} (h : j < L.length) : (mkL k (L.take j) ++ L.drop j).set j ⟨L[j].a, L[j].c, mkm (k + 4 * (tot (L.take j) : Int)) L[j].l.length⟩ = mkL k (L.take (j + 1)) ++ L.drop (j + 1) := by
  rw [List.drop_eq_getElem_cons h, List.set_append_right _ _ (by rw [mkL_len, List.length_take]; omega), mkL_len, List.length_take, Nat.min_eq_left (by omega), Nat.sub_self, List.set_cons_zero, mkL_take h]
  simp
theorem mkL_at {L : List VM} {k : Int} {j : Nat} (h : j < L.length) (h' : j < (mkL k (L.take j) ++ L.drop j).length) : (mkL k (L.take j) ++ L.drop j)[j] = L[j] := by
  rw [List.getElem_append_right (by rw [mkL_len, List.length_take]; omega)]
  simp [mkL_len, List.length_take, Nat.min_eq_left (Nat.le_of_lt h)]
/-- a row is written over -/
theorem RowsM.set {E : Nat} {w w' : World} {v : Value} {L : List VM} {j : Nat} {l : List Mov} (h : RowsM E w v L) (hj : j < L.length) (hl : l.length = L[j].l.length) (ho : OM E w' L[j].a l) (hk : Kept (Blk L[j].a L[j].l.length) w w') : RowsM E w' v (L.set j ⟨L[j].a, L[j].c, l⟩) := by
  have ap := List.pairwise_iff_getElem.1 h.apart
  have key : ∀ i (hi : i < (L.set j ⟨L[j].a, L[j].c, l⟩).length), ((L.set j ⟨L[j].a, L[j].c, l⟩)[i]).a = (L[i]'(by simpa using hi)).a ∧ ((L.set j ⟨L[j].a, L[j].c, l⟩)[i]).l.length = (L[i]'(by simpa using hi)).l.length ∧ ((L.set j ⟨L[j].a, L[j].c, l⟩)[i]).c = (L[i]'(by simpa using hi)).c := by
    intro i hi
    by_cases c : j = i
    · subst c
      rw [List.getElem_set_self]
      exact ⟨rfl, hl, rfl⟩
    · rw [List.getElem_set_ne c]
      exact ⟨rfl, rfl, rfl⟩
  refine ⟨?_, fun x hx => ?_, fun x hx b hb => ?_, List.pairwise_iff_getElem.2 fun i t hi ht hit b hb hb' => ?_⟩
  · have e : hdM (L.set j ⟨L[j].a, L[j].c, l⟩) = hdM L := by
      apply List.ext_getElem?
      intro i
      by_cases c : i < L.length
      · have c' : i < (L.set j ⟨L[j].a, L[j].c, l⟩).length := by simpa using c
        rw [hdM_get c, hdM_get c']
        obtain ⟨k1, k2, k3⟩ := key i c'
        rw [k1, k2, k3]
      · rw [List.getElem?_eq_none (by rw [hdM_len]; simpa using c), List.getElem?_eq_none (by rw [hdM_len]; omega)]
    rw [e, List.length_set]
    exact rows_kept h.heads hk (fun b e q => h.ne _ (List.getElem_mem hj) b q e)
  · obtain ⟨i, hi, rfl⟩ := List.mem_iff_getElem.1 hx
    by_cases c : j = i
    · subst c
      rw [List.getElem_set_self]
      exact ho
    · rw [List.getElem_set_ne c]
      have hi : i < L.length := by simpa using hi
      refine (h.own _ (List.getElem_mem hi)).kept hk (fun b q q' => ?_)
      rcases Nat.lt_or_ge i j with z | z
      · exact ap i j hi hj z b q q'
      · exact ap j i hj hi (by omega) b q' q
  · obtain ⟨i, hi, rfl⟩ := List.mem_iff_getElem.1 hx
    obtain ⟨k1, k2, _⟩ := key i hi
    rw [k1, k2] at hb
    exact h.ne _ (List.getElem_mem (by simpa using hi)) b hb
  · obtain ⟨k1, k2, _⟩ := key i hi
    obtain ⟨q1, q2, _⟩ := key t ht
    rw [k1, k2] at hb
    rw [q1, q2] at hb'
    exact ap i t (by simpa using hi) (by simpa using ht) hit b hb hb'
/-- the rows' blocks -/
def RB (L : List VM) : Nat → Prop := fun b => ∃ x ∈ L, Blk x.a x.l.length b
theorem RowsM.lo {E : Nat} {w : World} {v : Value} {L : List VM} (h : RowsM E w v L) {b : Nat} (hb : RB L b) : E ≤ b ∧ b < w.heap.size := by
  obtain ⟨x, hx, q⟩ := hb
  exact (h.own x hx).blk q
set_option maxHeartbeats 1000000 in
theorem eqMoveSS (B : Nat) (a b : Option Addr) (n cap cap' : Nat) (L M : List VM) (w : World) (hL : L.length = n) (hB : B ≤ w.heap.size) (h : LLM B w a L) (h' : LLM B w b M) (hc : cnt L = cnt M) (hn : (n : Int) ≤ 1048576) (hl : (tot L : Int) ≤ 1048576) :
    Calls Try.prog 8 #[.slice a n cap, .slice b n cap'] w fun e w' => e = .returned (.bool true) ∧ Below w.heap.size w w' := by
  have hM : M.length = n := by rw [← cnt_len, ← hc, cnt_len, hL]
  have H := hide h
  have H' := hide h'
  have LN := hide hL
  have MN := hide hM
  have CE := hide (fun k (hk : k < L.length) (hk' : k < M.length) => show M[k].l = L[k].l from by
    have := congrArg (fun l => l[k]?) hc
    simp only [cnt, List.getElem?_map, List.getElem?_eq_getElem hk, List.getElem?_eq_getElem hk', Option.map_some] at this
    exact (Option.some.inj this).symm)
  have TL := hide (fun k (hk : k < L.length) => show (L[k].l.length : Int) ≤ 1048576 from by
    have := tot_take hk
    have := tot_le L (k + 1)
    omega)
  have c' : ((n : Int) != (n : Int)) = false := by simp
  clear h h' hL hM hc
  go_enter Try.func8, Try.ntmps8
  go_wp2_with fail
  clear c'
  go_loopw [5] (fun i wx => ∃ k : Nat, k ≤ n ∧ i = .int .i64 k ∧ Below w.heap.size w wx) (fun i _ => n - (intOf i).toNat)
  case atStart => exact ⟨0, Nat.zero_le _, rfl, Below.refl _ _⟩
  case round =>
    obtain ⟨X, rfl⟩ : ∃ X, X = wr := ⟨_, rfl⟩
    obtain ⟨k, hk, rfl, hby⟩ := hrel
    have HBY := hide hby
    clear hby
    by_cases hlt : k < n
    · have kI : (k : Int) < n := by omega
      have kL : k < L.length := by rw [LN.out]; exact hlt
      have kM : k < M.length := by rw [MN.out]; exact hlt
      rcases H.out.below (HBY.out.mono hB) with q0 | ⟨ba, oa, rfl, hba, hca, hma⟩
      · rw [q0] at kL; simp at kL
      rcases H'.out.below (HBY.out.mono hB) with q0 | ⟨bb, ob, rfl, hbb, hcb, hmb⟩
      · rw [q0] at kM; simp at kM
      have a0 := hca k kL
      have b0 := hcb k kM
      have m0 := hma _ (List.getElem_mem kL)
      have m1 := hmb _ (List.getElem_mem kM)
      have ee := CE.out k kL kM
      have lk := TL.out k kL
      rw [ee] at b0 m1
      obtain ⟨x, hx⟩ : ∃ x, L[k] = x := ⟨_, rfl⟩
      obtain ⟨y, hy⟩ : ∃ y, M[k] = y := ⟨_, rfl⟩
      rw [hx] at a0 m0 b0 m1 lk
      rw [hy] at b0 m1
      obtain ⟨xn, hxn⟩ : ∃ xn, x.l.length = xn := ⟨_, rfl⟩
      rw [hxn] at a0 b0 lk
      have CE := hide (eqMoveS B x.a y.a xn x.c y.c x.l X.drew hxn (Nat.le_trans hB (by have := HBY.out.size; exact this)) m0 m1 lk)
      clear hca hcb hma hmb m0 m1 ee lk hx hy hxn
      have F1 := hide (fun (W : World) (hW : Below X.drew.heap.size X.drew W) => show W.cell? ⟨ba, oa + k, none⟩ = some (.slice x.a xn x.c) from (hW.cell (p := ⟨ba, oa + k, none⟩) (by show ba < X.heap.size; have := HBY.out.size; omega)).trans a0)
      have F3 := hide (fun (W : World) (hW : Below X.drew.heap.size X.drew W) => show W.cell? ⟨bb, ob + k, none⟩ = some (.slice y.a xn y.c) from (hW.cell (p := ⟨bb, ob + k, none⟩) (by show bb < X.heap.size; have := HBY.out.size; omega)).trans b0)
      go_wp2_with fail
      go_region_held3 (fun w' => w'.cell? ⟨ba, oa + k, none⟩ = some (.slice x.a xn x.c) ∧ w'.cell? ⟨bb, ob + k, none⟩ = some (.slice y.a xn y.c))
        ((try dsimp only) <;> (repeat' apply And.intro) <;> (first | with_reducible assumption | assumption))
        (first
        | (go_at_call 23
           refine CE.out.mono ?_
           rintro e X1 ⟨rfl, bX⟩
           have f1 := F1.out X1 bX
           have f3 := F3.out X1 bX
           have BX := hide bX
           clear bX))
      all_goals (go_wp2_with fail)
      all_goals go_roundw
      all_goals first
        | (simp only [intOf]; omega)
        | (simp [intOf]; omega)
        | exact ⟨k + 1, by omega, by go_num, HBY.out.drew.trans (BX.out.mono HBY.out.size)⟩
    · obtain rfl : k = n := by omega
      go_wp2_with fail
      go_ret
      exact ⟨rfl, HBY.out⟩
set_option maxHeartbeats 1000000 in
theorem markMoveSS (E : Nat) (a : Option Addr) (n cap : Nat) (L : List VM) (k : Int) (w : World) (hL : L.length = n) (h : RowsM E w (.slice a n cap) L) (hn : (n : Int) ≤ 1048576) (hl : (tot L : Int) ≤ 1048576) (k0 : 0 ≤ k) (k1 : k ≤ 1048576) :
    Calls Try.prog 9 #[.slice a n cap, .int .i64 k] w fun e w' => e = .returned (.int .i64 (k + 4 * tot L)) ∧ RowsM E w' (.slice a n cap) (mkL k L) ∧ Kept (RB L) w w' := by
  have H := hide h
  have LN := hide hL
  have TT := hide (fun j (hj : j < L.length) => tot_take hj)
  have TE := hide (fun j => tot_le L j)
  clear h hL
  go_enter Try.func9, Try.ntmps9
  go_wp2_with fail
  go_loopw [1, 5] (fun c i wx => ∃ j : Nat, j ≤ n ∧ c = .int .i64 (k + 4 * (tot (L.take j) : Int)) ∧ i = .int .i64 j ∧ RowsM E wx (.slice a n cap) (mkL k (L.take j) ++ L.drop j) ∧ Kept (RB L) w wx) (fun _ i _ => n - (intOf i).toNat)
  case atStart => exact ⟨0, Nat.zero_le _, by simp [tot], rfl, H.out, Kept.refl _ _⟩
  case round =>
    obtain ⟨X, rfl⟩ : ∃ X, X = wr := ⟨_, rfl⟩
    obtain ⟨j, hj, rfl, rfl, hw, hk⟩ := hrel
    have HW := hide hw
    have HK := hide hk
    by_cases hlt : j < n
    · have kI : (j : Int) < n := by omega
      have jL : j < L.length := by rw [LN.out]; exact hlt
      have jM : j < (mkL k (L.take j) ++ L.drop j).length := by rw [List.length_append, mkL_len, List.length_take, List.length_drop]; omega
      have lenM : (mkL k (L.take j) ++ L.drop j).length = n := by rw [List.length_append, mkL_len, List.length_take, List.length_drop, LN.out]; omega
      have at0 := mkL_at jL jM
      obtain ⟨g, cap', e, h1, h2⟩ := World.ownsRow.form hw.heads (by omega)
      injection e with e1 e2 e3
      subst e1
      have hh := hw.heads
      rw [lenM] at hh
      have c0 := hh.cellAt j (by omega)
      rw [hdM_get jM, at0] at c0
      have ow := hw.own _ (List.getElem_mem jM)
      rw [at0] at ow
      have t1 := TT.out j jL
      have t2 := TE.out j
      have t3 := TE.out (j + 1)
      have SE := hide (fun (w' : World) (ho : OM E w' L[j].a (mkm (k + 4 * (tot (L.take j) : Int)) L[j].l.length)) (hk : Kept (Blk L[j].a L[j].l.length) X w') => show RowsM E w' (.slice (some ⟨g, 0, none⟩) n cap) (mkL k (L.take (j + 1)) ++ L.drop (j + 1)) from by
        have := HW.out.set jM (l := mkm (k + 4 * (tot (L.take j) : Int)) L[j].l.length) (by rw [mkm_len, at0]) (by rw [at0]; exact ho) (by rw [at0]; exact hk)
        rw [at0, mkL_step jL] at this
        exact this)
      have RBJ := hide (fun b (hb : Blk L[j].a L[j].l.length b) => show RB L b from ⟨_, List.getElem_mem jL, hb⟩)
      obtain ⟨S, hS⟩ : ∃ S : Int, k + 4 * (tot (L.take j) : Int) = S := ⟨_, rfl⟩
      have hS2 : k + 4 * (tot (L.take (j + 1)) : Int) = S + 4 * (L[j].l.length : Int) := by omega
      have ES := hide hS2
      have s0 : 0 ≤ S := by omega
      have s1 : S ≤ 8388608 := by omega
      have xl : (L[j].l.length : Int) ≤ 1048576 := by omega
      rw [hS] at SE ⊢
      obtain ⟨x, hx⟩ : ∃ x, L[j] = x := ⟨_, rfl⟩
      rw [hx] at c0 ow SE RBJ ES xl
      obtain ⟨xn, hxn⟩ : ∃ xn, x.l.length = xn := ⟨_, rfl⟩
      have CT := hide (markMoveS E x.a xn x.c x.l S X hxn ow (by omega) s0 (by omega))
      rw [hxn] at c0 SE RBJ ES xl
      clear hw hk hh e2 e3 h1 h2 at0 ow t1 t2 t3 hS hS2 hx hxn lenM
      go_wp2_with fail
      refine CT.out.mono ?_
      rintro e X1 ⟨rfl, ho, hk⟩
      have HO := hide (SE.out X1 ho hk)
      have HX := hide (HK.out.trans (hk.mono (fun b _ q => RBJ.out b q)))
      clear ho hk CT SE
      go_wp2_with fail
      go_roundw
      all_goals first
        | (simp only [intOf]; omega)
        | (simp [intOf]; omega)
        | exact ⟨j + 1, by omega, by rw [ES.out], by go_num, HO.out, HX.out⟩
    · obtain rfl : j = n := by omega
      go_wp2_with fail
      go_ret
      rw [List.take_of_length_le (l := L) (i := j) (Nat.le_of_eq LN.out)]
      rw [List.take_of_length_le (l := L) (i := j) (Nat.le_of_eq LN.out), List.drop_of_length_le (l := L) (i := j) (Nat.le_of_eq LN.out), List.append_nil] at hw
      exact ⟨rfl, hw, hk⟩
set_option maxHeartbeats 1000000 in
theorem heldMoveSS (B : Nat) (a : Option Addr) (n cap : Nat) (L : List VM) (k : Int) (w : World) (hL : L.length = n) (h : LLM B w a (mkL k L)) (hn : (n : Int) ≤ 1048576) (hl : (tot L : Int) ≤ 1048576) (k0 : 0 ≤ k) (k1 : k ≤ 1048576) :
    Calls Try.prog 10 #[.slice a n cap, .int .i64 k] w fun e w' => e = .returned (.int .i64 (k + 4 * tot L)) ∧ w' = w := by
  have H := hide h
  have LN := hide hL
  have TT := hide (fun j (hj : j < L.length) => tot_take hj)
  have TE := hide (fun j => tot_le L j)
  clear h hL
  go_enter Try.func10, Try.ntmps10
  go_wp2_with fail
  go_loopw [1, 5] (fun c i wx => ∃ j : Nat, j ≤ n ∧ c = .int .i64 (k + 4 * (tot (L.take j) : Int)) ∧ i = .int .i64 j ∧ wx = w) (fun _ i _ => n - (intOf i).toNat)
  case atStart => exact ⟨0, Nat.zero_le _, by simp [tot], rfl, rfl⟩
  case round =>
    obtain ⟨j, hj, rfl, rfl, rfl⟩ := hrel
    by_cases hlt : j < n
    · have kI : (j : Int) < n := by omega
      have jL : j < L.length := by rw [LN.out]; exact hlt
      have jM : j < (mkL k L).length := by rw [mkL_len]; exact jL
      rcases H.out with q0 | ⟨blk, off, rfl, hbB, hc, hm⟩
      · rw [q0] at jM; simp at jM
      have c0 := hc j jM
      have i0 := hm _ (List.getElem_mem jM)
      rw [mkL_get jL jM] at c0 i0
      dsimp only at c0 i0
      rw [mkm_len] at c0
      have t1 := TT.out j jL
      have t2 := TE.out j
      have t3 := TE.out (j + 1)
      obtain ⟨S, hS⟩ : ∃ S : Int, k + 4 * (tot (L.take j) : Int) = S := ⟨_, rfl⟩
      have hS2 : k + 4 * (tot (L.take (j + 1)) : Int) = S + 4 * (L[j].l.length : Int) := by omega
      have ES := hide hS2
      have s0 : 0 ≤ S := by omega
      have s1 : S ≤ 8388608 := by omega
      have xl : (L[j].l.length : Int) ≤ 1048576 := by omega
      rw [hS] at i0 ⊢
      obtain ⟨x, hx⟩ : ∃ x, L[j] = x := ⟨_, rfl⟩
      rw [hx] at c0 i0 ES xl
      obtain ⟨xn, hxn⟩ : ∃ xn, x.l.length = xn := ⟨_, rfl⟩
      rw [hxn] at c0 i0 ES xl
      have CT := hide (heldMoveS B x.a xn x.c S wr i0 (by omega) s0 (by omega))
      have hd : decide (S + 4 * (xn : Int) < 0) = false := by rw [decide_eq_false_iff_not]; omega
      clear hc hm i0 t1 t2 t3 hS hS2 hx hxn
      go_wp2_with fail
      refine CT.out.mono ?_
      rintro e X1 ⟨rfl, rfl⟩
      clear CT
      go_wp2_with fail
      go_roundw
      all_goals first
        | (simp only [intOf]; omega)
        | (simp [intOf]; omega)
        | exact ⟨j + 1, by omega, by rw [ES.out], by go_num, trivial⟩
    · obtain rfl : j = n := by omega
      go_wp2_with fail
      go_ret
      rw [List.take_of_length_le (l := L) (i := j) (Nat.le_of_eq LN.out)]
      exact ⟨rfl, rfl⟩
end Vo
end Go.Proofs.Ytkllbolamgmmaaa
