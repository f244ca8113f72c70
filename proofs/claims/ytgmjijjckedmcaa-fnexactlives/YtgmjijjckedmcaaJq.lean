/- What is given, told by the program. -/
import Derived.Test.YtgmjijjckedmcaaJp
import Derived.Test.YtgmjijjckedmcaaQg
import Derived.Shelf.Abstract
namespace Go.Proofs.Ytgmjijjckedmcaa
namespace Vo
open Go.ChangeShapes Go.WideShapes Go.ChangeAt Go.RowKit Go.Joins Go.Sort
open Vl Vp
set_option linter.unusedVariables false
set_option linter.unusedSimpArgs false
section
variable {o : Oper} {A : Act} {w : World} {x y z : Operand} {b f : Nat} {v0 v1 : Value} {a a' : Option Addr} {r c r' c' : Nat}
theorem qFieldF0 (ho : o.op = .fieldAddr 83 x 0) (hx : A.eval x = .pointer (some ⟨b, 0, none⟩)) : (execOp A.eval o).run Try.prog w = .ok (.value (.pointer (some ⟨b, 0, none⟩))) w := by
  unfold execOp
  rw [ho]
  simp only [hx]
  go_simp
theorem qFieldF1 (ho : o.op = .fieldAddr 83 x 1) (hx : A.eval x = .pointer (some ⟨b, 0, none⟩)) : (execOp A.eval o).run Try.prog w = .ok (.value (.pointer (some ⟨b, 1, none⟩))) w := by
  unfold execOp
  rw [ho]
  simp only [hx]
  go_simp
theorem qFieldN0 (ho : o.op = .fieldAddr 33 x 0) (hx : A.eval x = .pointer (some ⟨b, 0, none⟩)) : (execOp A.eval o).run Try.prog w = .ok (.value (.pointer (some ⟨b, 0, none⟩))) w := by
  unfold execOp
  rw [ho]
  simp only [hx]
  go_simp
theorem qLoadI (ho : o.op = .load 3 x) (hx : A.eval x = .pointer (some ⟨b, f, none⟩)) (h : w.cell? ⟨b, f, none⟩ = some v0) : (execOp A.eval o).run Try.prog w = .ok (.value v0) w := by
  unfold execOp
  rw [ho]
  simp only [hx]
  go_simp
theorem qLoadB (ho : o.op = .load 4 x) (hx : A.eval x = .pointer (some ⟨b, f, none⟩)) (h : w.cell? ⟨b, f, none⟩ = some v0) : (execOp A.eval o).run Try.prog w = .ok (.value v0) w := by
  unfold execOp
  rw [ho]
  simp only [hx]
  go_simp
theorem qLoadS (ho : o.op = .load 22 x) (hx : A.eval x = .pointer (some ⟨b, f, none⟩)) (h : w.cell? ⟨b, f, none⟩ = some v0) : (execOp A.eval o).run Try.prog w = .ok (.value v0) w := by
  unfold execOp
  rw [ho]
  simp only [hx]
  go_simp
theorem qLenI (ho : o.op = .call { callee := .builtin .len, args := #[x], argTypes := #[22] }) (hx : A.eval x = .slice a r c) : (execOp A.eval o).run Try.prog w = .ok (.value (.int .i64 (r : Int))) w := by
  unfold execOp
  rw [ho]
  simp only [resolve, invoke, List.map_toArray, List.map_cons, List.map_nil, hx]
  go_simp
theorem qBuild1 {u : Int} (ho : o.op = .buildSlice 22 1 #[(0, x)]) (hx : A.eval x = .int .i64 u) : (execOp A.eval o).run Try.prog w = .ok (.value (.slice (some ⟨w.heap.size, 0, none⟩) 1 1)) (w.alloc (.cells #[.int .i64 u] 3)) := by
  unfold execOp
  rw [ho]
  simp only [List.map_toArray, List.map_cons, List.map_nil, hx]
  go_simp
theorem qNot {t : Bool} (ho : o.op = .unOp .not 4 x) (hx : A.eval x = .bool t) : (execOp A.eval o).run Try.prog w = .ok (.value (.bool (!t))) w := by
  unfold execOp
  rw [ho]
  simp only [hx]
  go_simp
theorem qPickT (ho : o.op = .pick x y z) (hx : A.eval x = .bool true) (hy : A.eval y = v0) : (execOp A.eval o).run Try.prog w = .ok (.value v0) w := by
  unfold execOp
  rw [ho]
  simp only [hx, hy]
  go_simp
theorem qPickF (ho : o.op = .pick x y z) (hx : A.eval x = .bool false) (hy : A.eval z = v0) : (execOp A.eval o).run Try.prog w = .ok (.value v0) w := by
  unfold execOp
  rw [ho]
  simp only [hx, hy]
  go_simp
theorem qIdxI {n j : Nat} (ho : o.op = .indexAddr 22 x y) (hx : A.eval x = .slice (some ⟨b, f, none⟩) n c) (hy : A.eval y = .int .i64 ((j : Nat) : Int)) (hj : j < n) : (execOp A.eval o).run Try.prog w = .ok (.value (.pointer (some ⟨b, f + j, none⟩))) w := by
  have hj' : (j : Int) < (n : Int) := by omega
  unfold execOp
  rw [ho]
  simp only [hx, hy]
  go_simp
theorem qIdxB {n j : Nat} (ho : o.op = .indexAddr 96 x y) (hx : A.eval x = .slice (some ⟨b, 0, none⟩) n c) (hy : A.eval y = .int .i64 ((j : Nat) : Int)) (hj : j < n) : (execOp A.eval o).run Try.prog w = .ok (.value (.pointer (some ⟨b, j, none⟩))) w := by
  have hj' : (j : Int) < (n : Int) := by omega
  unfold execOp
  rw [ho]
  simp only [hx, hy]
  go_simp
end
/-- a list of one number -/
def Ls1 (u : Int) (v : Value) (wx : World) : Prop := ∃ g, v = .slice (some ⟨g, 0, none⟩) 1 1 ∧ Ints wx.heap.size wx (some ⟨g, 0, none⟩) 1 (fun _ => u)
theorem Ls1.below {u : Int} {v : Value} {w1 w2 : World} (h : Ls1 u v w1) (hb : Below w1.heap.size w1 w2) : Ls1 u v w2 := by
  obtain ⟨g, e, r⟩ := h
  exact ⟨g, e, (r.below hb).mono hb.size⟩
theorem ls1_new (w : World) (u : Int) (hu : bd u) : Ls1 u (.slice (some ⟨w.heap.size, 0, none⟩) 1 1) (w.alloc (.cells #[.int .i64 u] 3)) := by
  refine ⟨_, rfl, .inr ⟨_, _, rfl, by simp, fun j hj => ⟨?_, hu⟩⟩⟩
  obtain rfl : j = 0 := by omega
  rw [World.cell?_alloc_at _ _ _ _ rfl]
  rfl
set_option maxRecDepth 100000 in
set_option maxHeartbeats 8000000 in
theorem givenF (B : Nat) (v : NV) (w : World) (hB : B ≤ w.heap.size) (h : v.read B w) (hl : v.len 1048576) (sz : SzOk v.sn v.SD) (wi' : WI v.i v.ID v.sn) :
    Calls Try.prog 56 #[v.val] w (GivR v w) := by
  obtain ⟨sa, sn, scap, SD, ia, i, icap, ID, fa, fn, fcap, FF, ka, kn, kcap, KK, oa, on, ocap, OD⟩ := v
  obtain ⟨h1, h2, h3, _, _⟩ := h
  obtain ⟨l1, l2, ⟨l3, l4⟩, _, _⟩ := hl
  unfold NV.val
  dsimp only at *
  obtain ⟨W1, hW1⟩ : ∃ W1, w.alloc (.cells #[.slice sa sn scap, .slice ia i icap, .slice fa fn fcap, .slice ka kn kcap, .slice oa on ocap] 33) = W1 := ⟨_, rfl⟩
  have BL := hide (show Below w.heap.size w W1 by rw [← hW1]; exact (Below.refl _ _).alloc (Nat.le_refl _) _)
  have p := Cells5.new w (.slice sa sn scap) (.slice ia i icap) (.slice fa fn fcap) (.slice ka kn kcap) (.slice oa on ocap) 33
  rw [hW1] at p
  have C1 := hide p
  have z1 : w.heap.size < W1.heap.size := World.block_lt_of_cell? _ _ p.1
  obtain ⟨p0, p1, p2, p3, p4⟩ := p
  have hB1 : B ≤ W1.heap.size := by omega
  have H1 := hide (h1.below (BL.out.mono hB))
  have H2 := hide (h2.below (BL.out.mono hB))
  have H3 := hide (h3.below (BL.out.mono hB))
  have L4 := hide l4
  have SZ := hide sz
  have WI' := hide wi'
  have s200 : (sn : Int) ≤ 200 := by have := sz.1; omega
  have hmk := make_bools sn (by omega)
  clear h1 h2 h3 l4 sz wi'
  obtain ⟨N, hN⟩ : ∃ N : NV, N = ⟨sa, sn, scap, SD, ia, i, icap, ID, fa, fn, fcap, FF, ka, kn, kcap, KK, oa, on, ocap, OD⟩ := ⟨_, rfl⟩
  rw [← hN]
  have GV := hide (show ∀ j, gvn N j = if j < i then ID j else (FF (j - i)).u by intro j; rw [hN]; rfl)
  obtain ⟨G, hG⟩ : ∃ G, gvn N = G := ⟨_, rfl⟩
  rw [hG] at GV
  have FX := hide (show ∀ j, FxOk N j ↔ ((0 ≤ (FF j).u ∧ (FF j).u < sn) ∧ hasB (i + j) G (FF j).u = false ∧ ((FF j).r : Int) = SD (FF j).u.toNat ∧ WI (FF j).r (FF j).D 2147483647) by intro j; rw [← hG, hN]; exact Iff.rfl)
  have YES := hide (show ∀ e w', ((∀ j, j < i → hasB j G (ID j) = false) ∧ ∀ j, j < fn → FxOk N j) → (∃ g, e = .returned (.tuple #[.slice (some ⟨g, 0, none⟩) sn sn, .bool true]) ∧ Bw w' g sn (fun q => hasB (i + fn) G q) ∧ Below w.heap.size w w') → GivR N w e w' by intro e w' a b; rw [← hG, hN] at a b; rw [hN]; exact .inl ⟨a, b⟩)
  have NO := hide (show ∀ w', ¬ ((∀ j, j < i → hasB j G (ID j) = false) ∧ ∀ j, j < fn → FxOk N j) → Below w.heap.size w w' → GivR N w (.returned (.tuple #[.slice none 0 0, .bool false])) w' by intro w' a b; rw [← hG, hN] at a; rw [hN]; exact .inr ⟨a, rfl, b⟩)
  clear hN hG
  obtain ⟨W2, hW2⟩ : ∃ W2, W1.alloc (.cells (madeCells #[.bool false] sn) 4) = W2 := ⟨_, rfl⟩
  have b0 := bw_new W1 sn (fun q => hasB 0 G q) (fun q => decide_eq_false (by rintro ⟨t, ht, _⟩; omega))
  rw [hW2] at b0
  have R0 := hide b0
  have BW := hide (show Below W1.heap.size W1 W2 by rw [← hW2]; exact (Below.refl _ _).alloc (Nat.le_refl _) _)
  have C2 := hide (C1.out.below BW.out z1)
  clear b0
  obtain ⟨m0, m1, m2, m3, m4⟩ := C2.out
  go_enter Try.func56, Try.ntmps56
  go_wp2_with fail
  clear hmk hW1 hW2 p0 p1 p2 p3 p4 m0 m1 m2 m3 m4
  go_loopw [16] (fun t wx => ∃ m : Nat, m ≤ i ∧ t = .int .i64 m ∧ Bw wx W1.heap.size sn (fun q => hasB m G q) ∧ (∀ q, q < m → hasB q G (ID q) = false) ∧ Below W1.heap.size W1 wx) (fun t _ => i - (intOf t).toNat)
  case atStart => exact ⟨0, Nat.zero_le _, rfl, R0.out, fun q hq => by omega, BW.out⟩
  case round =>
    obtain ⟨X, rfl⟩ : ∃ X, X = wr := ⟨_, rfl⟩
    obtain ⟨m, hm, rfl, hbw, hf, hby⟩ := hrel
    have RB := hide hbw
    have HF := hide hf
    have HBY := hide hby
    have BX := hide (BL.out.trans (hby.mono BL.out.size))
    obtain ⟨p0, p1, p2, p3, p4⟩ := C1.out.below hby z1
    clear hbw hf hby
    by_cases hlt : m < i
    case pos =>
      have mI : (m : Int) < i := by omega
      rcases H2.out.below (HBY.out.mono hB1) with q0 | ⟨ib, io, rfl, hib, hic⟩
      · omega
      have ci := (hic m hlt).1
      have wm := WI'.out m hlt
      have eG : ID m = G m := by rw [GV.out m, if_pos hlt]
      obtain ⟨n, hn⟩ : ∃ n : Nat, ID m = n := ⟨(ID m).toNat, by omega⟩
      rw [hn] at ci wm
      have nlt : n < sn := by omega
      have nI : (n : Int) < sn := by omega
      obtain ⟨cb, fb⟩ := RB.out.2 n nlt
      dsimp only at cb
      have EN := hide hn
      have EG := hide eG
      clear hic hn eG
      cases hh : hasB m G (n : Int) with
      | true =>
        have e := hide (show ¬ ((∀ j, j < i → hasB j G (ID j) = false) ∧ ∀ j, j < fn → FxOk N j) from fun q => by have q1 := q.1 m hlt; rw [EN.out, hh] at q1; cases q1)
        rw [hh] at cb
        clear hh
        go_wp2_with fail
        exact bodyPost_ret (v := .tuple #[.slice none 0 0, .bool false]) (by simp [results, Try.results56, go_sem]) rfl (NO.out _ e.out BX.out)
      | false =>
        have e := hide (show ∀ q, q < m + 1 → hasB q G (ID q) = false from fun q hq => by
          by_cases cq : q = m
          · rw [cq, EN.out]; exact hh
          · exact HF.out q (by omega))
        rw [hh] at cb
        clear hh
        go_wp2_with fail
        go_roundw
        all_goals first
          | (simp only [intOf]; omega)
          | (simp [intOf]; omega)
          | exact ⟨m + 1, by omega, by go_num, RB.out.set (fun q _ => hasB_succ m G q (by rw [← EG.out, EN.out])), e.out, HBY.out.setCell (p := ⟨W1.heap.size, n, none⟩) (Nat.le_refl _) _⟩
    case neg =>
      obtain rfl : i = m := by omega
      have HI := hide HF.out
      go_wp2_with fail
      clear p0 p1 p2 p3 p4
      go_loopw [31] (fun t wx => ∃ m : Nat, m ≤ fn ∧ t = .int .i64 m ∧ Bw wx W1.heap.size sn (fun q => hasB (i + m) G q) ∧ (∀ q, q < m → FxOk N q) ∧ Below W1.heap.size W1 wx) (fun t _ => fn - (intOf t).toNat)
      case atStart => exact ⟨0, Nat.zero_le _, rfl, RB.out, fun q hq => by omega, HBY.out⟩
      case round =>
        obtain ⟨X, rfl⟩ : ∃ X, X = wr := ⟨_, rfl⟩
        obtain ⟨k, hk, rfl, hbw, hf, hby⟩ := hrel
        clear RB HBY BX
        have RB := hide hbw
        have HF := hide hf
        have HBY := hide hby
        have BX := hide (BL.out.trans (hby.mono BL.out.size))
        have CX := hide (C1.out.below hby z1)
        obtain ⟨p0, p1, p2, p3, p4⟩ := CX.out
        have zX : w.heap.size < X.heap.size := Nat.lt_of_lt_of_le z1 hby.size
        have zB := hbw.1
        clear hbw hf hby
        by_cases hlt : k < fn
        case pos =>
          have kI : (k : Int) < fn := by omega
          rcases H3.out.below (HBY.out.mono hB1) with q0 | ⟨fb, fo, rfl, hfb, hfc⟩
          · omega
          obtain ⟨c0, c1, rd, bu⟩ := hfc k hlt
          have ld := L4.out k hlt
          obtain ⟨⟨fu, da, dr, dcap, dD⟩, hFk⟩ : ∃ x, FF k = x := ⟨_, rfl⟩
          rw [hFk] at c0 c1 rd bu ld
          dsimp only at c0 c1 rd bu ld
          have EF := hide (show FxOk N k ↔ ((0 ≤ fu ∧ fu < sn) ∧ hasB (i + k) G fu = false ∧ (dr : Int) = SD fu.toNat ∧ WI dr dD 2147483647) by have q := FX.out k; rw [hFk] at q; exact q)
          have EGV := hide (show G (i + k) = fu by have q := GV.out (i + k); rw [if_neg (by omega), show i + k - i = k by omega, hFk] at q; exact q)
          have BU := hide bu
          obtain ⟨Y, hY⟩ : ∃ Y, X.alloc (.cells #[.int .i64 fu, .slice da dr dcap] 83) = Y := ⟨_, rfl⟩
          have bY : Below X.heap.size X Y := by rw [← hY]; exact (Below.refl _ _).alloc (Nat.le_refl _) _
          have s0 : Y.cell? ⟨X.heap.size, 0, none⟩ = some (.int .i64 fu) := by rw [← hY, World.cell?_alloc_at _ _ _ _ rfl]; rfl
          have s1 : Y.cell? ⟨X.heap.size, 1, none⟩ = some (.slice da dr dcap) := by rw [← hY, World.cell?_alloc_at _ _ _ _ rfl]; rfl
          have zY : X.heap.size < Y.heap.size := World.block_lt_of_cell? _ _ s0
          have BY := hide (BX.out.trans (bY.mono BX.out.size))
          have HBY2 := hide (HBY.out.trans (bY.mono HBY.out.size))
          have RY := hide (RB.out.below bY)
          have CY := hide (CX.out.below bY zX)
          have hBY := hide (Nat.le_trans hB BY.out.size)
          have H1Y := hide (H1.out.below (HBY2.out.mono hB1))
          have RD := hide (rd.below (bY.mono (Nat.le_trans hB BX.out.size)))
          have S01 := hide (And.intro s0 s1)
          clear hfc rd hFk bY
          by_cases w0 : wi 1 (fun _ => fu) (sn : Int) = true
          case neg =>
            have WC := hide (show wi 1 (fun _ => fu) (sn : Int) = false by simpa using w0)
            have e := hide (show ¬ ((∀ j, j < i → hasB j G (ID j) = false) ∧ ∀ j, j < fn → FxOk N j) from fun q => w0 (decide_eq_true (fun j hj => (EF.out.1 (q.2 k hlt)).1)))
            clear w0
            obtain ⟨n, nlt, sv, an, sb, so⟩ : ∃ (n : Nat) (_ : True) (sv : Int) (an : Bool) (sb so : Nat), True := ⟨0, trivial, 0, false, 0, 0, trivial⟩
            have LD := hide (fun (W : World) (hb : Below Y.heap.size Y W) => (⟨(hb.cell (p := ⟨X.heap.size, 0, none⟩) zY).trans S01.out.1, (hb.cell (p := ⟨X.heap.size, 1, none⟩) zY).trans S01.out.2, (CY.out.below hb (Nat.lt_trans zX zY)).1, trivial⟩ : W.cell? ⟨X.heap.size, 0, none⟩ = some (.int .i64 fu) ∧ W.cell? ⟨X.heap.size, 1, none⟩ = some (.slice da dr dcap) ∧ W.cell? ⟨w.heap.size, 0, none⟩ = some (.slice sa sn scap) ∧ True))
            go_wp2_with fail
            refine Qg.facts2 26 (by kernel_rfl) (by kernel_rfl) (fun i v wx => match i with | 0 => v = .pointer (some ⟨X.heap.size, 0, none⟩) | 1 => v = .int .i64 fu | 2 => Ls1 fu v wx | 3 => v = .pointer (some ⟨w.heap.size, 0, none⟩) | 4 => v = .slice sa sn scap | 5 => v = .int .i64 (sn : Int) | 6 => v = .bool false | 7 => v = .bool true | 8 => v = .bool true | 9 => v = undef | 10 => v = undef | 11 => v = undef | 12 => v = undef | 13 => v = undef | 14 => v = .bool true | 15 => v = .bool true | 16 => v = undef | 17 => v = undef | 18 => v = undef | 19 => v = undef | 20 => v = undef | 21 => v = undef | 22 => v = undef | 23 => v = undef | 24 => v = undef | 25 => v = undef | _ => True) ?stable ?steps ?rest
            case stable =>
              intro i v w1 w2 h hb
              match i, h with
              | 0, h => exact h
              | 1, h => exact h
              | 2, h => exact h.below hb
              | 3, h => exact h
              | 4, h => exact h
              | 5, h => exact h
              | 6, h => exact h
              | 7, h => exact h
              | 8, h => exact h
              | 9, h => exact h
              | 10, h => exact h
              | 11, h => exact h
              | 12, h => exact h
              | 13, h => exact h
              | 14, h => exact h
              | 15, h => exact h
              | 16, h => exact h
              | 17, h => exact h
              | 18, h => exact h
              | 19, h => exact h
              | 20, h => exact h
              | 21, h => exact h
              | 22, h => exact h
              | 23, h => exact h
              | 24, h => exact h
              | 25, h => exact h
              | _ + 26, h => exact h
            case steps =>
              intro i o hi ho s A wS hb hk hA hO
              match i, hi, ho, hk with
              | 0, _, ho, hk =>
                cases ho
                refine Qg.landsG_free rfl ?_
                exact Qf.lands_val _ _ (qFieldF0 rfl ((hO 8 (by rfl)).trans rfl)) ⟨Below.refl _ _, rfl⟩
              | 1, _, ho, hk =>
                cases ho
                have h0 := hA 0 _ 35 (by decide) rfl rfl (by simp)
                have e0 := hk 0 (by kernel_rfl)
                rw [e0] at h0
                refine Qg.landsG_free rfl ?_
                exact Qf.lands_val _ _ (qLoadI rfl h0 (LD.out wS hb).1) ⟨Below.refl _ _, rfl⟩
              | 2, _, ho, hk =>
                cases ho
                have h1 := hA 1 _ 36 (by decide) rfl rfl (by simp)
                have e1 := hk 1 (by kernel_rfl)
                rw [e1] at h1
                refine Qg.landsG_free rfl ?_
                exact Qf.lands_val _ _ (qBuild1 rfl h1) ⟨(Below.refl _ _).alloc (Nat.le_refl _) _, ls1_new wS fu BU.out⟩
              | 3, _, ho, hk =>
                cases ho
                refine Qg.landsG_free rfl ?_
                exact Qf.lands_val _ _ (qFieldN0 rfl ((hO 1 (by rfl)).trans rfl)) ⟨Below.refl _ _, rfl⟩
              | 4, _, ho, hk =>
                cases ho
                have h3 := hA 3 _ 38 (by decide) rfl rfl (by simp)
                have e3 := hk 3 (by kernel_rfl)
                rw [e3] at h3
                refine Qg.landsG_free rfl ?_
                exact Qf.lands_val _ _ (qLoadS rfl h3 (LD.out wS hb).2.2.1) ⟨Below.refl _ _, rfl⟩
              | 5, _, ho, hk =>
                cases ho
                have h4 := hA 4 _ 39 (by decide) rfl rfl (by simp)
                have e4 := hk 4 (by kernel_rfl)
                rw [e4] at h4
                refine Qg.landsG_free rfl ?_
                exact Qf.lands_val _ _ (qLenI rfl h4) ⟨Below.refl _ _, rfl⟩
              | 6, _, ho, hk =>
                cases ho
                have h2 := hA 2 _ 37 (by decide) rfl rfl (by simp)
                obtain ⟨g2, e2, i2⟩ := hk 2 (by kernel_rfl)
                rw [e2] at h2
                have h5 := hA 5 _ 40 (by decide) rfl rfl (by simp)
                have e5 := hk 5 (by kernel_rfl)
                rw [e5] at h5
                refine Qg.landsG_free rfl ?_
                refine Qf.lands_call 54 _ _ rfl (enters_of Try.func54 (by kernel_rfl) rfl) _ (by simp [h2, h5]) ((within wS.heap.size (some ⟨g2, 0, none⟩) 1 1 (fun _ => fu) (sn : Int) wS (Nat.le_refl _) i2 (by omega)).mono ?_)
                rintro e wT ⟨rfl, bT⟩
                exact ⟨_, rfl, bT, congrArg Value.bool WC.out⟩
              | 7, _, ho, hk =>
                cases ho
                have h6 := hA 6 _ 41 (by decide) rfl rfl (by simp)
                have e6 := hk 6 (by kernel_rfl)
                rw [e6] at h6
                refine Qg.landsG_free rfl ?_
                exact Qf.lands_val _ _ (qNot rfl h6) ⟨Below.refl _ _, rfl⟩
              | 8, _, ho, hk =>
                cases ho
                have h7 := hA 7 _ 42 (by decide) rfl rfl (by simp)
                have e7 := hk 7 (by kernel_rfl)
                rw [e7] at h7
                refine Qg.landsG_free rfl ?_
                exact Qf.lands_move _ rfl _ h7 ⟨Below.refl _ _, rfl⟩
              | 9, _, ho, hk =>
                cases ho
                have h8 := hA 8 _ 43 (by decide) rfl rfl (by simp)
                have e8 := hk 8 (by kernel_rfl)
                rw [e8] at h8
                exact Qg.landsG_off 8 false 43 rfl rfl _ h8 (by intro q; cases q) ⟨Below.refl _ _, rfl⟩
              | 10, _, ho, hk =>
                cases ho
                have h8 := hA 8 _ 43 (by decide) rfl rfl (by simp)
                have e8 := hk 8 (by kernel_rfl)
                rw [e8] at h8
                exact Qg.landsG_off 8 false 43 rfl rfl _ h8 (by intro q; cases q) ⟨Below.refl _ _, rfl⟩
              | 11, _, ho, hk =>
                cases ho
                have h8 := hA 8 _ 43 (by decide) rfl rfl (by simp)
                have e8 := hk 8 (by kernel_rfl)
                rw [e8] at h8
                exact Qg.landsG_off 8 false 43 rfl rfl _ h8 (by intro q; cases q) ⟨Below.refl _ _, rfl⟩
              | 12, _, ho, hk =>
                cases ho
                have h8 := hA 8 _ 43 (by decide) rfl rfl (by simp)
                have e8 := hk 8 (by kernel_rfl)
                rw [e8] at h8
                exact Qg.landsG_off 8 false 43 rfl rfl _ h8 (by intro q; cases q) ⟨Below.refl _ _, rfl⟩
              | 13, _, ho, hk =>
                cases ho
                have h8 := hA 8 _ 43 (by decide) rfl rfl (by simp)
                have e8 := hk 8 (by kernel_rfl)
                rw [e8] at h8
                exact Qg.landsG_off 8 false 43 rfl rfl _ h8 (by intro q; cases q) ⟨Below.refl _ _, rfl⟩
              | 14, _, ho, hk =>
                cases ho
                have h8 := hA 8 _ 43 (by decide) rfl rfl (by simp)
                have e8 := hk 8 (by kernel_rfl)
                rw [e8] at h8
                refine Qg.landsG_free rfl ?_
                exact Qf.lands_val _ _ (qPickT rfl h8 rfl) ⟨Below.refl _ _, rfl⟩
              | 15, _, ho, hk =>
                cases ho
                have h14 := hA 14 _ 49 (by decide) rfl rfl (by simp)
                have e14 := hk 14 (by kernel_rfl)
                rw [e14] at h14
                refine Qg.landsG_free rfl ?_
                exact Qf.lands_move _ rfl _ h14 ⟨Below.refl _ _, rfl⟩
              | 16, _, ho, hk =>
                cases ho
                have h15 := hA 15 _ 50 (by decide) rfl rfl (by simp)
                have e15 := hk 15 (by kernel_rfl)
                rw [e15] at h15
                exact Qg.landsG_off 15 false 50 rfl rfl _ h15 (by intro q; cases q) ⟨Below.refl _ _, rfl⟩
              | 17, _, ho, hk =>
                cases ho
                have h15 := hA 15 _ 50 (by decide) rfl rfl (by simp)
                have e15 := hk 15 (by kernel_rfl)
                rw [e15] at h15
                exact Qg.landsG_off 15 false 50 rfl rfl _ h15 (by intro q; cases q) ⟨Below.refl _ _, rfl⟩
              | 18, _, ho, hk =>
                cases ho
                have h15 := hA 15 _ 50 (by decide) rfl rfl (by simp)
                have e15 := hk 15 (by kernel_rfl)
                rw [e15] at h15
                exact Qg.landsG_off 15 false 50 rfl rfl _ h15 (by intro q; cases q) ⟨Below.refl _ _, rfl⟩
              | 19, _, ho, hk =>
                cases ho
                have h15 := hA 15 _ 50 (by decide) rfl rfl (by simp)
                have e15 := hk 15 (by kernel_rfl)
                rw [e15] at h15
                exact Qg.landsG_off 15 false 50 rfl rfl _ h15 (by intro q; cases q) ⟨Below.refl _ _, rfl⟩
              | 20, _, ho, hk =>
                cases ho
                have h15 := hA 15 _ 50 (by decide) rfl rfl (by simp)
                have e15 := hk 15 (by kernel_rfl)
                rw [e15] at h15
                exact Qg.landsG_off 15 false 50 rfl rfl _ h15 (by intro q; cases q) ⟨Below.refl _ _, rfl⟩
              | 21, _, ho, hk =>
                cases ho
                have h15 := hA 15 _ 50 (by decide) rfl rfl (by simp)
                have e15 := hk 15 (by kernel_rfl)
                rw [e15] at h15
                exact Qg.landsG_off 15 false 50 rfl rfl _ h15 (by intro q; cases q) ⟨Below.refl _ _, rfl⟩
              | 22, _, ho, hk =>
                cases ho
                have h15 := hA 15 _ 50 (by decide) rfl rfl (by simp)
                have e15 := hk 15 (by kernel_rfl)
                rw [e15] at h15
                exact Qg.landsG_off 15 false 50 rfl rfl _ h15 (by intro q; cases q) ⟨Below.refl _ _, rfl⟩
              | 23, _, ho, hk =>
                cases ho
                have h15 := hA 15 _ 50 (by decide) rfl rfl (by simp)
                have e15 := hk 15 (by kernel_rfl)
                rw [e15] at h15
                exact Qg.landsG_off 15 false 50 rfl rfl _ h15 (by intro q; cases q) ⟨Below.refl _ _, rfl⟩
              | 24, _, ho, hk =>
                cases ho
                have h15 := hA 15 _ 50 (by decide) rfl rfl (by simp)
                have e15 := hk 15 (by kernel_rfl)
                rw [e15] at h15
                exact Qg.landsG_off 15 false 50 rfl rfl _ h15 (by intro q; cases q) ⟨Below.refl _ _, rfl⟩
              | 25, _, ho, hk =>
                cases ho
                have h15 := hA 15 _ 50 (by decide) rfl rfl (by simp)
                have e15 := hk 15 (by kernel_rfl)
                rw [e15] at h15
                exact Qg.landsG_off 15 false 50 rfl rfl _ h15 (by intro q; cases q) ⟨Below.refl _ _, rfl⟩
              | _ + 26, hi, _, _ => exact absurd hi (by omega)
            case rest =>
            intro s Z hbS hk
            have e15 : s 15 = .bool true := hk 15 (by decide)
            have e25 : s 25 = undef := hk 25 (by decide)
            simp only [List.take_succ_cons, List.take_zero, List.drop_succ_cons, List.drop_zero, Qf.lay, Qf.all1, if_true, e15, e25]
            simp only [Act.put, List.setIfInBounds_toArray, List.set_cons_succ, List.set_cons_zero]
            have BZ := hide (BY.out.trans (hbS.mono BY.out.size))
            have HZ := hide (HBY2.out.trans (hbS.mono HBY2.out.size))
            clear hk e15 e25 hbS LD
            go_wp2_with fail
            exact bodyPost_ret (v := .tuple #[.slice none 0 0, .bool false]) (by simp [results, Try.results56, go_sem]) rfl (NO.out _ e.out BZ.out)
          have wr : 0 ≤ fu ∧ fu < (sn : Int) := of_decide_eq_true w0 0 (by omega)
          have WC := hide w0
          clear w0
          obtain ⟨n, hn⟩ : ∃ n : Nat, fu = n := ⟨fu.toNat, by omega⟩
          have nlt : n < sn := by omega
          have nI : (n : Int) < sn := by omega
          have EU := hide (show Value.int .i64 fu = .int .i64 ((n : Nat) : Int) by rw [hn])
          rcases H1Y.out with q0 | ⟨sb, so, hsa, hsb, hsc⟩
          · omega
          have ESA := hide (show some (Value.slice sa sn scap) = some (.slice (some ⟨sb, so, none⟩) sn scap) by rw [hsa])
          obtain ⟨sv, hsv⟩ : ∃ sv, SD n = sv := ⟨_, rfl⟩
          have csv := (hsc n nlt).1
          rw [hsv] at csv
          obtain ⟨an, han⟩ : ∃ an, decide ((dr : Int) = sv ∧ WI dr dD 2147483647) = an := ⟨_, rfl⟩
          have EAN := hide han
          have ESV := hide (show SD fu.toNat = sv by rw [hn]; exact hsv)
          have EH := hide (show hasB (i + k) G fu = hasB (i + k) G (n : Int) by rw [hn])
          have EN := hide hn
          obtain ⟨hb1, hh⟩ : ∃ hb1, hasB (i + k) G (n : Int) = hb1 := ⟨_, rfl⟩
          have cbn := (RY.out.2 n nlt).1
          dsimp only at cbn
          rw [hh] at cbn
          have LD := hide (fun (W : World) (hb : Below Y.heap.size Y W) => (⟨(hb.cell (p := ⟨X.heap.size, 0, none⟩) zY).trans S01.out.1, (hb.cell (p := ⟨X.heap.size, 1, none⟩) zY).trans S01.out.2, (CY.out.below hb (Nat.lt_trans zX zY)).1, (hb.cell (p := ⟨W1.heap.size, n, none⟩) (Nat.lt_trans zB zY)).trans cbn, (hb.cell (p := ⟨sb, so + n, none⟩) (Nat.lt_of_lt_of_le hsb hBY.out)).trans csv, RD.out.below (hb.mono hBY.out)⟩ : W.cell? ⟨X.heap.size, 0, none⟩ = some (.int .i64 fu) ∧ W.cell? ⟨X.heap.size, 1, none⟩ = some (.slice da dr dcap) ∧ W.cell? ⟨w.heap.size, 0, none⟩ = some (.slice sa sn scap) ∧ W.cell? ⟨W1.heap.size, n, none⟩ = some (.bool hb1) ∧ W.cell? ⟨sb, so + n, none⟩ = some (.int .i64 sv) ∧ Ints B W da dr dD))
          have HH := hide hh
          clear hsc csv cbn hsv han hn wr hh hsa
          cases hb1 with
          | true =>
            have e := hide (show ¬ ((∀ j, j < i → hasB j G (ID j) = false) ∧ ∀ j, j < fn → FxOk N j) from fun q => by have q1 := (EF.out.1 (q.2 k hlt)).2.1; rw [EH.out, HH.out] at q1; cases q1)
            go_wp2_with fail
            refine Qg.facts2 26 (by kernel_rfl) (by kernel_rfl) (fun i v wx => match i with | 0 => v = .pointer (some ⟨X.heap.size, 0, none⟩) | 1 => v = .int .i64 fu | 2 => Ls1 fu v wx | 3 => v = .pointer (some ⟨w.heap.size, 0, none⟩) | 4 => v = .slice sa sn scap | 5 => v = .int .i64 (sn : Int) | 6 => v = .bool true | 7 => v = .bool false | 8 => v = .bool false | 9 => v = .slice (some ⟨W1.heap.size, 0, none⟩) sn sn | 10 => v = .pointer (some ⟨X.heap.size, 0, none⟩) | 11 => v = .int .i64 fu | 12 => v = .pointer (some ⟨W1.heap.size, n, none⟩) | 13 => v = .bool true | 14 => v = .bool true | 15 => v = .bool true | 16 => v = undef | 17 => v = undef | 18 => v = undef | 19 => v = undef | 20 => v = undef | 21 => v = undef | 22 => v = undef | 23 => v = undef | 24 => v = undef | 25 => v = undef | _ => True) ?stable ?steps ?rest
            case stable =>
              intro i v w1 w2 h hb
              match i, h with
              | 0, h => exact h
              | 1, h => exact h
              | 2, h => exact h.below hb
              | 3, h => exact h
              | 4, h => exact h
              | 5, h => exact h
              | 6, h => exact h
              | 7, h => exact h
              | 8, h => exact h
              | 9, h => exact h
              | 10, h => exact h
              | 11, h => exact h
              | 12, h => exact h
              | 13, h => exact h
              | 14, h => exact h
              | 15, h => exact h
              | 16, h => exact h
              | 17, h => exact h
              | 18, h => exact h
              | 19, h => exact h
              | 20, h => exact h
              | 21, h => exact h
              | 22, h => exact h
              | 23, h => exact h
              | 24, h => exact h
              | 25, h => exact h
              | _ + 26, h => exact h
            case steps =>
              intro i o hi ho s A wS hb hk hA hO
              match i, hi, ho, hk with
              | 0, _, ho, hk =>
                cases ho
                refine Qg.landsG_free rfl ?_
                exact Qf.lands_val _ _ (qFieldF0 rfl ((hO 8 (by rfl)).trans rfl)) ⟨Below.refl _ _, rfl⟩
              | 1, _, ho, hk =>
                cases ho
                have h0 := hA 0 _ 35 (by decide) rfl rfl (by simp)
                have e0 := hk 0 (by kernel_rfl)
                rw [e0] at h0
                refine Qg.landsG_free rfl ?_
                exact Qf.lands_val _ _ (qLoadI rfl h0 (LD.out wS hb).1) ⟨Below.refl _ _, rfl⟩
              | 2, _, ho, hk =>
                cases ho
                have h1 := hA 1 _ 36 (by decide) rfl rfl (by simp)
                have e1 := hk 1 (by kernel_rfl)
                rw [e1] at h1
                refine Qg.landsG_free rfl ?_
                exact Qf.lands_val _ _ (qBuild1 rfl h1) ⟨(Below.refl _ _).alloc (Nat.le_refl _) _, ls1_new wS fu BU.out⟩
              | 3, _, ho, hk =>
                cases ho
                refine Qg.landsG_free rfl ?_
                exact Qf.lands_val _ _ (qFieldN0 rfl ((hO 1 (by rfl)).trans rfl)) ⟨Below.refl _ _, rfl⟩
              | 4, _, ho, hk =>
                cases ho
                have h3 := hA 3 _ 38 (by decide) rfl rfl (by simp)
                have e3 := hk 3 (by kernel_rfl)
                rw [e3] at h3
                refine Qg.landsG_free rfl ?_
                exact Qf.lands_val _ _ (qLoadS rfl h3 (LD.out wS hb).2.2.1) ⟨Below.refl _ _, rfl⟩
              | 5, _, ho, hk =>
                cases ho
                have h4 := hA 4 _ 39 (by decide) rfl rfl (by simp)
                have e4 := hk 4 (by kernel_rfl)
                rw [e4] at h4
                refine Qg.landsG_free rfl ?_
                exact Qf.lands_val _ _ (qLenI rfl h4) ⟨Below.refl _ _, rfl⟩
              | 6, _, ho, hk =>
                cases ho
                have h2 := hA 2 _ 37 (by decide) rfl rfl (by simp)
                obtain ⟨g2, e2, i2⟩ := hk 2 (by kernel_rfl)
                rw [e2] at h2
                have h5 := hA 5 _ 40 (by decide) rfl rfl (by simp)
                have e5 := hk 5 (by kernel_rfl)
                rw [e5] at h5
                refine Qg.landsG_free rfl ?_
                refine Qf.lands_call 54 _ _ rfl (enters_of Try.func54 (by kernel_rfl) rfl) _ (by simp [h2, h5]) ((within wS.heap.size (some ⟨g2, 0, none⟩) 1 1 (fun _ => fu) (sn : Int) wS (Nat.le_refl _) i2 (by omega)).mono ?_)
                rintro e wT ⟨rfl, bT⟩
                exact ⟨_, rfl, bT, congrArg Value.bool WC.out⟩
              | 7, _, ho, hk =>
                cases ho
                have h6 := hA 6 _ 41 (by decide) rfl rfl (by simp)
                have e6 := hk 6 (by kernel_rfl)
                rw [e6] at h6
                refine Qg.landsG_free rfl ?_
                exact Qf.lands_val _ _ (qNot rfl h6) ⟨Below.refl _ _, rfl⟩
              | 8, _, ho, hk =>
                cases ho
                have h7 := hA 7 _ 42 (by decide) rfl rfl (by simp)
                have e7 := hk 7 (by kernel_rfl)
                rw [e7] at h7
                refine Qg.landsG_free rfl ?_
                exact Qf.lands_move _ rfl _ h7 ⟨Below.refl _ _, rfl⟩
              | 9, _, ho, hk =>
                cases ho
                have h8 := hA 8 _ 43 (by decide) rfl rfl (by simp)
                have e8 := hk 8 (by kernel_rfl)
                rw [e8] at h8
                refine Qg.landsG_on 8 false 43 rfl rfl h8 ?_
                exact Qf.lands_move _ rfl _ ((hO 4 (by rfl)).trans rfl) ⟨Below.refl _ _, rfl⟩
              | 10, _, ho, hk =>
                cases ho
                have h8 := hA 8 _ 43 (by decide) rfl rfl (by simp)
                have e8 := hk 8 (by kernel_rfl)
                rw [e8] at h8
                refine Qg.landsG_on 8 false 43 rfl rfl h8 ?_
                exact Qf.lands_val _ _ (qFieldF0 rfl ((hO 8 (by rfl)).trans rfl)) ⟨Below.refl _ _, rfl⟩
              | 11, _, ho, hk =>
                cases ho
                have h10 := hA 10 _ 45 (by decide) rfl rfl (by simp)
                have e10 := hk 10 (by kernel_rfl)
                rw [e10] at h10
                have h8 := hA 8 _ 43 (by decide) rfl rfl (by simp)
                have e8 := hk 8 (by kernel_rfl)
                rw [e8] at h8
                refine Qg.landsG_on 8 false 43 rfl rfl h8 ?_
                exact Qf.lands_val _ _ (qLoadI rfl h10 (LD.out wS hb).1) ⟨Below.refl _ _, rfl⟩
              | 12, _, ho, hk =>
                cases ho
                have h9 := hA 9 _ 44 (by decide) rfl rfl (by simp)
                have e9 := hk 9 (by kernel_rfl)
                rw [e9] at h9
                have h11 := hA 11 _ 46 (by decide) rfl rfl (by simp)
                have e11 := hk 11 (by kernel_rfl)
                rw [e11] at h11
                have h8 := hA 8 _ 43 (by decide) rfl rfl (by simp)
                have e8 := hk 8 (by kernel_rfl)
                rw [e8] at h8
                refine Qg.landsG_on 8 false 43 rfl rfl h8 ?_
                exact Qf.lands_val _ _ (qIdxB rfl h9 (h11.trans EU.out) nlt) ⟨Below.refl _ _, rfl⟩
              | 13, _, ho, hk =>
                cases ho
                have h12 := hA 12 _ 47 (by decide) rfl rfl (by simp)
                have e12 := hk 12 (by kernel_rfl)
                rw [e12] at h12
                have h8 := hA 8 _ 43 (by decide) rfl rfl (by simp)
                have e8 := hk 8 (by kernel_rfl)
                rw [e8] at h8
                refine Qg.landsG_on 8 false 43 rfl rfl h8 ?_
                exact Qf.lands_val _ _ (qLoadB rfl h12 (LD.out wS hb).2.2.2.1) ⟨Below.refl _ _, rfl⟩
              | 14, _, ho, hk =>
                cases ho
                have h8 := hA 8 _ 43 (by decide) rfl rfl (by simp)
                have e8 := hk 8 (by kernel_rfl)
                rw [e8] at h8
                have h13 := hA 13 _ 48 (by decide) rfl rfl (by simp)
                have e13 := hk 13 (by kernel_rfl)
                rw [e13] at h13
                refine Qg.landsG_free rfl ?_
                exact Qf.lands_val _ _ (qPickF rfl h8 h13) ⟨Below.refl _ _, rfl⟩
              | 15, _, ho, hk =>
                cases ho
                have h14 := hA 14 _ 49 (by decide) rfl rfl (by simp)
                have e14 := hk 14 (by kernel_rfl)
                rw [e14] at h14
                refine Qg.landsG_free rfl ?_
                exact Qf.lands_move _ rfl _ h14 ⟨Below.refl _ _, rfl⟩
              | 16, _, ho, hk =>
                cases ho
                have h15 := hA 15 _ 50 (by decide) rfl rfl (by simp)
                have e15 := hk 15 (by kernel_rfl)
                rw [e15] at h15
                exact Qg.landsG_off 15 false 50 rfl rfl _ h15 (by intro q; cases q) ⟨Below.refl _ _, rfl⟩
              | 17, _, ho, hk =>
                cases ho
                have h15 := hA 15 _ 50 (by decide) rfl rfl (by simp)
                have e15 := hk 15 (by kernel_rfl)
                rw [e15] at h15
                exact Qg.landsG_off 15 false 50 rfl rfl _ h15 (by intro q; cases q) ⟨Below.refl _ _, rfl⟩
              | 18, _, ho, hk =>
                cases ho
                have h15 := hA 15 _ 50 (by decide) rfl rfl (by simp)
                have e15 := hk 15 (by kernel_rfl)
                rw [e15] at h15
                exact Qg.landsG_off 15 false 50 rfl rfl _ h15 (by intro q; cases q) ⟨Below.refl _ _, rfl⟩
              | 19, _, ho, hk =>
                cases ho
                have h15 := hA 15 _ 50 (by decide) rfl rfl (by simp)
                have e15 := hk 15 (by kernel_rfl)
                rw [e15] at h15
                exact Qg.landsG_off 15 false 50 rfl rfl _ h15 (by intro q; cases q) ⟨Below.refl _ _, rfl⟩
              | 20, _, ho, hk =>
                cases ho
                have h15 := hA 15 _ 50 (by decide) rfl rfl (by simp)
                have e15 := hk 15 (by kernel_rfl)
                rw [e15] at h15
                exact Qg.landsG_off 15 false 50 rfl rfl _ h15 (by intro q; cases q) ⟨Below.refl _ _, rfl⟩
              | 21, _, ho, hk =>
                cases ho
                have h15 := hA 15 _ 50 (by decide) rfl rfl (by simp)
                have e15 := hk 15 (by kernel_rfl)
                rw [e15] at h15
                exact Qg.landsG_off 15 false 50 rfl rfl _ h15 (by intro q; cases q) ⟨Below.refl _ _, rfl⟩
              | 22, _, ho, hk =>
                cases ho
                have h15 := hA 15 _ 50 (by decide) rfl rfl (by simp)
                have e15 := hk 15 (by kernel_rfl)
                rw [e15] at h15
                exact Qg.landsG_off 15 false 50 rfl rfl _ h15 (by intro q; cases q) ⟨Below.refl _ _, rfl⟩
              | 23, _, ho, hk =>
                cases ho
                have h15 := hA 15 _ 50 (by decide) rfl rfl (by simp)
                have e15 := hk 15 (by kernel_rfl)
                rw [e15] at h15
                exact Qg.landsG_off 15 false 50 rfl rfl _ h15 (by intro q; cases q) ⟨Below.refl _ _, rfl⟩
              | 24, _, ho, hk =>
                cases ho
                have h15 := hA 15 _ 50 (by decide) rfl rfl (by simp)
                have e15 := hk 15 (by kernel_rfl)
                rw [e15] at h15
                exact Qg.landsG_off 15 false 50 rfl rfl _ h15 (by intro q; cases q) ⟨Below.refl _ _, rfl⟩
              | 25, _, ho, hk =>
                cases ho
                have h15 := hA 15 _ 50 (by decide) rfl rfl (by simp)
                have e15 := hk 15 (by kernel_rfl)
                rw [e15] at h15
                exact Qg.landsG_off 15 false 50 rfl rfl _ h15 (by intro q; cases q) ⟨Below.refl _ _, rfl⟩
              | _ + 26, hi, _, _ => exact absurd hi (by omega)
            case rest =>
            intro s Z hbS hk
            have e15 : s 15 = .bool true := hk 15 (by decide)
            have e25 : s 25 = undef := hk 25 (by decide)
            simp only [List.take_succ_cons, List.take_zero, List.drop_succ_cons, List.drop_zero, Qf.lay, Qf.all1, if_true, e15, e25]
            simp only [Act.put, List.setIfInBounds_toArray, List.set_cons_succ, List.set_cons_zero]
            have BZ := hide (BY.out.trans (hbS.mono BY.out.size))
            have HZ := hide (HBY2.out.trans (hbS.mono HBY2.out.size))
            clear hk e15 e25 hbS LD
            go_wp2_with fail
            exact bodyPost_ret (v := .tuple #[.slice none 0 0, .bool false]) (by simp [results, Try.results56, go_sem]) rfl (NO.out _ e.out BZ.out)
          | false =>
            go_wp2_with fail
            refine Qg.facts2 26 (by kernel_rfl) (by kernel_rfl) (fun i v wx => match i with | 0 => v = .pointer (some ⟨X.heap.size, 0, none⟩) | 1 => v = .int .i64 fu | 2 => Ls1 fu v wx | 3 => v = .pointer (some ⟨w.heap.size, 0, none⟩) | 4 => v = .slice sa sn scap | 5 => v = .int .i64 (sn : Int) | 6 => v = .bool true | 7 => v = .bool false | 8 => v = .bool false | 9 => v = .slice (some ⟨W1.heap.size, 0, none⟩) sn sn | 10 => v = .pointer (some ⟨X.heap.size, 0, none⟩) | 11 => v = .int .i64 fu | 12 => v = .pointer (some ⟨W1.heap.size, n, none⟩) | 13 => v = .bool false | 14 => v = .bool false | 15 => v = .bool false | 16 => v = .pointer (some ⟨X.heap.size, 1, none⟩) | 17 => v = .slice da dr dcap | 18 => v = .pointer (some ⟨w.heap.size, 0, none⟩) | 19 => v = .slice (some ⟨sb, so, none⟩) sn scap | 20 => v = .pointer (some ⟨X.heap.size, 0, none⟩) | 21 => v = .int .i64 fu | 22 => v = .pointer (some ⟨sb, so + n, none⟩) | 23 => v = .int .i64 sv | 24 => v = .bool an | 25 => v = .bool (!an) | _ => True) ?stable ?steps ?rest
            case stable =>
              intro i v w1 w2 h hb
              match i, h with
              | 0, h => exact h
              | 1, h => exact h
              | 2, h => exact h.below hb
              | 3, h => exact h
              | 4, h => exact h
              | 5, h => exact h
              | 6, h => exact h
              | 7, h => exact h
              | 8, h => exact h
              | 9, h => exact h
              | 10, h => exact h
              | 11, h => exact h
              | 12, h => exact h
              | 13, h => exact h
              | 14, h => exact h
              | 15, h => exact h
              | 16, h => exact h
              | 17, h => exact h
              | 18, h => exact h
              | 19, h => exact h
              | 20, h => exact h
              | 21, h => exact h
              | 22, h => exact h
              | 23, h => exact h
              | 24, h => exact h
              | 25, h => exact h
              | _ + 26, h => exact h
            case steps =>
              intro i o hi ho s A wS hb hk hA hO
              match i, hi, ho, hk with
              | 0, _, ho, hk =>
                cases ho
                refine Qg.landsG_free rfl ?_
                exact Qf.lands_val _ _ (qFieldF0 rfl ((hO 8 (by rfl)).trans rfl)) ⟨Below.refl _ _, rfl⟩
              | 1, _, ho, hk =>
                cases ho
                have h0 := hA 0 _ 35 (by decide) rfl rfl (by simp)
                have e0 := hk 0 (by kernel_rfl)
                rw [e0] at h0
                refine Qg.landsG_free rfl ?_
                exact Qf.lands_val _ _ (qLoadI rfl h0 (LD.out wS hb).1) ⟨Below.refl _ _, rfl⟩
              | 2, _, ho, hk =>
                cases ho
                have h1 := hA 1 _ 36 (by decide) rfl rfl (by simp)
                have e1 := hk 1 (by kernel_rfl)
                rw [e1] at h1
                refine Qg.landsG_free rfl ?_
                exact Qf.lands_val _ _ (qBuild1 rfl h1) ⟨(Below.refl _ _).alloc (Nat.le_refl _) _, ls1_new wS fu BU.out⟩
              | 3, _, ho, hk =>
                cases ho
                refine Qg.landsG_free rfl ?_
                exact Qf.lands_val _ _ (qFieldN0 rfl ((hO 1 (by rfl)).trans rfl)) ⟨Below.refl _ _, rfl⟩
              | 4, _, ho, hk =>
                cases ho
                have h3 := hA 3 _ 38 (by decide) rfl rfl (by simp)
                have e3 := hk 3 (by kernel_rfl)
                rw [e3] at h3
                refine Qg.landsG_free rfl ?_
                exact Qf.lands_val _ _ (qLoadS rfl h3 (LD.out wS hb).2.2.1) ⟨Below.refl _ _, rfl⟩
              | 5, _, ho, hk =>
                cases ho
                have h4 := hA 4 _ 39 (by decide) rfl rfl (by simp)
                have e4 := hk 4 (by kernel_rfl)
                rw [e4] at h4
                refine Qg.landsG_free rfl ?_
                exact Qf.lands_val _ _ (qLenI rfl h4) ⟨Below.refl _ _, rfl⟩
              | 6, _, ho, hk =>
                cases ho
                have h2 := hA 2 _ 37 (by decide) rfl rfl (by simp)
                obtain ⟨g2, e2, i2⟩ := hk 2 (by kernel_rfl)
                rw [e2] at h2
                have h5 := hA 5 _ 40 (by decide) rfl rfl (by simp)
                have e5 := hk 5 (by kernel_rfl)
                rw [e5] at h5
                refine Qg.landsG_free rfl ?_
                refine Qf.lands_call 54 _ _ rfl (enters_of Try.func54 (by kernel_rfl) rfl) _ (by simp [h2, h5]) ((within wS.heap.size (some ⟨g2, 0, none⟩) 1 1 (fun _ => fu) (sn : Int) wS (Nat.le_refl _) i2 (by omega)).mono ?_)
                rintro e wT ⟨rfl, bT⟩
                exact ⟨_, rfl, bT, congrArg Value.bool WC.out⟩
              | 7, _, ho, hk =>
                cases ho
                have h6 := hA 6 _ 41 (by decide) rfl rfl (by simp)
                have e6 := hk 6 (by kernel_rfl)
                rw [e6] at h6
                refine Qg.landsG_free rfl ?_
                exact Qf.lands_val _ _ (qNot rfl h6) ⟨Below.refl _ _, rfl⟩
              | 8, _, ho, hk =>
                cases ho
                have h7 := hA 7 _ 42 (by decide) rfl rfl (by simp)
                have e7 := hk 7 (by kernel_rfl)
                rw [e7] at h7
                refine Qg.landsG_free rfl ?_
                exact Qf.lands_move _ rfl _ h7 ⟨Below.refl _ _, rfl⟩
              | 9, _, ho, hk =>
                cases ho
                have h8 := hA 8 _ 43 (by decide) rfl rfl (by simp)
                have e8 := hk 8 (by kernel_rfl)
                rw [e8] at h8
                refine Qg.landsG_on 8 false 43 rfl rfl h8 ?_
                exact Qf.lands_move _ rfl _ ((hO 4 (by rfl)).trans rfl) ⟨Below.refl _ _, rfl⟩
              | 10, _, ho, hk =>
                cases ho
                have h8 := hA 8 _ 43 (by decide) rfl rfl (by simp)
                have e8 := hk 8 (by kernel_rfl)
                rw [e8] at h8
                refine Qg.landsG_on 8 false 43 rfl rfl h8 ?_
                exact Qf.lands_val _ _ (qFieldF0 rfl ((hO 8 (by rfl)).trans rfl)) ⟨Below.refl _ _, rfl⟩
              | 11, _, ho, hk =>
                cases ho
                have h10 := hA 10 _ 45 (by decide) rfl rfl (by simp)
                have e10 := hk 10 (by kernel_rfl)
                rw [e10] at h10
                have h8 := hA 8 _ 43 (by decide) rfl rfl (by simp)
                have e8 := hk 8 (by kernel_rfl)
                rw [e8] at h8
                refine Qg.landsG_on 8 false 43 rfl rfl h8 ?_
                exact Qf.lands_val _ _ (qLoadI rfl h10 (LD.out wS hb).1) ⟨Below.refl _ _, rfl⟩
              | 12, _, ho, hk =>
                cases ho
                have h9 := hA 9 _ 44 (by decide) rfl rfl (by simp)
                have e9 := hk 9 (by kernel_rfl)
                rw [e9] at h9
                have h11 := hA 11 _ 46 (by decide) rfl rfl (by simp)
                have e11 := hk 11 (by kernel_rfl)
                rw [e11] at h11
                have h8 := hA 8 _ 43 (by decide) rfl rfl (by simp)
                have e8 := hk 8 (by kernel_rfl)
                rw [e8] at h8
                refine Qg.landsG_on 8 false 43 rfl rfl h8 ?_
                exact Qf.lands_val _ _ (qIdxB rfl h9 (h11.trans EU.out) nlt) ⟨Below.refl _ _, rfl⟩
              | 13, _, ho, hk =>
                cases ho
                have h12 := hA 12 _ 47 (by decide) rfl rfl (by simp)
                have e12 := hk 12 (by kernel_rfl)
                rw [e12] at h12
                have h8 := hA 8 _ 43 (by decide) rfl rfl (by simp)
                have e8 := hk 8 (by kernel_rfl)
                rw [e8] at h8
                refine Qg.landsG_on 8 false 43 rfl rfl h8 ?_
                exact Qf.lands_val _ _ (qLoadB rfl h12 (LD.out wS hb).2.2.2.1) ⟨Below.refl _ _, rfl⟩
              | 14, _, ho, hk =>
                cases ho
                have h8 := hA 8 _ 43 (by decide) rfl rfl (by simp)
                have e8 := hk 8 (by kernel_rfl)
                rw [e8] at h8
                have h13 := hA 13 _ 48 (by decide) rfl rfl (by simp)
                have e13 := hk 13 (by kernel_rfl)
                rw [e13] at h13
                refine Qg.landsG_free rfl ?_
                exact Qf.lands_val _ _ (qPickF rfl h8 h13) ⟨Below.refl _ _, rfl⟩
              | 15, _, ho, hk =>
                cases ho
                have h14 := hA 14 _ 49 (by decide) rfl rfl (by simp)
                have e14 := hk 14 (by kernel_rfl)
                rw [e14] at h14
                refine Qg.landsG_free rfl ?_
                exact Qf.lands_move _ rfl _ h14 ⟨Below.refl _ _, rfl⟩
              | 16, _, ho, hk =>
                cases ho
                have h15 := hA 15 _ 50 (by decide) rfl rfl (by simp)
                have e15 := hk 15 (by kernel_rfl)
                rw [e15] at h15
                refine Qg.landsG_on 15 false 50 rfl rfl h15 ?_
                exact Qf.lands_val _ _ (qFieldF1 rfl ((hO 8 (by rfl)).trans rfl)) ⟨Below.refl _ _, rfl⟩
              | 17, _, ho, hk =>
                cases ho
                have h16 := hA 16 _ 51 (by decide) rfl rfl (by simp)
                have e16 := hk 16 (by kernel_rfl)
                rw [e16] at h16
                have h15 := hA 15 _ 50 (by decide) rfl rfl (by simp)
                have e15 := hk 15 (by kernel_rfl)
                rw [e15] at h15
                refine Qg.landsG_on 15 false 50 rfl rfl h15 ?_
                exact Qf.lands_val _ _ (qLoadS rfl h16 (LD.out wS hb).2.1) ⟨Below.refl _ _, rfl⟩
              | 18, _, ho, hk =>
                cases ho
                have h15 := hA 15 _ 50 (by decide) rfl rfl (by simp)
                have e15 := hk 15 (by kernel_rfl)
                rw [e15] at h15
                refine Qg.landsG_on 15 false 50 rfl rfl h15 ?_
                exact Qf.lands_val _ _ (qFieldN0 rfl ((hO 1 (by rfl)).trans rfl)) ⟨Below.refl _ _, rfl⟩
              | 19, _, ho, hk =>
                cases ho
                have h18 := hA 18 _ 53 (by decide) rfl rfl (by simp)
                have e18 := hk 18 (by kernel_rfl)
                rw [e18] at h18
                have h15 := hA 15 _ 50 (by decide) rfl rfl (by simp)
                have e15 := hk 15 (by kernel_rfl)
                rw [e15] at h15
                refine Qg.landsG_on 15 false 50 rfl rfl h15 ?_
                exact Qf.lands_val _ _ (qLoadS rfl h18 ((LD.out wS hb).2.2.1.trans ESA.out)) ⟨Below.refl _ _, rfl⟩
              | 20, _, ho, hk =>
                cases ho
                have h15 := hA 15 _ 50 (by decide) rfl rfl (by simp)
                have e15 := hk 15 (by kernel_rfl)
                rw [e15] at h15
                refine Qg.landsG_on 15 false 50 rfl rfl h15 ?_
                exact Qf.lands_val _ _ (qFieldF0 rfl ((hO 8 (by rfl)).trans rfl)) ⟨Below.refl _ _, rfl⟩
              | 21, _, ho, hk =>
                cases ho
                have h20 := hA 20 _ 55 (by decide) rfl rfl (by simp)
                have e20 := hk 20 (by kernel_rfl)
                rw [e20] at h20
                have h15 := hA 15 _ 50 (by decide) rfl rfl (by simp)
                have e15 := hk 15 (by kernel_rfl)
                rw [e15] at h15
                refine Qg.landsG_on 15 false 50 rfl rfl h15 ?_
                exact Qf.lands_val _ _ (qLoadI rfl h20 (LD.out wS hb).1) ⟨Below.refl _ _, rfl⟩
              | 22, _, ho, hk =>
                cases ho
                have h19 := hA 19 _ 54 (by decide) rfl rfl (by simp)
                have e19 := hk 19 (by kernel_rfl)
                rw [e19] at h19
                have h21 := hA 21 _ 56 (by decide) rfl rfl (by simp)
                have e21 := hk 21 (by kernel_rfl)
                rw [e21] at h21
                have h15 := hA 15 _ 50 (by decide) rfl rfl (by simp)
                have e15 := hk 15 (by kernel_rfl)
                rw [e15] at h15
                refine Qg.landsG_on 15 false 50 rfl rfl h15 ?_
                exact Qf.lands_val _ _ (qIdxI rfl h19 (h21.trans EU.out) nlt) ⟨Below.refl _ _, rfl⟩
              | 23, _, ho, hk =>
                cases ho
                have h22 := hA 22 _ 57 (by decide) rfl rfl (by simp)
                have e22 := hk 22 (by kernel_rfl)
                rw [e22] at h22
                have h15 := hA 15 _ 50 (by decide) rfl rfl (by simp)
                have e15 := hk 15 (by kernel_rfl)
                rw [e15] at h15
                refine Qg.landsG_on 15 false 50 rfl rfl h15 ?_
                exact Qf.lands_val _ _ (qLoadI rfl h22 (LD.out wS hb).2.2.2.2.1) ⟨Below.refl _ _, rfl⟩
              | 24, _, ho, hk =>
                cases ho
                have h17 := hA 17 _ 52 (by decide) rfl rfl (by simp)
                have e17 := hk 17 (by kernel_rfl)
                rw [e17] at h17
                have h23 := hA 23 _ 58 (by decide) rfl rfl (by simp)
                have e23 := hk 23 (by kernel_rfl)
                rw [e23] at h23
                have h15 := hA 15 _ 50 (by decide) rfl rfl (by simp)
                have e15 := hk 15 (by kernel_rfl)
                rw [e15] at h15
                refine Qg.landsG_on 15 false 50 rfl rfl h15 ?_
                refine Qf.lands_call 86 _ _ rfl (enters_of Try.func86 (by kernel_rfl) rfl) _ (by simp [h17, h23]) ((areNumbersF B da dr dcap dD sv wS (Nat.le_trans hBY.out hb.size) (LD.out wS hb).2.2.2.2.2 ld).mono ?_)
                rintro e wT ⟨rfl, bT⟩
                exact ⟨_, rfl, bT, congrArg Value.bool EAN.out⟩
              | 25, _, ho, hk =>
                cases ho
                have h24 := hA 24 _ 59 (by decide) rfl rfl (by simp)
                have e24 := hk 24 (by kernel_rfl)
                rw [e24] at h24
                have h15 := hA 15 _ 50 (by decide) rfl rfl (by simp)
                have e15 := hk 15 (by kernel_rfl)
                rw [e15] at h15
                refine Qg.landsG_on 15 false 50 rfl rfl h15 ?_
                exact Qf.lands_val _ _ (qNot rfl h24) ⟨Below.refl _ _, rfl⟩
              | _ + 26, hi, _, _ => exact absurd hi (by omega)
            case rest =>
            intro s Z hbS hk
            have e15 : s 15 = .bool false := hk 15 (by decide)
            have e25 : s 25 = .bool (!an) := hk 25 (by decide)
            simp only [List.take_succ_cons, List.take_zero, List.drop_succ_cons, List.drop_zero, Qf.lay, Qf.all1, if_true, e15, e25]
            simp only [Act.put, List.setIfInBounds_toArray, List.set_cons_succ, List.set_cons_zero]
            have BZ := hide (BY.out.trans (hbS.mono BY.out.size))
            have HZ := hide (HBY2.out.trans (hbS.mono HBY2.out.size))
            cases an with
            | false =>
              have e := hide (show ¬ ((∀ j, j < i → hasB j G (ID j) = false) ∧ ∀ j, j < fn → FxOk N j) from fun q => (of_decide_eq_false EAN.out) (by have q1 := (EF.out.1 (q.2 k hlt)).2.2; rw [ESV.out] at q1; exact q1))
              clear hk e15 e25 hbS LD
              go_wp2_with fail
              exact bodyPost_ret (v := .tuple #[.slice none 0 0, .bool false]) (by simp [results, Try.results56, go_sem]) rfl (NO.out _ e.out BZ.out)
            | true =>
              have ok := hide (show ∀ q, q < k + 1 → FxOk N q from fun q hq => by
                by_cases cq : q = k
                · rw [cq]
                  have r := of_decide_eq_true EAN.out
                  rw [← ESV.out] at r
                  exact EF.out.2 ⟨by have := EN.out; omega, by rw [EH.out]; exact HH.out, r⟩
                · exact HF.out q (by omega))
              have RZ := hide (RY.out.below hbS)
              have cz := (RZ.out.2 n nlt)
              dsimp only at cz
              rw [HH.out] at cz
              have lz := (LD.out Z hbS).1
              rw [EN.out] at lz
              obtain ⟨cz, fz⟩ := cz
              clear hk
              clear e15 e25 hbS LD
              go_wp2_with fail
              go_roundw
              all_goals first
                | (simp only [intOf]; omega)
                | (simp [intOf]; omega)
                | exact ⟨k + 1, by omega, by go_num, RZ.out.set (fun q _ => hasB_succ (i + k) G q (by rw [EGV.out, EN.out])), ok.out, HZ.out.setCell (p := ⟨W1.heap.size, n, none⟩) (Nat.le_refl _) _⟩
        case neg =>
          obtain rfl : k = fn := by omega
          go_wp2_with fail
          exact bodyPost_ret (v := .tuple #[.slice (some ⟨W1.heap.size, 0, none⟩) sn sn, .bool true]) (by simp [results, Try.results56, go_sem]) rfl (YES.out _ _ ⟨HI.out, HF.out⟩ ⟨W1.heap.size, rfl, RB.out, BX.out⟩)
theorem givenDoes : GivenDoes := givenF
end Vo
end Go.Proofs.Ytgmjijjckedmcaa
