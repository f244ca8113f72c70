/- Tree, groups, Nodes: the model (written by tools/genfp.py). -/
import Derived.Test.YtkllbolamgmmaaaFo
import Derived.Maps.AppendAt
namespace Go.Proofs.Ytkllbolamgmmaaa
namespace Vo
open Go.ChangeShapes Go.WideShapes Go.ChangeAt Go.RowKit Go.Joins Go.Sort
open Vl
set_option linter.unusedVariables false
set_option linter.unusedSimpArgs false
/-- a row put behind rows: what holds then -/
theorem putStep {E n g c ga c' ln gN c2 : Nat} {X V1 X3 : World} {L : List VM} {l : List Mov} (hn : L.length = n) (HR : RowsM E X (.slice (some ⟨g, 0, none⟩) n c) L) (hb : Below X.heap.size X V1) (hE : E ≤ X.heap.size) (ro : OM X.heap.size V1 (some ⟨ga, 0, none⟩) l) (hl : l.length = ln)
    (hown : X3.ownsRow E 30 1 (.slice (some ⟨gN, 0, none⟩) (n + 1) c2) (n + 1) (hdM L ++ [.slice (some ⟨ga, 0, none⟩) ln c'])) (hg : (V1.alloc (.cells #[.slice (some ⟨ga, 0, none⟩) ln c'] 30)).grownBy X3 (some g)) (hat : some g = some gN ∨ gN = V1.heap.size + 1) :
    RowsM E X3 (.slice (some ⟨gN, 0, none⟩) (n + 1) c2) (L ++ [⟨some ⟨ga, 0, none⟩, c', l⟩]) ∧ (L ++ [(⟨some ⟨ga, 0, none⟩, c', l⟩ : VM)]).length = n + 1 ∧ Below E X X3 ∧ (∀ b, b < X.heap.size → b ≠ g → X3.heap[b]? = X.heap[b]? ∧ b ≠ gN) ∧ X.heap.size ≤ X3.heap.size := by
  subst hn
  subst hl
  have BA : Below V1.heap.size V1 (V1.alloc (.cells #[.slice (some ⟨ga, 0, none⟩) l.length c'] 30)) := (Below.refl _ _).alloc (Nat.le_refl _) _
  have zz := hb.size
  have BX := hb.trans (BA.mono zz)
  have K := keptG hg
  have gl := HR.heads.lt g rfl
  refine ⟨HR.put BX hE (ro.below BA) hown K (hat.imp id Eq.symm) (by simp), by rw [List.length_append]; rfl, (BX.mono hE).trans (K.below (by rw [World.size_alloc]; omega) (fun b e => by cases e; exact gl.1)), fun b h1 h2 => ⟨?_, ?_⟩, Nat.le_trans BX.size K.size⟩
  · rw [K.block b (Nat.lt_of_lt_of_le h1 BX.size) (fun e => h2 (Option.some.inj e).symm)]
    exact BX.block b h1
  · rcases hat with e | e
    · cases e; exact h2
    · omega
/-- the steps, where they stand -/
def StA (s gs : Nat) (w : World) : Prop := gs < w.heap.size ∧ ∀ j, j < s → w.cell? ⟨gs, 0 + j, none⟩ = some (.int .i64 ((2 ^ j : Nat) : Int))
theorem StA.keep {s gs : Nat} {w w' : World} (h : StA s gs w) (hb : w'.heap[gs]? = w.heap[gs]?) (hz : w.heap.size ≤ w'.heap.size) : StA s gs w' :=
  ⟨Nat.lt_of_lt_of_le h.1 hz, fun j hj => (World.cell?_of_block (w := w) (a := ⟨gs, 0 + j, none⟩) hb).trans (h.2 j hj)⟩
def treeUp (m apart k : Nat) : List (List Mov) := (List.range k).map fun j => pairsL (2 ^ j) m 0 apart true
def treeDn (m apart k : Nat) : List (List Mov) := (List.range k).map fun j => pairsL (2 ^ (scn m - 1 - j)) m 0 apart false
def treeL (m apart : Nat) : List (List Mov) := treeUp m apart (scn m) ++ treeDn m apart (scn m)
theorem pow64 {k : Nat} (h : k ≤ 6) : 1 ≤ 2 ^ k ∧ 2 ^ k ≤ 64 := ⟨Nat.one_le_two_pow, by have : 2 ^ k ≤ 2 ^ 6 := Nat.pow_le_pow_right (by omega) h; exact this⟩
set_option maxRecDepth 100000 in
set_option maxHeartbeats 2000000 in
theorem treeS (m apart : Nat) (w : World) (m64 : m ≤ 64) (a64 : apart ≤ 64) :
    Calls Try.prog 26 #[.int .i64 m, .int .i64 apart] w (RowsA (treeL m apart) w) := by
  obtain ⟨i0, hi0, hii⟩ := Option.map_eq_some_iff.1 infoMoveS
  simp only [Prod.mk.injEq] at hii
  obtain ⟨hz0, hz1, hz2⟩ := hii
  obtain ⟨Y, hY⟩ : ∃ Y, w.alloc (.cells #[] 30) = Y := ⟨_, rfl⟩
  have R0 := hide (show RowsM w.heap.size Y (.slice (some ⟨w.heap.size, 0, none⟩) 0 0) [] by rw [← hY]; exact rowsM_new w)
  have BY := hide (show Below w.heap.size w Y by rw [← hY]; exact (Below.refl _ _).alloc (Nat.le_refl _) _)
  have YS : w.heap.size < Y.heap.size := by rw [← hY]; simp
  have CS := hide (stepsS m Y m64)
  have TL := hide (show treeL m apart = treeUp m apart (scn m) ++ treeDn m apart (scn m) from rfl)
  have s6 := scn_le m64
  obtain ⟨s, hs⟩ : ∃ s, scn m = s := ⟨_, rfl⟩
  rw [hs] at CS TL s6
  have ES := hide hs
  clear hs
  go_enter Try.func26, Try.ntmps26
  go_wp2_with fail
  refine CS.out.mono ?_
  rintro e W1 ⟨gs, sc, rfl, g1, g2, hst, q⟩
  have ST := hide (show StA s gs W1 from ⟨g2, hst⟩)
  have GS := hide (show w.heap.size ≠ gs by omega)
  have R1 := hide (R0.out.below q)
  have B1 := hide (BY.out.trans (q.mono BY.out.size))
  clear g1 g2 hst q CS hY
  go_wp2_with fail
  go_loopw [5, 7] (fun o h wx => ∃ (k g c n : Nat) (L : List VM), k ≤ s ∧ h = .int .i64 k ∧ o = .slice (some ⟨g, 0, none⟩) n c ∧ L.length = n ∧ RowsM w.heap.size wx (.slice (some ⟨g, 0, none⟩) n c) L ∧ cnt L = treeUp m apart k ∧ StA s gs wx ∧ gs ≠ g ∧ Below w.heap.size w wx) (fun _ h _ => s - (intOf h).toNat)
  case atStart => exact ⟨0, _, _, 0, [], by omega, rfl, rfl, rfl, R1.out, rfl, ST.out, Ne.symm GS.out, B1.out⟩
  case round =>
    obtain ⟨X, rfl⟩ : ∃ X, X = wr := ⟨_, rfl⟩
    obtain ⟨k, g, c, n, L, hk, rfl, rfl, hn, hr, hc, hs, hg, hby⟩ := hrel
    have HR := hide hr
    have HC := hide hc
    have HS := hide hs
    have HG := hide hg
    have HB := hide hby
    have HN := hide hn
    have nl : n ≤ 32 := by rw [← hn, ← cnt_len, hc]; simp [treeUp]; omega
    have zX := hby.size
    clear hr hc hs hg hby hn
    by_cases hlt : k < s
    case neg =>
      obtain rfl : k = s := by omega
      have kI : decide ((k : Int) < (k : Int)) = false := decide_eq_false (by omega)
      have wk : IntKind.i64.wrap ((k : Int) - 1) = (k : Int) - 1 := by rw [IntKind.wrap_i64]; omega
      go_wp2_with fail
      go_loopw [5, 8] (fun o h wx => ∃ (t : Nat) (z : Int) (g c n : Nat) (L : List VM), t ≤ k ∧ z = (k : Int) - 1 - t ∧ h = .int .i64 z ∧ o = .slice (some ⟨g, 0, none⟩) n c ∧ L.length = n ∧ RowsM w.heap.size wx (.slice (some ⟨g, 0, none⟩) n c) L ∧ cnt L = treeUp m apart k ++ treeDn m apart t ∧ StA k gs wx ∧ gs ≠ g ∧ Below w.heap.size w wx) (fun _ h _ => (intOf h + 1).toNat)
      case atStart => exact ⟨0, _, _, _, _, L, by omega, by omega, rfl, rfl, HN.out, HR.out, by rw [HC.out]; simp [treeDn], HS.out, HG.out, HB.out⟩
      case round =>
        clear HR HC HS HG HB HN nl zX kI wk
        obtain ⟨X, rfl⟩ : ∃ X, X = wr := ⟨_, rfl⟩
        obtain ⟨t, z, g, c, n, L, ht, hz, rfl, rfl, hn, hr, hc, hs, hg, hby⟩ := hrel
        have HR := hide hr
        have HC := hide hc
        have HS := hide hs
        have HG := hide hg
        have HB := hide hby
        have HN := hide hn
        have nl : n ≤ 32 := by rw [← hn, ← cnt_len, hc]; simp [treeUp, treeDn]; omega
        have zX := hby.size
        clear hr hc hs hg hby hn
        by_cases htl : t < k
        case neg =>
          obtain rfl : t = k := by omega
          have zI : decide ((0 : Int) ≤ z) = false := decide_eq_false (by omega)
          clear hz
          go_wp2_with fail
          go_ret
          exact ⟨g, c, L, by rw [HN.out]; rfl, by rw [HN.out]; exact HR.out, by rw [HC.out, TL.out], HB.out⟩
        obtain ⟨i, hi⟩ : ∃ i : Nat, i = k - 1 - t := ⟨_, rfl⟩
        obtain rfl : z = (i : Int) := by omega
        have ik : i < k := by omega
        have c0 := HS.out.2 i ik
        have iI : (i : Int) < (k : Int) := by omega
        have i0I : (0 : Int) ≤ (i : Int) := by omega
        obtain ⟨p1, p2⟩ := pow64 (k := i) (by omega)
        have CP := hide (pairsS (2 ^ i) m 0 apart false X p1 p2 m64 (by omega) a64)
        have PE := hide (show treeUp m apart k ++ treeDn m apart (t + 1) = (treeUp m apart k ++ treeDn m apart t) ++ [pairsL (2 ^ i) m 0 apart false] by
          rw [List.append_assoc, show treeDn m apart (t + 1) = treeDn m apart t ++ [pairsL (2 ^ (scn m - 1 - t)) m 0 apart false] from range_more _ t, ES.out, hi])
        obtain ⟨l, hl⟩ : ∃ l, pairsL (2 ^ i) m 0 apart false = l := ⟨_, rfl⟩
        rw [hl] at CP PE
        obtain ⟨ln, hln⟩ : ∃ ln, l.length = ln := ⟨_, rfl⟩
        rw [hln] at CP
        have LN := hide hln
        obtain ⟨d, hd⟩ : ∃ d : Int, ((2 ^ i : Nat) : Int) = d := ⟨_, rfl⟩
        rw [hd] at CP c0
        rw [show ((0 : Nat) : Int) = 0 from rfl] at CP
        rw [Nat.zero_add] at c0
        have HZ := hide hi
        clear hl hln hd p1 p2 hi hz
        go_wp2_with fail
        refine CP.out.mono ?_
        rintro e V1 ⟨ga, ca, rfl, oa, q⟩
        have OA := hide oa
        have QB := hide q
        have HH := hide (show V1.ownsRow w.heap.size 30 1 (.slice (some ⟨g, 0, none⟩) n c) n (hdM L) by have := (HR.out.below q).heads; rw [HN.out] at this; exact this)
        have zV := q.size
        clear oa q CP c0
        go_wp2_with (at_builtin; refine wpList_append_lies _ rfl _ _ 22 rfl w.heap.size 30 i0 (.slice none 0 0) 1 24 Try.underlying22 hi0 hz0 hz1 hz2 rfl (by decide) _ _ _ rfl (HH.out.alloc _) ⟨V1.heap.size, 0, none⟩ 1 1 [.slice (some ⟨ga, 0, none⟩) ln ca] rfl rfl (World.news_of_block (cs := #[.slice (some ⟨ga, 0, none⟩) ln ca]) (t := 30) (fr := (0, 0)) (heap_alloc_new V1 _)) (by simp [Value.oneCell']) (by omega) (by unfold maxLen; omega) (by omega) (by simp; omega) (V1.heap.size + 1) (by simp) ?_; intro gN c2 X3 hown1 hgrow1 hat hlt3)
        obtain ⟨P1, P2, P3, P4, P5⟩ := putStep HN.out HR.out QB.out zX OA.out LN.out hown1 hgrow1 hat
        obtain ⟨P4a, P4b⟩ := P4 gs HS.out.1 HG.out
        have FIN := hide (And.intro P1 (And.intro (show cnt (L ++ [⟨some ⟨ga, 0, none⟩, ca, l⟩]) = treeUp m apart k ++ treeDn m apart (t + 1) by rw [cnt_app, HC.out, PE.out]; rfl) (And.intro (HS.out.keep P4a P5) (And.intro P4b (HB.out.trans P3)))))
        have FL := hide P2
        clear P1 P2 P3 P4 P4a P4b P5 hown1 hgrow1 hat hlt3 HH OA QB HR HC HS HG HB HN PE
        go_roundw
        case rel => exact ⟨t + 1, (i : Int) - 1, gN, c2, n + 1, _, by omega, by have := HZ.out; omega, by go_num, rfl, FL.out, FIN.out.1, FIN.out.2.1, FIN.out.2.2.1, FIN.out.2.2.2.1, FIN.out.2.2.2.2⟩
        case measure => first | (simp [intOf]; done) | (simp [intOf]; omega)
    have kI : (k : Int) < (s : Int) := by omega
    have c0 := HS.out.2 k hlt
    obtain ⟨p1, p2⟩ := pow64 (k := k) (by omega)
    have CP := hide (pairsS (2 ^ k) m 0 apart true X p1 p2 m64 (by omega) a64)
    have PE := hide (show treeUp m apart (k + 1) = treeUp m apart k ++ [pairsL (2 ^ k) m 0 apart true] from range_more _ k)
    obtain ⟨l, hl⟩ : ∃ l, pairsL (2 ^ k) m 0 apart true = l := ⟨_, rfl⟩
    rw [hl] at CP PE
    obtain ⟨ln, hln⟩ : ∃ ln, l.length = ln := ⟨_, rfl⟩
    rw [hln] at CP
    have LN := hide hln
    obtain ⟨d, hd⟩ : ∃ d : Int, ((2 ^ k : Nat) : Int) = d := ⟨_, rfl⟩
    rw [hd] at CP c0
    rw [show ((0 : Nat) : Int) = 0 from rfl] at CP
    rw [Nat.zero_add] at c0
    clear hl hln hd p1 p2
    go_wp2_with fail
    refine CP.out.mono ?_
    rintro e V1 ⟨ga, ca, rfl, oa, q⟩
    have OA := hide oa
    have QB := hide q
    have HH := hide (show V1.ownsRow w.heap.size 30 1 (.slice (some ⟨g, 0, none⟩) n c) n (hdM L) by have := (HR.out.below q).heads; rw [HN.out] at this; exact this)
    have zV := q.size
    clear oa q CP c0
    go_wp2_with (at_builtin; refine wpList_append_lies _ rfl _ _ 22 rfl w.heap.size 30 i0 (.slice none 0 0) 1 24 Try.underlying22 hi0 hz0 hz1 hz2 rfl (by decide) _ _ _ rfl (HH.out.alloc _) ⟨V1.heap.size, 0, none⟩ 1 1 [.slice (some ⟨ga, 0, none⟩) ln ca] rfl rfl (World.news_of_block (cs := #[.slice (some ⟨ga, 0, none⟩) ln ca]) (t := 30) (fr := (0, 0)) (heap_alloc_new V1 _)) (by simp [Value.oneCell']) (by omega) (by unfold maxLen; omega) (by omega) (by simp; omega) (V1.heap.size + 1) (by simp) ?_; intro gN c2 X3 hown1 hgrow1 hat hlt3)
    obtain ⟨P1, P2, P3, P4, P5⟩ := putStep HN.out HR.out QB.out zX OA.out LN.out hown1 hgrow1 hat
    obtain ⟨P4a, P4b⟩ := P4 gs HS.out.1 HG.out
    have FIN := hide (And.intro P1 (And.intro (show cnt (L ++ [⟨some ⟨ga, 0, none⟩, ca, l⟩]) = treeUp m apart (k + 1) by rw [cnt_app, HC.out, PE.out]; rfl) (And.intro (HS.out.keep P4a P5) (And.intro P4b (HB.out.trans P3)))))
    have FL := hide P2
    clear P1 P2 P3 P4 P4a P4b P5 hown1 hgrow1 hat hlt3 HH OA QB HR HC HS HG HB HN PE
    go_roundw
    case rel => exact ⟨k + 1, gN, c2, n + 1, _, by omega, by go_num, rfl, FL.out, FIN.out.1, FIN.out.2.1, FIN.out.2.2.1, FIN.out.2.2.2.1, FIN.out.2.2.2.2⟩
    case measure => simp [intOf]; omega
theorem specTree (z : Int) (w : World) (hz : bd z) : Calls Try.prog 11 #[.int .i64 z] w (RowsA (if 1 ≤ z ∧ z ≤ 64 then treeL z.toNat 1 else []) w) := by
  have CI := hide (l5InN z 1 64 w)
  by_cases hb : 1 ≤ z ∧ z ≤ 64
  case neg =>
    rw [decide_eq_false hb] at CI
    rw [if_neg hb]
    clear hb hz
    go_enter Try.func11, Try.ntmps11
    go_wp2_with fail
    refine CI.out.mono ?_
    rintro e W1 ⟨rfl, rfl⟩
    go_wp2_with fail
    go_ret
    exact ⟨_, _, [], rfl, rowsM_new _, rfl, (Below.refl _ _).alloc (Nat.le_refl _) _⟩
  rw [decide_eq_true hb] at CI
  rw [if_pos hb]
  obtain ⟨n, rfl⟩ : ∃ n : Nat, z = n := ⟨z.toNat, by omega⟩
  rw [Int.toNat_natCast]
  have CT := hide (treeS n 1 w (by omega) (by omega))
  rw [show ((1 : Nat) : Int) = 1 from rfl] at CT
  clear hb hz
  go_enter Try.func11, Try.ntmps11
  go_wp2_with fail
  refine CI.out.mono ?_
  rintro e W1 ⟨rfl, rfl⟩
  go_wp2_with fail
  refine CT.out.mono ?_
  rintro e W1 ⟨g, c, L, rfl, h1, h2, h3⟩
  have H1 := hide h1
  have H2 := hide h2
  have H3 := hide h3
  clear h1 h2 h3 CT CI
  go_wp2_with fail
  go_ret
  exact ⟨g, c, L, rfl, H1.out, H2.out, H3.out⟩
end Vo
end Go.Proofs.Ytkllbolamgmmaaa
