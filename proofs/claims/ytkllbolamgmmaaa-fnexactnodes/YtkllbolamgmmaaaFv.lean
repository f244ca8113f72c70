/- Nodes: the model (written by tools/genfv.py). -/
import Derived.Test.YtkllbolamgmmaaaFu
namespace Go.Proofs.Ytkllbolamgmmaaa
namespace Vo
open Go.ChangeShapes Go.WideShapes Go.ChangeAt Go.RowKit Go.Joins Go.Sort
open Vl
set_option linter.unusedVariables false
set_option linter.unusedSimpArgs false
/-- a row put behind rows, wherever it lies -/
theorem putStepO {E n g c c' ln gN c2 : Nat} {X V1 X3 : World} {L : List VM} {l : List Mov} {ra : Option Addr} (hn : L.length = n) (HR : RowsM E X (.slice (some ⟨g, 0, none⟩) n c) L) (hb : Below X.heap.size X V1) (hE : E ≤ X.heap.size) (ro : OM X.heap.size V1 ra l) (hl : l.length = ln)
    (hown : X3.ownsRow E 30 1 (.slice (some ⟨gN, 0, none⟩) (n + 1) c2) (n + 1) (hdM L ++ [.slice ra ln c'])) (hg : (V1.alloc (.cells #[.slice ra ln c'] 30)).grownBy X3 (some g)) (hat : some g = some gN ∨ gN = V1.heap.size + 1) :
    RowsM E X3 (.slice (some ⟨gN, 0, none⟩) (n + 1) c2) (L ++ [⟨ra, c', l⟩]) ∧ (L ++ [(⟨ra, c', l⟩ : VM)]).length = n + 1 ∧ Below E X X3 ∧ (∀ b, b < X.heap.size → b ≠ g → X3.heap[b]? = X.heap[b]? ∧ b ≠ gN) ∧ X.heap.size ≤ X3.heap.size := by
  subst hn
  subst hl
  have BA : Below V1.heap.size V1 (V1.alloc (.cells #[.slice ra l.length c'] 30)) := (Below.refl _ _).alloc (Nat.le_refl _) _
  have zz := hb.size
  have BX := hb.trans (BA.mono zz)
  have K := keptG hg
  have gl := HR.heads.lt g rfl
  refine ⟨HR.put BX hE (ro.below BA) hown K (hat.imp id Eq.symm) (by simp), by rw [List.length_append]; rfl, (BX.mono hE).trans (K.below (by rw [World.size_alloc]; omega) (fun b e => by cases e; exact gl.1)), fun b h1 h2 => ⟨?_, ?_⟩, Nat.le_trans BX.size K.size⟩
  · rw [K.block b (Nat.lt_of_lt_of_le h1 BX.size) (fun e => h2 (Option.some.inj e).symm)]
    exact BX.block b h1
  · rcases hat with e | e
    · cases e; exact h2
    · omega
/-- rows put behind rows -/
theorem RowsM.putMany {E : Nat} {X V1 X3 : World} {v v' u : Value} {L L2 : List VM} (h : RowsM E X v L) (hb : Below X.heap.size X V1) (hE : E ≤ X.heap.size) (h2 : RowsM X.heap.size V1 u L2)
    (ho : X3.ownsRow E 30 1 v' (L.length + L2.length) (hdM L ++ hdM L2)) (hk : Kept (fun b => v.ownBlock = some b) V1 X3) (hat : v'.ownBlock = v.ownBlock ∨ v'.ownBlock = some V1.heap.size) : RowsM E X3 v' (L ++ L2) := by
  have h1 := h.below hb
  have zz := hb.size
  have vlt : ∀ b, v.ownBlock = some b → b < X.heap.size := fun b e => (h.heads.lt b e).2
  refine ⟨by rw [List.length_append, hdM_app]; exact ho, fun x hx => ?_, fun x hx b q e => ?_, List.pairwise_append.2 ⟨h.apart, h2.apart, fun x hx y hy b q q' => ?_⟩⟩
  · rcases List.mem_append.1 hx with m | m
    · exact (h1.own x m).kept hk (fun b q e => h.ne x m b q e)
    · exact ((h2.own x m).kept hk (fun b q e => by have := ((h2.own x m).blk q).1; have := vlt b e; omega)).mono hE
  · rcases List.mem_append.1 hx with m | m
    · rcases hat with c | c
      · exact h.ne x m b q (c ▸ e)
      · rw [c] at e
        have := ((h.own x m).blk q).2
        have := Option.some.inj e
        omega
    · have r := (h2.own x m).blk q
      rcases hat with c | c
      · have := vlt b (c ▸ e)
        omega
      · rw [c] at e
        have := Option.some.inj e
        omega
  · have := ((h.own x hx).blk q).2
    have := ((h2.own y hy).blk q').1
    omega
set_option maxRecDepth 100000 in
set_option maxHeartbeats 3000000 in
theorem nodesS (n each : Nat) (w : World) (n1 : 1 ≤ n) (n64 : n ≤ 64) (e1 : 1 ≤ each) (e64 : each ≤ 64) :
    Calls Try.prog 13 #[.int .i64 n, .int .i64 each] w (RowsA (nodesL n each) w) := by
  obtain ⟨i0, hi0, hii⟩ := Option.map_eq_some_iff.1 infoMoveS
  simp only [Prod.mk.injEq] at hii
  obtain ⟨hz0, hz1, hz2⟩ := hii
  obtain ⟨Y, hY⟩ : ∃ Y, w.alloc (.cells #[] 30) = Y := ⟨_, rfl⟩
  have R0 := hide (show RowsM w.heap.size Y (.slice (some ⟨w.heap.size, 0, none⟩) 0 0) [] by rw [← hY]; exact rowsM_new w)
  have BY := hide (show Below w.heap.size w Y by rw [← hY]; exact (Below.refl _ _).alloc (Nat.le_refl _) _)
  have YS : w.heap.size < Y.heap.size := by rw [← hY]; simp
  have CI1 := hide (l5InN (n : Int) 1 64 Y)
  have CI2 := hide (l5InN (each : Int) 1 64 Y)
  rw [decide_eq_true (show (1 : Int) ≤ (n : Int) ∧ (n : Int) ≤ 64 by omega)] at CI1
  rw [decide_eq_true (show (1 : Int) ≤ (each : Int) ∧ (each : Int) ≤ 64 by omega)] at CI2
  have m64 : min each n ≤ 64 := by omega
  have CS := hide (stepsS (min each n) Y m64)
  have NL := hide (show nodesL n each = tabUp (grpsR n each) (scn (min each n)) ++ treeL (gcn n each) each ++ (tabDn (grpsR n each) (scn (min each n))).reverse from rfl)
  have RD := hide (fun k => (rev_range (fun j => moa (grpsR n each) (2 ^ j) false) k))
  have gl : gcn n each ≤ 64 := Nat.le_trans (gcn_le e1) n64
  have gq : ((n : Int) + each - 1).tdiv each = (gcn n each : Int) := by
    unfold gcn
    rw [Int.tdiv_eq_ediv_of_nonneg (by omega)]
    have : (n : Int) + each - 1 = ((n + each - 1 : Nat) : Int) := by omega
    rw [this]
    rfl
  have s6 := scn_le m64
  obtain ⟨s, hs⟩ : ∃ s, scn (min each n) = s := ⟨_, rfl⟩
  rw [hs] at CS NL s6
  have GR := hide (fun (W : World) (d : Nat) (add : Bool) (h1 : 1 ≤ d) (h2 : d ≤ 64) => groupsS d n each add W h1 h2 n64 e1 e64)
  have CT := hide (fun (W : World) => treeS (gcn n each) each W gl e64)
  obtain ⟨G, hG⟩ : ∃ G, grpsR n each = G := ⟨_, rfl⟩
  rw [hG] at NL RD GR
  obtain ⟨gc, hgc⟩ : ∃ gc, gcn n each = gc := ⟨_, rfl⟩
  rw [hgc] at NL gl gq CT
  have TLn := hide (show (treeL gc each).length ≤ 12 by have := scn_le gl; unfold treeL treeUp treeDn; simp; omega)
  obtain ⟨TR, hTR⟩ : ∃ TR, treeL gc each = TR := ⟨_, rfl⟩
  rw [hTR] at NL CT TLn
  have nz : ((each : Int) == 0) = false := by simp; omega
  have nz' : ¬ (each : Int) = 0 := by omega
  have e1I : (1 : Int) ≤ (each : Int) := by omega
  have wq1 : IntKind.i64.wrap ((n : Int) + (each : Int)) = (n : Int) + each := by rw [IntKind.wrap_i64]; omega
  have wq2 : IntKind.i64.wrap ((n : Int) + (each : Int) - 1) = (n : Int) + each - 1 := by rw [IntKind.wrap_i64]; omega
  have wq3 : IntKind.i64.wrap (gc : Int) = (gc : Int) := by rw [IntKind.wrap_i64]; omega
  have FI : Hid (((min each n : Nat) : Int) = (n : Int) ∨ ((min each n : Nat) : Int) = (each : Int)) := hide (by omega)
  clear hs hG hgc hTR
  go_enter Try.func13, Try.ntmps13
  go_wp2_with fail
  refine CI1.out.mono ?_
  rintro e W1 ⟨rfl, rfl⟩
  go_wp2_with fail
  refine CI2.out.mono ?_
  rintro e W1 ⟨rfl, rfl⟩
  clear CI1 CI2
  by_cases hc : n < each
  all_goals (
    first
    | (have cI : (n : Int) < (each : Int) := by omega
       have cI' : n < each := hc
       have em : ((min each n : Nat) : Int) = (n : Int) := by omega
       rw [em] at CS
       clear em hc)
    | (have cI : decide ((n : Int) < (each : Int)) = false := decide_eq_false (by omega)
       have cI' : decide (n < each) = false := decide_eq_false hc
       have em : ((min each n : Nat) : Int) = (each : Int) := by omega
       rw [em] at CS
       clear em hc)
    go_wp2_with fail
    refine CS.out.mono ?_
    rintro e W1 ⟨gs, sc, rfl, g1, g2, hst, q⟩
    have ST := hide (show StA s gs W1 from ⟨g2, hst⟩)
    have GS := hide (show w.heap.size ≠ gs by omega)
    have R1 := hide (R0.out.below q)
    have B1 := hide (BY.out.trans (q.mono BY.out.size))
    clear g1 g2 hst q CS hY cI cI'
    go_wp2_with fail
    go_loopw [5, 8] (fun o h wx => ∃ (k g c m : Nat) (L : List VM), k ≤ s ∧ h = .int .i64 k ∧ o = .slice (some ⟨g, 0, none⟩) m c ∧ L.length = m ∧ RowsM w.heap.size wx (.slice (some ⟨g, 0, none⟩) m c) L ∧ cnt L = tabUp G k ∧ StA s gs wx ∧ gs ≠ g ∧ Below w.heap.size w wx) (fun _ h _ => s - (intOf h).toNat)
    case atStart => exact ⟨0, _, _, 0, [], by omega, rfl, rfl, rfl, R1.out, rfl, ST.out, Ne.symm GS.out, B1.out⟩
    case round =>
      obtain ⟨X, rfl⟩ : ∃ X, X = wr := ⟨_, rfl⟩
      obtain ⟨k, g, c, m, L, hk, rfl, rfl, hn, hr, hc, hs, hg, hby⟩ := hrel
      have HR := hide hr
      have HC := hide hc
      have HS := hide hs
      have HG := hide hg
      have HB := hide hby
      have HN := hide hn
      have nl : m ≤ 32 := by rw [← hn, ← cnt_len, hc]; simp [tabUp]; omega
      have zX := hby.size
      clear hr hc hs hg hby hn
      by_cases hlt : k < s
      case neg =>
        obtain rfl : k = s := by omega
        have kI : decide ((k : Int) < (k : Int)) = false := decide_eq_false (by omega)
        have wk : IntKind.i64.wrap ((k : Int) - 1) = (k : Int) - 1 := by rw [IntKind.wrap_i64]; omega
        have CTX := hide (CT.out X)
        go_wp2_with fail
        refine CTX.out.mono ?_
        rintro e V1 ⟨gt, ct, L2, rfl, r2, c2', q⟩
        have L2n := hide (show L2.length = TR.length by rw [← cnt_len, c2'])
        obtain ⟨m2, hm2⟩ : ∃ m2, L2.length = m2 := ⟨_, rfl⟩
        have M2 := hide hm2
        have m212 : m2 ≤ 12 := by rw [← hm2, L2n.out]; exact TLn.out
        rw [hm2] at r2 ⊢
        have R2 := hide r2
        have C2 := hide c2'
        have QB := hide q
        have HH := hide (show V1.ownsRow w.heap.size 30 1 (.slice (some ⟨g, 0, none⟩) m c) m (hdM L) by have := (HR.out.below q).heads; rw [HN.out] at this; exact this)
        have H2 := hide (show V1.ownsRow X.heap.size 30 1 (.slice (some ⟨gt, 0, none⟩) m2 ct) m2 (hdM L2) by have := r2.heads; rw [M2.out] at this; exact this)
        have zV := q.size
        clear r2 c2' q CTX hm2
        go_wp2_with (at_builtin; refine wpList_append_own_at _ rfl _ _ 22 rfl w.heap.size 30 i0 (.slice none 0 0) 1 24 Try.underlying22 hi0 hz0 hz1 hz2 rfl (by decide) _ _ _ rfl HH.out ⟨gt, 0, none⟩ m2 ct (hdM L2) rfl (by rw [hdM_len, M2.out]; omega) (World.ownsRow.cells (g := gt) H2.out rfl) (hdM_one L2) (by unfold maxLen; omega) (by omega) (by omega) ?_; intro v' X3 hown1 hgrow1 hnil hat)
        have P := HR.out.putMany QB.out zX R2.out (by rw [HN.out, M2.out]; exact hown1) (keptG hgrow1) hat
        obtain ⟨gN, cN, rfl⟩ : ∃ g' c', v' = .slice (some ⟨g', 0, none⟩) (m + m2) c' := by
          rcases Go.Joins.ownsRow_forms hown1 with ⟨e, _⟩ | ⟨g', c', e⟩
          · have e3 := (hnil.1 e).1
            injection e3 with e4
            cases e4
          · exact ⟨g', c', e⟩
        have P1 := hide P
        have LM := hide (show (L ++ L2).length = m + m2 by rw [List.length_append, HN.out, M2.out])
        have CC := hide (show cnt (L ++ L2) = tabUp G k ++ TR by rw [cnt_app, HC.out, C2.out])
        have KG := keptG hgrow1
        have lg := HR.out.heads.lt g rfl
        have SS := hide (HS.out.keep (w' := X3) (by
          rw [KG.block gs (Nat.lt_of_lt_of_le HS.out.1 zV) (fun e => HG.out (Option.some.inj e).symm)]
          exact QB.out.block gs HS.out.1) (Nat.le_trans zV KG.size))
        have GG := hide (show gs ≠ gN by
          rcases hat with e | e
          · have e : gN = g := Option.some.inj e
            rw [e]; exact HG.out
          · have e : gN = V1.heap.size := Option.some.inj e
            have := HS.out.1
            omega)
        have BB := hide (HB.out.trans ((QB.out.mono zX).trans (KG.below (Nat.le_trans zX zV) (fun b e => by have e : g = b := Option.some.inj e; have := lg.1; omega))))
        clear hown1 hgrow1 hnil hat P KG lg HH H2 QB R2 C2 M2 L2n HR HC HS HG HB HN
        have mm : m + m2 ≤ 44 := by omega
        obtain ⟨m3, hm3⟩ : ∃ m3, m + m2 = m3 := ⟨_, rfl⟩
        rw [hm3] at P1 LM mm ⊢
        obtain ⟨L3, hL3⟩ : ∃ L3, L ++ L2 = L3 := ⟨_, rfl⟩
        rw [hL3] at P1 LM CC
        clear hm3 hL3 nl m212
        go_wp2_with fail
        go_loopw [5, 9] (fun o h wx => ∃ (t : Nat) (z : Int) (g c m : Nat) (L : List VM), t ≤ k ∧ z = (k : Int) - 1 - t ∧ h = .int .i64 z ∧ o = .slice (some ⟨g, 0, none⟩) m c ∧ L.length = m ∧ m ≤ 44 + t ∧ RowsM w.heap.size wx (.slice (some ⟨g, 0, none⟩) m c) L ∧ cnt L = tabUp G k ++ TR ++ (List.range t).map (fun j => moa G (2 ^ (k - 1 - j)) false) ∧ StA k gs wx ∧ gs ≠ g ∧ Below w.heap.size w wx) (fun _ h _ => (intOf h + 1).toNat)
        case atStart => exact ⟨0, _, _, _, _, L3, by omega, by omega, rfl, rfl, LM.out, by omega, P1.out, by rw [CC.out]; simp, SS.out, GG.out, BB.out⟩
        case round =>
          clear P1 LM CC SS GG BB zX kI wk mm zV
          obtain ⟨X, rfl⟩ : ∃ X, X = wr := ⟨_, rfl⟩
          obtain ⟨t, z, g, c, m, L, ht, hz, rfl, rfl, hn, hm, hr, hc, hs, hg, hby⟩ := hrel
          have HR := hide hr
          have HC := hide hc
          have HS := hide hs
          have HG := hide hg
          have HB := hide hby
          have HN := hide hn
          have zX := hby.size
          clear hr hc hs hg hby hn
          by_cases htl : t < k
          case neg =>
            obtain rfl : t = k := by omega
            have zI : decide ((0 : Int) ≤ z) = false := decide_eq_false (by omega)
            clear hz
            go_wp2_with fail
            go_ret
            exact ⟨g, c, L, by rw [HN.out]; rfl, by rw [HN.out]; exact HR.out, by rw [HC.out, NL.out, tabDn, RD.out], HB.out⟩
          obtain ⟨i, hi⟩ : ∃ i : Nat, i = k - 1 - t := ⟨_, rfl⟩
          obtain rfl : z = (i : Int) := by omega
          have ik : i < k := by omega
          have c0 := HS.out.2 i ik
          have iI : (i : Int) < (k : Int) := by omega
          have i0I : (0 : Int) ≤ (i : Int) := by omega
          obtain ⟨p1, p2⟩ := pow64 (k := i) (by omega)
          have CP := hide (GR.out X (2 ^ i) false p1 p2)
          have PE := hide (show tabUp G k ++ TR ++ (List.range (t + 1)).map (fun j => moa G (2 ^ (k - 1 - j)) false) = (tabUp G k ++ TR ++ (List.range t).map (fun j => moa G (2 ^ (k - 1 - j)) false)) ++ [moa G (2 ^ i) false] by
            rw [range_more, hi]
            simp only [List.append_assoc])
          obtain ⟨l, hl⟩ : ∃ l, moa G (2 ^ i) false = l := ⟨_, rfl⟩
          rw [hl] at CP PE
          obtain ⟨ln, hln⟩ : ∃ ln, l.length = ln := ⟨_, rfl⟩
          rw [hln] at CP
          have LN := hide hln
          obtain ⟨d, hd⟩ : ∃ d : Int, ((2 ^ i : Nat) : Int) = d := ⟨_, rfl⟩
          rw [hd] at CP c0
          rw [Nat.zero_add] at c0
          have HZ := hide hi
          clear hl hln hd p1 p2 hi hz
          go_wp2_with fail
          refine CP.out.mono ?_
          rintro e V1 ⟨ga, ca, rfl, oa, q⟩
          have OA := hide oa
          have QB := hide q
          have HH := hide (show V1.ownsRow w.heap.size 30 1 (.slice (some ⟨g, 0, none⟩) m c) m (hdM L) by have := (HR.out.below q).heads; rw [HN.out] at this; exact this)
          have zV := q.size
          clear oa q CP c0
          go_wp2_with (at_builtin; refine wpList_append_lies _ rfl _ _ 22 rfl w.heap.size 30 i0 (.slice none 0 0) 1 24 Try.underlying22 hi0 hz0 hz1 hz2 rfl (by decide) _ _ _ rfl (HH.out.alloc _) ⟨V1.heap.size, 0, none⟩ 1 1 [.slice ga ln ca] rfl rfl (World.news_of_block (cs := #[.slice ga ln ca]) (t := 30) (fr := (0, 0)) (heap_alloc_new V1 _)) (by simp [Value.oneCell']) (by omega) (by unfold maxLen; omega) (by omega) (by simp; omega) (V1.heap.size + 1) (by simp) ?_; intro gN c2 X3 hown1 hgrow1 hat hlt3)
          obtain ⟨P1, P2, P3, P4, P5⟩ := putStepO HN.out HR.out QB.out zX OA.out LN.out hown1 hgrow1 hat
          obtain ⟨P4a, P4b⟩ := P4 gs HS.out.1 HG.out
          have FIN := hide (And.intro P1 (And.intro (show cnt (L ++ [⟨ga, ca, l⟩]) = tabUp G k ++ TR ++ (List.range (t + 1)).map (fun j => moa G (2 ^ (k - 1 - j)) false) by rw [cnt_app, HC.out, PE.out]; rfl) (And.intro (HS.out.keep P4a P5) (And.intro P4b (HB.out.trans P3)))))
          have FL := hide P2
          clear P1 P2 P3 P4 P4a P4b P5 hown1 hgrow1 hat hlt3 HH OA QB HR HC HS HG HB HN PE
          go_roundw
          case rel => exact ⟨t + 1, (i : Int) - 1, gN, c2, m + 1, _, by omega, by have := HZ.out; omega, by go_num, rfl, FL.out, by omega, FIN.out.1, FIN.out.2.1, FIN.out.2.2.1, FIN.out.2.2.2.1, FIN.out.2.2.2.2⟩
          case measure => first | (simp [intOf]; done) | (simp [intOf]; omega)
      have kI : (k : Int) < (s : Int) := by omega
      have c0 := HS.out.2 k hlt
      obtain ⟨p1, p2⟩ := pow64 (k := k) (by omega)
      have CP := hide (GR.out X (2 ^ k) true p1 p2)
      have PE := hide (tabUp_more G k)
      obtain ⟨l, hl⟩ : ∃ l, moa G (2 ^ k) true = l := ⟨_, rfl⟩
      rw [hl] at CP PE
      obtain ⟨ln, hln⟩ : ∃ ln, l.length = ln := ⟨_, rfl⟩
      rw [hln] at CP
      have LN := hide hln
      obtain ⟨d, hd⟩ : ∃ d : Int, ((2 ^ k : Nat) : Int) = d := ⟨_, rfl⟩
      rw [hd] at CP c0
      rw [Nat.zero_add] at c0
      clear hl hln hd p1 p2
      go_wp2_with fail
      refine CP.out.mono ?_
      rintro e V1 ⟨ga, ca, rfl, oa, q⟩
      have OA := hide oa
      have QB := hide q
      have HH := hide (show V1.ownsRow w.heap.size 30 1 (.slice (some ⟨g, 0, none⟩) m c) m (hdM L) by have := (HR.out.below q).heads; rw [HN.out] at this; exact this)
      have zV := q.size
      clear oa q CP c0
      go_wp2_with (at_builtin; refine wpList_append_lies _ rfl _ _ 22 rfl w.heap.size 30 i0 (.slice none 0 0) 1 24 Try.underlying22 hi0 hz0 hz1 hz2 rfl (by decide) _ _ _ rfl (HH.out.alloc _) ⟨V1.heap.size, 0, none⟩ 1 1 [.slice ga ln ca] rfl rfl (World.news_of_block (cs := #[.slice ga ln ca]) (t := 30) (fr := (0, 0)) (heap_alloc_new V1 _)) (by simp [Value.oneCell']) (by omega) (by unfold maxLen; omega) (by omega) (by simp; omega) (V1.heap.size + 1) (by simp) ?_; intro gN c2 X3 hown1 hgrow1 hat hlt3)
      obtain ⟨P1, P2, P3, P4, P5⟩ := putStepO HN.out HR.out QB.out zX OA.out LN.out hown1 hgrow1 hat
      obtain ⟨P4a, P4b⟩ := P4 gs HS.out.1 HG.out
      have FIN := hide (And.intro P1 (And.intro (show cnt (L ++ [⟨ga, ca, l⟩]) = tabUp G (k + 1) by rw [cnt_app, HC.out, PE.out]; rfl) (And.intro (HS.out.keep P4a P5) (And.intro P4b (HB.out.trans P3)))))
      have FL := hide P2
      clear P1 P2 P3 P4 P4a P4b P5 hown1 hgrow1 hat hlt3 HH OA QB HR HC HS HG HB HN PE
      go_roundw
      case rel => exact ⟨k + 1, gN, c2, m + 1, _, by omega, by go_num, rfl, FL.out, FIN.out.1, FIN.out.2.1, FIN.out.2.2.1, FIN.out.2.2.2.1, FIN.out.2.2.2.2⟩
      case measure => simp [intOf]; omega)
end Vo
end Go.Proofs.Ytkllbolamgmmaaa
