/- Forms: Parts of the program. -/
import Derived.Test.YtcmfglhjlifobaaPe
namespace Go.Proofs.Ytcmfglhjlifobaa
namespace Vo
open Go.ChangeShapes Go.WideShapes Go.ChangeAt Go.RowKit Go.Joins Go.Sort
open Vl Vp
set_option linter.unusedVariables false
set_option linter.unusedSimpArgs false
theorem infoStr : (Try.prog.info? 9).map (fun i => (i.zero, i.size, i.bytes)) = some (some (.string ⟨#[]⟩), 1, 16) := by kernel_rfl
/-- a row of texts, by its value -/
theorem own_shape {w : World} {base n : Nat} {v : Value} {xs : List Value} (h : w.ownsRow base 9 1 v n xs) : ∃ a c, v = .slice a n c ∧ (n = 0 ∨ ∃ g, a = some ⟨g, 0, none⟩ ∧ base ≤ g ∧ g < w.heap.size) := by
  obtain ⟨_, ⟨rfl, rfl⟩ | ⟨g, cap, cur, rfl, hg, hh, rest⟩⟩ := h
  · exact ⟨none, 0, rfl, .inl rfl⟩
  · refine ⟨_, _, rfl, .inr ⟨g, rfl, hg, ?_⟩⟩
    rcases Nat.lt_or_ge g w.heap.size with h' | h'
    · exact h'
    · rw [Array.getElem?_eq_none h'] at hh; cases hh
theorem stL_own {w : World} {base cap : Nat} {a : Option Addr} {s : ByteArray} {L : List (Nat × Nat)} (h : w.ownsRow base 9 1 (.slice a L.length cap) L.length (grV s L)) : StL w.heap.size w a L.length (grT s L) := by
  obtain ⟨a', c', e, h'⟩ := own_shape h
  injection e with e1 e2 e3
  subst e1
  rcases h' with h0 | ⟨g, rfl, _, hg⟩
  · exact .inl h0
  · exact stL_of (v := .bool true) h hg
theorem yes_at {s : ByteArray} {j A : Nat} (hlc : lcN s j = true) (hno : isL (bt s j) = false) (h44 : bt s j ≠ 44) (hA : yesB s A = true) : A = j := by
  obtain ⟨_, a1, _, a2, _⟩ := yesB_iff.1 hA
  have h1 : ¬ A < j := fun h => by
    rcases lcN_iff.1 hlc A h with q | q
    · rw [a1] at q; exact absurd q (by decide)
    · omega
  have h2 : ¬ j < A := fun h => by
    rcases lcN_iff.1 a2 j h with q | q
    · rw [hno] at q; exact absurd q (by decide)
    · exact h44 q
  omega
theorem yes_end {s : ByteArray} (hlc : lcN s s.size = true) (A : Nat) : yesB s A = false := by
  cases h : yesB s A with
  | false => rfl
  | true =>
    obtain ⟨a0, a1, _⟩ := yesB_iff.1 h
    rcases lcN_iff.1 hlc A (by omega) with q | q
    · rw [a1] at q; exact absurd q (by decide)
    · omega
theorem arB_at {s : ByteArray} {j : Nat} (hj : j < s.size) : arB (s.extract j s.size) = true ↔ j + 1 < s.size ∧ bt s j = 45 ∧ bt s (j + 1) = 62 := by
  rw [arB_iff, ByteArray.size_extract]
  constructor
  · rintro ⟨h1, h2, h3⟩
    have hj1 : j + 1 < s.size := by omega
    rw [bt_extract (Nat.le_refl _) (by omega)] at h2 h3
    exact ⟨hj1, h2, h3⟩
  · rintro ⟨h1, h2, h3⟩
    rw [bt_extract (Nat.le_refl _) (by omega), bt_extract (Nat.le_refl _) (by omega)]
    exact ⟨by omega, h2, h3⟩
set_option maxRecDepth 100000 in
set_option maxHeartbeats 2000000 in
theorem partsF (s : ByteArray) (hs : (s.size : Int) ≤ 1048576) (w : World) : Calls Try.prog 6 #[.string s] w fun e w' => PartsR s w e w' := by
  obtain ⟨i0, hi0, hz0, hz1, hz2⟩ := info_parts infoStr
  have hown0 : (w.alloc (.cells #[] 9)).ownsRow w.heap.size 9 1 (.slice (some ⟨w.heap.size, 0, none⟩) 0 0) 0 [] :=
    ⟨rfl, .inr ⟨w.heap.size, 0, #[], rfl, Nat.le_refl _, heap_alloc_new w _, Nat.le_refl _, by simp [maxLen], rfl, rfl⟩⟩
  have B0 := hide (show Below w.heap.size w (w.alloc (.cells #[] 9)) from (Below.refl _ _).alloc (Nat.le_refl _) _)
  have HO0 := hide hown0
  have NONE := hide (fun (W : World) (hW : Below w.heap.size w W) => show (W.alloc (.cells #[] 9)).ownsRow w.heap.size 9 1 (.slice (some ⟨W.heap.size, 0, none⟩) 0 0) 0 [] ∧ Below w.heap.size w (W.alloc (.cells #[] 9)) from
    ⟨⟨rfl, .inr ⟨W.heap.size, 0, #[], rfl, hW.size, heap_alloc_new W _, Nat.le_refl _, by simp [maxLen], rfl, rfl⟩⟩, hW.alloc hW.size _⟩)
  clear hown0
  go_enter Try.func6, Try.ntmps6
  go_wp2_with fail
  go_step3
  go_wp2_with fail
  go_step3
  go_wp2_with fail
  go_loopw [5, 6, 7] (fun v f i wx => ∃ j : Nat, j ≤ s.size ∧ i = .int .i64 (j : Int) ∧ f = .int .i64 ((scanL s j).2 : Int) ∧ lcN s j = true ∧ wx.ownsRow w.heap.size 9 1 v (scanL s j).1.length (grV s (scanL s j).1) ∧ Below w.heap.size w wx) (fun _ _ i _ => s.size - (intOf i).toNat)
  case atStart => exact ⟨0, Nat.zero_le _, rfl, rfl, rfl, HO0.out, B0.out⟩
  case round =>
    obtain ⟨X, rfl⟩ : ∃ X, X = wr := ⟨_, rfl⟩
    obtain ⟨j, hj, rfl, rfl, hlc, hown, bb⟩ := hrel
    have HLC := hide hlc
    have HOW := hide hown
    have BB := hide bb
    clear hlc hown bb
    by_cases hlt : j < s.size
    · have jI : (j : Int) < s.size := by omega
      have hb := bt_at hlt
      have c256 := bt_lt s j
      have SC := hide (show scanL s (j + 1) = if bt s j = 44 then ((scanL s j).1 ++ [((scanL s j).2, j)], j + 1) else scanL s j from rfl)
      have LC := hide (show lcN s (j + 1) = (lcN s j && (isL (bt s j) || bt s j == 44)) from rfl)
      have fr := scanL_from s j
      obtain ⟨c, hc⟩ : ∃ c : Nat, bt s j = c := ⟨_, rfl⟩
      have HC := hide hc
      have hb' : (s[j]'hlt).toNat = c := by rw [← hb]; exact hc
      rw [hc] at SC LC c256
      clear hb hc
      go_wp2_with fail
      refine (isSmall c c256 _).mono ?_
      rintro e w1 ⟨rfl, hq⟩
      have hq := hq.symm
      subst hq
      cases hl : isL c with
      | true =>
        have n44 : c ≠ 44 := fun e => by rw [e] at hl; exact absurd hl (by decide)
        have E1 := hide (show scanL s (j + 1) = scanL s j by rw [SC.out, if_neg n44])
        have E2 := hide (show lcN s (j + 1) = true by rw [LC.out, HLC.out, hl]; rfl)
        clear hl
        go_wp2_with fail
        go_roundw
        case rel => exact ⟨j + 1, by omega, by go_num, by rw [E1.out], E2.out, by rw [E1.out]; exact HOW.out, BB.out⟩
        case measure => simp [intOf]; omega
      | false =>
        have flen := scanL_len s j
        have frI : ((scanL s j).2 : Int) ≤ (j : Int) := by omega
        by_cases e44 : c = 44
        · have e44' : ((c : Int) == 44) = true := beq_iff_eq.2 (by omega)
          have e44'' : (c == 44) = true := beq_iff_eq.2 e44
          have E1 := hide (show scanL s (j + 1) = ((scanL s j).1 ++ [((scanL s j).2, j)], j + 1) by rw [SC.out, if_pos e44])
          have E2 := hide (show lcN s (j + 1) = true by rw [LC.out, HLC.out, e44'']; simp)
          obtain ⟨L, hL⟩ : ∃ L, (scanL s j).1 = L := ⟨_, rfl⟩
          obtain ⟨f, hf⟩ : ∃ f, (scanL s j).2 = f := ⟨_, rfl⟩
          rw [hL] at HOW E1 flen
          rw [hf] at E1 fr frI ⊢
          clear hl e44 hL hf
          go_wp2_with (at_builtin; refine wpList_append_own _ rfl _ _ 22 rfl w.heap.size 9 i0 (.string ⟨#[]⟩) 1 16 Try.underlying22 hi0 hz0 hz1 hz2 rfl (by decide) _ _ _ rfl (HOW.out.alloc _) ⟨X.heap.size, 0, none⟩ 1 1 [.string (s.extract f j)] rfl rfl (World.news_of_block (cs := #[.string (s.extract f j)]) (t := 9) (fr := (0, 0)) (heap_alloc_new X _)) (by simp [Value.oneCell']) (by unfold maxLen; omega) (by omega) (by have := BB.out.size; simp; omega) ?_; intro v' w1 hown1 hgrow1 _)
          go_roundw
          case rel =>
            rw [grV_more] at hown1
            have s1 := hgrow1.size
            refine ⟨j + 1, by omega, by go_num, by rw [E1.out]; go_num, E2.out, ?_, ?_⟩
            · rw [E1.out]
              have e : (L ++ [(f, j)]).length = L.length + 1 := by simp
              show w1.ownsRow _ _ _ _ (L ++ [(f, j)]).length (grV s (L ++ [(f, j)]))
              rw [e]
              exact hown1
            · exact (BB.out.alloc BB.out.size _).grown hgrow1 (by have := BB.out.size; simp; omega) (fun k hk => (HOW.out.lt k hk).1)
          case measure => simp [intOf]; omega
        · have e44' : ((c : Int) == 44) = false := beq_eq_false_iff_ne.2 (by omega)
          have e44'' : (c == 44) = false := beq_eq_false_iff_ne.2 e44
          have ONLY := hide (fun (A : Nat) (hA : yesB s A = true) => yes_at HLC.out (by rw [HC.out]; exact hl) (by rw [HC.out]; exact e44) hA)
          have AT := hide (arB_at hlt)
          have NOA := hide (fun (h : yesB s j = false) (A : Nat) => show yesB s A = false by
            cases hy : yesB s A with
            | false => rfl
            | true => rw [ONLY.out A hy, h] at hy; exact absurd hy (by decide))
          have CP := hide (fun (W : World) => hasPrefix (s.extract j s.size) W)
          clear hl e44
          go_wp2_with fail
          refine (CP.out _).mono ?_
          rintro e w1 ⟨rfl, hq⟩
          have hq := hq.symm
          subst hq
          clear CP
          cases har : arB (s.extract j s.size) with
          | false =>
            have NY := hide (NOA.out (by
              cases hy : yesB s j with
              | false => rfl
              | true =>
                obtain ⟨h1, h2, h3, _⟩ := yesB_iff.1 hy
                rw [AT.out.2 ⟨h1, h2, h3⟩] at har
                exact absurd har (by decide)))
            obtain ⟨n1, n2⟩ := NONE.out X BB.out
            clear har
            go_wp2_with fail
            try rw [Exit.noGoto_ret]
            exact bodyPost_ret (v := .tuple #[.slice (some ⟨X.heap.size, 0, none⟩) 0 0, .string ⟨#[]⟩, .bool false]) (by simp [results, Try.results6, go_sem]) rfl (parts_no NY.out n1 n2)
          | true =>
            obtain ⟨a1, a2, a3⟩ := AT.out.1 har
            have YI := hide (show yesB s j = true ↔ grpOk (grT s (grps s j)) (grps s j).length = true ∧ outOk (outT s j) (grT s (grps s j)) (grps s j).length = true from
              ⟨fun h => (yesB_iff.1 h).2.2.2.2, fun h => yesB_iff.2 ⟨a1, a2, a3, HLC.out, h⟩⟩)
            have glen : ((grps s j).length : Int) ≤ 1048576 := by unfold grps; simp only [List.length_append, List.length_cons, List.length_nil]; omega
            have EG := hide (show (scanL s j).1 ++ [((scanL s j).2, j)] = grps s j from rfl)
            obtain ⟨L, hL⟩ : ∃ L, (scanL s j).1 = L := ⟨_, rfl⟩
            obtain ⟨f, hf⟩ : ∃ f, (scanL s j).2 = f := ⟨_, rfl⟩
            obtain ⟨G, hG⟩ : ∃ G, grps s j = G := ⟨_, rfl⟩
            have HG := hide hG
            rw [hL, hf, hG] at EG
            rw [hL] at HOW flen
            rw [hf] at fr frI ⊢
            rw [hG] at YI glen
            have w2 : IntKind.i64.wrap ((j : Int) + 2) = (j : Int) + 2 := by rw [IntKind.wrap_i64]; omega
            have j2 : (j : Int) + 2 ≤ s.size := by omega
            clear hL hf hG har a2 a3 AT
            go_wp2_with (at_builtin; refine wpList_append_own _ rfl _ _ 22 rfl w.heap.size 9 i0 (.string ⟨#[]⟩) 1 16 Try.underlying22 hi0 hz0 hz1 hz2 rfl (by decide) _ _ _ rfl (HOW.out.alloc _) ⟨X.heap.size, 0, none⟩ 1 1 [.string (s.extract f j)] rfl rfl (World.news_of_block (cs := #[.string (s.extract f j)]) (t := 9) (fr := (0, 0)) (heap_alloc_new X _)) (by simp [Value.oneCell']) (by unfold maxLen; omega) (by omega) (by have := BB.out.size; simp; omega) ?_; intro v' w1 hown1 hgrow1 _)
            rw [grV_more, EG.out] at hown1
            have eL : L.length + 1 = G.length := by rw [← EG.out]; simp
            rw [eL] at hown1
            have B1 := hide (show Below w.heap.size w w1 from (BB.out.alloc BB.out.size _).grown hgrow1 (by have := BB.out.size; simp; omega) (fun k hk => (HOW.out.lt k hk).1))
            obtain ⟨a', c', rfl, _⟩ := own_shape hown1
            have HO1 := hide hown1
            have ST := hide (stL_own hown1)
            clear hown1 hgrow1 eL
            refine (groupsF w1.heap.size a' G.length c' (grT s G) _ ST.out glen).mono ?_
            rintro e w2' ⟨rfl, hq⟩
            have hq := hq.symm
            subst hq
            have NOT := hide (fun (h : ¬ (grpOk (grT s G) G.length = true ∧ outOk (outT s j) (grT s G) G.length = true)) => NOA.out (by
              cases hy : yesB s j with
              | false => rfl
              | true => exact absurd (YI.out.1 hy) h))
            cases hg : grpOk (grT s G) G.length with
            | false =>
              have NY := hide (NOT.out (fun h => by rw [hg] at h; exact absurd h.1 (by decide)))
              obtain ⟨n1, n2⟩ := NONE.out w1 B1.out
              clear hg
              go_wp2_with fail
              try rw [Exit.noGoto_ret]
              exact bodyPost_ret (v := .tuple #[.slice (some ⟨w1.heap.size, 0, none⟩) 0 0, .string ⟨#[]⟩, .bool false]) (by simp [results, Try.results6, go_sem]) rfl (parts_no NY.out n1 n2)
            | true =>
              have HGR := hide hg
              have CO := hide (fun (W : World) (hW : W = w1) => show Calls Try.prog 20 #[.string (s.extract (j + 2) s.size), .slice a' G.length c'] W fun e w' => e = .returned (.bool (outOk (outT s j) (grT s G) G.length)) ∧ w' = w1 from by
                subst hW
                exact outcomeOkF _ (s.extract (j + 2) s.size) a' G.length c' (grT s G) _ ST.out glen (by rw [ByteArray.size_extract]; omega) (fun t _ => by have := grT_size s G t; omega))
              clear hg
              go_wp2_with fail
              refine (CO.out _ rfl).mono ?_
              rintro e w2' ⟨rfl, hq⟩
              subst hq
              cases ho : outOk (outT s j) (grT s G) G.length with
              | false =>
                have NY := hide (NOT.out (fun h => by rw [ho] at h; exact absurd h.2 (by decide)))
                obtain ⟨n1, n2⟩ := NONE.out _ B1.out
                clear ho
                go_wp2_with fail
                try rw [Exit.noGoto_ret]
                exact bodyPost_ret (v := .tuple #[.slice (some ⟨w2'.heap.size, 0, none⟩) 0 0, .string ⟨#[]⟩, .bool false]) (by simp [results, Try.results6, go_sem]) rfl (parts_no NY.out n1 n2)
              | true =>
                have YY := hide (YI.out.2 ⟨HGR.out, ho⟩)
                clear ho
                have BD := hide (fun (q : Nat) => show Below w2'.heap.size w2' (w2'.drewN q) from below_drewN (Below.refl _ _) q)
                have HOD := hide (fun (q : Nat) => show (w2'.drewN q).ownsRow w.heap.size 9 1 (.slice a' G.length c') G.length (grV s G) from own_below HO1.out (BD.out q))
                have BDD := hide (fun (q : Nat) => show Below w.heap.size w (w2'.drewN q) from below_drewN B1.out q)
                go_wp2_with (go_quiet (fail))
                try rw [Exit.noGoto_ret]
                exact bodyPost_ret (v := .tuple #[.slice a' G.length c', .string (outT s j), .bool true]) (by simp [results, Try.results6, go_sem]; rfl) rfl (parts_yes YY.out (by rw [HG.out]; exact HOD.out _) (BDD.out _))
    · have ej : j = s.size := by omega
      have hlt' : decide ((j : Int) < (s.size : Int)) = false := decide_eq_false (by omega)
      have hlt'' : decide (j < s.size) = false := decide_eq_false (by omega)
      have NY := hide (fun A => yes_end (by rw [← ej]; exact HLC.out) A)
      obtain ⟨n1, n2⟩ := NONE.out X BB.out
      clear ej hlt
      go_wp2_with fail
      try rw [Exit.noGoto_ret]
      exact bodyPost_ret (v := .tuple #[.slice (some ⟨X.heap.size, 0, none⟩) 0 0, .string ⟨#[]⟩, .bool false]) (by simp [results, Try.results6, go_sem]) rfl (parts_no NY.out n1 n2)
end Vo
end Go.Proofs.Ytcmfglhjlifobaa
