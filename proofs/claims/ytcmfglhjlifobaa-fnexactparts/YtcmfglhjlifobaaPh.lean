/- Forms: Parts of the model. -/
import Derived.Test.YtcmfglhjlifobaaPg
namespace Go.Proofs.Ytcmfglhjlifobaa
namespace Vo
open Go.ChangeShapes Go.WideShapes Go.ChangeAt Go.RowKit Go.Joins Go.Sort
open Vl Vp
set_option linter.unusedVariables false
set_option linter.unusedSimpArgs false
theorem ar_at {s : ByteArray} {j : Nat} (h : j + 1 < s.size) : (s.extract j (j + 2) = ⟨#[45, 62]⟩) ↔ arAt s j := by
  constructor
  · intro e
    have e0 := bt_extract (s := s) (a := j) (b := j + 2) (j := 0) (by omega) (by omega)
    have e1 := bt_extract (s := s) (a := j) (b := j + 2) (j := 1) (by omega) (by omega)
    rw [e] at e0 e1
    exact ⟨h, e0.symm, e1.symm⟩
  · rintro ⟨_, h0, h1⟩
    refine ba_ext (by rw [ByteArray.size_extract]; show min (j + 2) s.size - j = 2; omega) (fun i hi => ?_)
    have hj2 : i < 2 := by rw [ByteArray.size_extract] at hi; omega
    rw [bt_extract (by omega) (by omega)]
    have : i = 0 ∨ i = 1 := by omega
    rcases this with rfl | rfl
    · rw [Nat.add_zero, h0]; rfl
    · rw [h1]; rfl
/-- the model's groups under way, k bytes read of those up to the arrow at A -/
def gl (s : ByteArray) (A k : Nat) : List (Nat × Nat) := if k ≤ A then (scanL s k).1 else grps s A
def gf (s : ByteArray) (A k : Nat) : Nat := if k ≤ A then (scanL s k).2 else A + 1
theorem gl_len (s : ByteArray) (A k : Nat) : (gl s A k).length ≤ k := by
  unfold gl
  split
  · exact scanL_len s k
  · have := scanL_len s A
    unfold grps
    simp only [List.length_append, List.length_cons, List.length_nil]
    omega
theorem gf_le (s : ByteArray) (A k : Nat) : gf s A k ≤ k := by
  unfold gf
  split
  · exact scanL_from s k
  · omega
theorem gl_comma {s : ByteArray} {A k : Nat} (h : k = A ∨ k < A ∧ bt s k = 44) : gl s A (k + 1) = gl s A k ++ [(gf s A k, k)] ∧ gf s A (k + 1) = k + 1 := by
  unfold gl gf
  rcases h with rfl | ⟨h, e⟩
  · have n1 : ¬ k + 1 ≤ k := by omega
    simp only [if_neg n1, if_pos (Nat.le_refl k)]
    first | exact ⟨rfl, rfl⟩ | exact ⟨rfl, trivial⟩ | exact rfl
  · rw [if_pos (show k + 1 ≤ A by omega), if_pos (show k + 1 ≤ A by omega), if_pos (show k ≤ A by omega), if_pos (show k ≤ A by omega), scanL_succ, if_pos e]
    exact ⟨rfl, rfl⟩
theorem gl_else {s : ByteArray} {A k : Nat} (h : k < A) (e : bt s k ≠ 44) : gl s A (k + 1) = gl s A k ∧ gf s A (k + 1) = gf s A k := by
  unfold gl gf
  rw [if_pos (show k + 1 ≤ A by omega), if_pos (show k + 1 ≤ A by omega), if_pos (show k ≤ A by omega), if_pos (show k ≤ A by omega), scanL_succ, if_neg e]
  exact ⟨rfl, rfl⟩
theorem own_base {w : World} {b b' n : Nat} {v : Value} {xs : List Value} (h : w.ownsRow b 9 1 v n xs) (hb : b' ≤ b) : w.ownsRow b' 9 1 v n xs := by
  obtain ⟨h0, h' | ⟨g, cap, cur, h1, h2, rest⟩⟩ := h
  · exact ⟨h0, .inl h'⟩
  · exact ⟨h0, .inr ⟨g, cap, cur, h1, by omega, rest⟩⟩
theorem none_own (W : World) : (W.alloc (.cells #[] 9)).ownsRow W.heap.size 9 1 (.slice (some ⟨W.heap.size, 0, none⟩) 0 0) 0 [] :=
  ⟨rfl, .inr ⟨W.heap.size, 0, #[], rfl, Nat.le_refl _, heap_alloc_new W _, Nat.le_refl _, by simp [maxLen], rfl, rfl⟩⟩
theorem alloc_size (W : World) (o : Obj) : (W.alloc o).heap.size = W.heap.size + 1 := by simp
theorem hasN_pre {o : ByteArray} {c i : Nat} (h : i ≤ o.size) : hasN (o.extract 0 i) c (o.extract 0 i).size = hasN o c i := by
  have sz : (o.extract 0 i).size = i := by rw [ByteArray.size_extract]; omega
  rw [sz, Bool.eq_iff_iff, hasN_iff, hasN_iff]
  constructor
  · rintro ⟨k, hk, e⟩
    rw [bt_extract h (by omega), Nat.zero_add] at e
    exact ⟨k, hk, e⟩
  · rintro ⟨k, hk, e⟩
    exact ⟨k, hk, by rw [bt_extract h (by omega), Nat.zero_add]; exact e⟩
set_option maxRecDepth 100000 in
set_option maxHeartbeats 2000000 in
theorem specParts (s : ByteArray) (hs : (s.size : Int) ≤ 1048576) (w : World) : Calls Try.prog 5 #[.string s] w fun e w' => PartsR s w e w' := by
  obtain ⟨i0, hi0, hz0, hz1, hz2⟩ := info_parts infoStr
  have hown0 : (w.alloc (.cells #[] 9)).ownsRow w.heap.size 9 1 (.slice (some ⟨w.heap.size, 0, none⟩) 0 0) 0 [] :=
    ⟨rfl, .inr ⟨w.heap.size, 0, #[], rfl, Nat.le_refl _, heap_alloc_new w _, Nat.le_refl _, by simp [maxLen], rfl, rfl⟩⟩
  have B0 := hide (show Below w.heap.size w (w.alloc (.cells #[] 9)) from (Below.refl _ _).alloc (Nat.le_refl _) _)
  have HO0 := hide hown0
  have HO1 := hide (show ((w.alloc (.cells #[] 9)).alloc (.cells #[] 9)).ownsRow (w.heap.size + 1) 9 1 (.slice (some ⟨w.heap.size + 1, 0, none⟩) 0 0) 0 [] by
    have h := none_own (w.alloc (.cells #[] 9))
    rw [alloc_size] at h
    exact h)
  have B1 := hide (show Below (w.heap.size + 1) (w.alloc (.cells #[] 9)) ((w.alloc (.cells #[] 9)).alloc (.cells #[] 9)) from (Below.refl _ _).alloc (by rw [alloc_size]; exact Nat.le_refl _) _)
  have NONE := hide (fun (W : World) (hW : Below (w.heap.size + 1) (w.alloc (.cells #[] 9)) W) => show W.ownsRow w.heap.size 9 1 (.slice (some ⟨w.heap.size, 0, none⟩) 0 0) 0 [] ∧ Below w.heap.size w W from
    ⟨own_below (none_own w) (by rw [alloc_size]; exact hW), B0.out.trans (hW.mono (Nat.le_succ _))⟩)
  clear hown0
  go_enter Try.func5, Try.ntmps5
  go_wp2_with fail
  go_loop [6] (fun i => ∃ j : Nat, j ≤ s.size ∧ i = .int .i64 (j : Int) ∧ ∀ k, k < j → ¬ arAt s k) (fun i => s.size - (intOf i).toNat)
  case atStart => exact ⟨0, Nat.zero_le _, rfl, fun k hk => by omega⟩
  case round =>
    obtain ⟨j, hj, rfl, hno⟩ := hrel
    have NO := hide hno
    clear hno
    have wr1 : IntKind.i64.wrap ((j : Int) + 1) = (j : Int) + 1 := by rw [IntKind.wrap_i64]; omega
    have wr2 : IntKind.i64.wrap ((j : Int) + 2) = (j : Int) + 2 := by rw [IntKind.wrap_i64]; omega
    by_cases hlt : j + 1 < s.size
    · have jI : (j : Int) + 1 < s.size := by omega
      have j2 : (j : Int) + 2 ≤ s.size := by omega
      have jn : decide ((s.size : Int) ≤ (j : Int) + 1) = false := decide_eq_false (by omega)
      by_cases hA : s.extract j (j + 2) = ⟨#[45, 62]⟩
      · have h3' := (ar_beq _).2 hA
        have AT := hide ((ar_at hlt).1 hA)
        clear hA
        go_wp2_with fail
        have aI : (j : Int) < s.size := by omega
        go_loopw [7, 8, 9] (fun v f i wx => ∃ k : Nat, k ≤ j + 1 ∧ i = .int .i64 (k : Int) ∧ f = .int .i64 (gf s j k : Int) ∧ wx.ownsRow (w.heap.size + 1) 9 1 v (gl s j k).length (grV s (gl s j k)) ∧ Below (w.heap.size + 1) (w.alloc (.cells #[] 9)) wx) (fun _ _ i _ => j + 1 - (intOf i).toNat)
        case atStart => exact ⟨0, Nat.zero_le _, rfl, rfl, HO1.out, B1.out⟩
        case round =>
          obtain ⟨X, rfl⟩ : ∃ X, X = wr := ⟨_, rfl⟩
          obtain ⟨k, hk, rfl, rfl, hown, bb⟩ := hrel
          have HOW := hide hown
          have BB := hide bb
          clear hown bb
          have flen := gl_len s j k
          have fr := gf_le s j k
          have frI : (gf s j k : Int) ≤ (k : Int) := by omega
          have sz1 : w.heap.size + 1 ≤ X.heap.size := by have := BB.out.size; rw [alloc_size] at this; exact this
          have wk : IntKind.i64.wrap ((k : Int) + 1) = (k : Int) + 1 := by rw [IntKind.wrap_i64]; omega
          have APP := hide (fun (h : k = j ∨ k < j ∧ bt s k = 44) => gl_comma (s := s) h)
          have SAME := hide (fun (h : k < j) (e : bt s k ≠ 44) => gl_else (s := s) h e)
          by_cases hkj : k ≤ j
          · have kI : (k : Int) ≤ (j : Int) := by omega
            have kS : (k : Int) < s.size := by omega
            have kS' : (k : Int) ≤ s.size := by omega
            have hks : k < s.size := by omega
            have hb := bt_at hks
            by_cases ekj : k = j
            · have ek : ((k : Int) == (j : Int)) = true := beq_iff_eq.2 (by omega)
              have ek' : (k == j) = true := beq_iff_eq.2 ekj
              have E1 := hide (APP.out (.inl ekj))
              clear ekj hb
              obtain ⟨L, hL⟩ : ∃ L, gl s j k = L := ⟨_, rfl⟩
              obtain ⟨f, hf⟩ : ∃ f, gf s j k = f := ⟨_, rfl⟩
              rw [hL] at HOW E1 flen
              rw [hf] at E1 fr frI ⊢
              clear hL hf
              go_wp2_with (at_builtin; refine wpList_append_own _ rfl _ _ 22 rfl (w.heap.size + 1) 9 i0 (.string ⟨#[]⟩) 1 16 Try.underlying22 hi0 hz0 hz1 hz2 rfl (by decide) _ _ _ rfl (HOW.out.alloc _) ⟨X.heap.size, 0, none⟩ 1 1 [.string (s.extract f k)] rfl rfl (World.news_of_block (cs := #[.string (s.extract f k)]) (t := 9) (fr := (0, 0)) (heap_alloc_new X _)) (by simp [Value.oneCell']) (by unfold maxLen; omega) (by omega) (by simp; omega) ?_; intro v' w1 hown1 hgrow1 _)
              go_roundw
              case rel =>
                rw [grV_more] at hown1
                have s1 := hgrow1.size
                refine ⟨k + 1, by omega, by go_num, by rw [E1.out.2]; go_num, ?_, ?_⟩
                · rw [E1.out.1]
                  have e : (L ++ [(f, k)]).length = L.length + 1 := by simp
                  rw [e]
                  exact hown1
                · exact (BB.out.alloc sz1 _).grown hgrow1 (by simp; omega) (fun k hk => (HOW.out.lt k hk).1)
              case measure => simp [intOf]; omega
            · have ek : ((k : Int) == (j : Int)) = false := beq_eq_false_iff_ne.2 (by omega)
              have ek' : (k == j) = false := beq_eq_false_iff_ne.2 ekj
              by_cases e44 : bt s k = 44
              · have e44' : (((s[k]'hks).toNat : Int) == 44) = true := beq_iff_eq.2 (by omega)
                have e44'' : ((s[k]'hks).toNat == 44) = true := beq_iff_eq.2 (by omega)
                have E1 := hide (APP.out (.inr ⟨by omega, e44⟩))
                clear ekj hb e44
                obtain ⟨L, hL⟩ : ∃ L, gl s j k = L := ⟨_, rfl⟩
                obtain ⟨f, hf⟩ : ∃ f, gf s j k = f := ⟨_, rfl⟩
                rw [hL] at HOW E1 flen
                rw [hf] at E1 fr frI ⊢
                clear hL hf
                go_wp2_with (at_builtin; refine wpList_append_own _ rfl _ _ 22 rfl (w.heap.size + 1) 9 i0 (.string ⟨#[]⟩) 1 16 Try.underlying22 hi0 hz0 hz1 hz2 rfl (by decide) _ _ _ rfl (HOW.out.alloc _) ⟨X.heap.size, 0, none⟩ 1 1 [.string (s.extract f k)] rfl rfl (World.news_of_block (cs := #[.string (s.extract f k)]) (t := 9) (fr := (0, 0)) (heap_alloc_new X _)) (by simp [Value.oneCell']) (by unfold maxLen; omega) (by omega) (by simp; omega) ?_; intro v' w1 hown1 hgrow1 _)
                go_roundw
                case rel =>
                  rw [grV_more] at hown1
                  have s1 := hgrow1.size
                  refine ⟨k + 1, by omega, by go_num, by rw [E1.out.2]; go_num, ?_, ?_⟩
                  · rw [E1.out.1]
                    have e : (L ++ [(f, k)]).length = L.length + 1 := by simp
                    rw [e]
                    exact hown1
                  · exact (BB.out.alloc sz1 _).grown hgrow1 (by simp; omega) (fun k hk => (HOW.out.lt k hk).1)
                case measure => simp [intOf]; omega
              · have e44' : (((s[k]'hks).toNat : Int) == 44) = false := beq_eq_false_iff_ne.2 (by omega)
                have e44'' : ((s[k]'hks).toNat == 44) = false := beq_eq_false_iff_ne.2 (by omega)
                have E1 := hide (SAME.out (by omega) e44)
                clear ekj hb e44
                go_wp2_with fail
                go_roundw
                case rel => exact ⟨k + 1, by omega, by go_num, by rw [E1.out.2], by rw [E1.out.1]; exact HOW.out, BB.out⟩
                case measure => simp [intOf]; omega
          · have ek : k = j + 1 := by omega
            have kI : decide ((k : Int) ≤ (j : Int)) = false := decide_eq_false (by omega)
            have kI' : decide (k ≤ j) = false := decide_eq_false (by omega)
            have EG := hide (show gl s j k = grps s j by unfold gl; rw [if_neg hkj])
            clear hkj ek
            have hown := HOW.out
            rw [EG.out] at hown
            rw [EG.out] at flen
            have MOD := hide (show modB s j → (grps s j).length ≤ 6 ∧ letOk (outT s j) = true ∧ (∀ t, t < (grps s j).length → letOk (grT s (grps s j) t) = true) ∧ outN (outT s j) (grT s (grps s j)) (grps s j).length (outT s j).size = true from fun h => h)
            have YES := hide (show ((grps s j).length ≤ 6 ∧ letOk (outT s j) = true ∧ (∀ t, t < (grps s j).length → letOk (grT s (grps s j) t) = true) ∧ outN (outT s j) (grT s (grps s j)) (grps s j).length (outT s j).size = true) → yesB s j = true from fun h => (yes_mod AT.out.1 AT.out.2.1 AT.out.2.2).2 h)
            have NOM := hide (fun (h : ¬ modB s j) (B : Nat) => no_mod AT.out NO.out h B)
            have EO := hide (show outT s j = s.extract (j + 2) s.size from rfl)
            have osz := hide (show ((s.extract (j + 2) s.size).size : Int) ≤ 1048576 by rw [ByteArray.size_extract]; omega)
            obtain ⟨G, hG⟩ : ∃ G, grps s j = G := ⟨_, rfl⟩
            have HG := hide hG
            rw [hG] at hown flen MOD YES
            have TS := hide (fun t => grT_size s G t)
            obtain ⟨f, hf⟩ : ∃ f, gf s j k = f := ⟨_, rfl⟩
            rw [hf]
            clear hG hf fr frI APP SAME EG HOW
            obtain ⟨a', c', rfl, _⟩ := own_shape hown
            have HO2 := hide hown
            have ST := hide (stL_own hown)
            clear hown
            have glen : (G.length : Int) ≤ 1048576 := by omega
            rw [EO.out] at MOD YES
            obtain ⟨o, ho⟩ : ∃ o, s.extract (j + 2) s.size = o := ⟨_, rfl⟩
            rw [ho] at MOD YES EO osz
            by_cases h6 : 6 < G.length
            · have h6' : (6 : Int) < (G.length : Int) := by omega
              have NY := hide (NOM.out (fun h => by have := (MOD.out h).1; omega))
              clear h6
              go_wp2_with fail
              try rw [Exit.noGoto_ret]
              exact bodyPost_ret (v := .tuple #[.slice (some ⟨w.heap.size, 0, none⟩) 0 0, .string ⟨#[]⟩, .bool false]) (by simp [results, Try.results5, go_sem]) rfl (parts_no NY.out (NONE.out X BB.out).1 (NONE.out X BB.out).2)
            · have h6' : decide ((6 : Int) < (G.length : Int)) = false := decide_eq_false (by omega)
              have h6'' : decide (6 < G.length) = false := decide_eq_false (by omega)
              have G6 := hide (show G.length ≤ 6 by omega)
              have CL := hide (fun W => letters o osz.out W)
              clear h6
              go_wp2_with fail
              try rw [ho]
              refine (CL.out _).mono ?_
              rintro e w1 ⟨rfl, hq⟩
              have hq := hq.symm
              subst hq
              clear CL
              cases hlo : letOk o with
              | false =>
                have NY := hide (NOM.out (fun h => by have := (MOD.out h).2.1; rw [hlo] at this; exact absurd this (by decide)))
                clear hlo
                go_wp2_with fail
                try rw [Exit.noGoto_ret]
                exact bodyPost_ret (v := .tuple #[.slice (some ⟨w.heap.size, 0, none⟩) 0 0, .string ⟨#[]⟩, .bool false]) (by simp [results, Try.results5, go_sem]) rfl (parts_no NY.out (NONE.out X BB.out).1 (NONE.out X BB.out).2)
              | true =>
                have HLO := hide hlo
                clear hlo
                go_wp2_with fail
                clear h6' h6''
                go_loop [11] (fun i => ∃ t : Nat, t ≤ G.length ∧ i = .int .i64 (t : Int) ∧ ∀ u, u < t → letOk (grT s G u) = true) (fun i => G.length - (intOf i).toNat)
                case atStart => exact ⟨0, Nat.zero_le _, rfl, fun u hu => by omega⟩
                case round =>
                  obtain ⟨t, ht, rfl, hno⟩ := hrel
                  have ALL := hide hno
                  clear hno
                  by_cases htl : t < G.length
                  · have tI : (t : Int) < G.length := by omega
                    rcases ST.out with h0 | ⟨b, off, rfl, hbB, hc⟩
                    · exact absurd htl (by omega)
                    have hct := hc t htl
                    have CL := hide (fun W => letters (grT s G t) (by have := TS.out t; omega) W)
                    have BAD := hide (fun (h : letOk (grT s G t) = false) => NOM.out (fun hm => by have := (MOD.out hm).2.2.1 t htl; rw [h] at this; exact absurd this (by decide)))
                    have GOOD := hide (fun (h : letOk (grT s G t) = true) (u : Nat) (hu : u < t + 1) => show letOk (grT s G u) = true by
                      by_cases e : u = t
                      · rw [e]; exact h
                      · exact ALL.out u (by omega))
                    generalize grT s G t = gt at hct CL BAD GOOD
                    clear hc
                    go_wp2_with fail
                    refine (CL.out _).mono ?_
                    rintro e w1 ⟨rfl, hq⟩
                    have hq := hq.symm
                    subst hq
                    clear CL
                    cases hlo : letOk gt with
                    | false =>
                      have NY := hide (BAD.out hlo)
                      clear hlo
                      go_wp2_with fail
                      try rw [Exit.noGoto_ret]
                      exact bodyPost_ret (v := .tuple #[.slice (some ⟨w.heap.size, 0, none⟩) 0 0, .string ⟨#[]⟩, .bool false]) (by simp [results, Try.results5, go_sem]) rfl (parts_no NY.out (NONE.out X BB.out).1 (NONE.out X BB.out).2)
                    | true =>
                      have GD := hide (GOOD.out hlo)
                      clear hlo
                      go_wp2_with fail
                      go_round
                      case rel => exact ⟨t + 1, by omega, by go_num, GD.out⟩
                      case measure => simp [intOf]; omega
                  · have et : t = G.length := by omega
                    have tI : decide ((t : Int) < (G.length : Int)) = false := decide_eq_false (by omega)
                    have tI' : decide (t < G.length) = false := decide_eq_false (by omega)
                    have ALLG := hide (show ∀ u, u < G.length → letOk (grT s G u) = true by rw [← et]; exact ALL.out)
                    clear et htl
                    go_wp2_with fail
                    have NONEY := hide (fun (W : World) (h : Below X.heap.size X W) => NONE.out W (BB.out.trans (h.mono sz1)))
                    go_loopw [12] (fun i wx => ∃ q : Nat, q ≤ o.size ∧ i = .int .i64 (q : Int) ∧ outN o (grT s G) G.length q = true ∧ Below X.heap.size X wx) (fun i _ => o.size - (intOf i).toNat)
                    case atStart => exact ⟨0, Nat.zero_le _, rfl, rfl, Below.refl _ _⟩
                    case round =>
                      obtain ⟨Y, rfl⟩ : ∃ Y, Y = wr := ⟨_, rfl⟩
                      obtain ⟨q, hq', rfl, hno, by0⟩ := hrel
                      have HN := hide hno
                      have BY := hide by0
                      clear hno by0
                      have oI := osz.out
                      by_cases hql : q < o.size
                      · have qI : (q : Int) < o.size := by omega
                        have qI2 : (q : Int) ≤ o.size := by omega
                        have hb := bt_at hql
                        have BAD := hide (fun (hh : ¬ (hasN o (bt o q) q = false ∧ anyN (grT s G) (bt o q) G.length = true)) => NOM.out (fun hm => hh (outN_iff.1 (MOD.out hm).2.2.2 q hql)))
                        have GOOD := hide (show hasN o (bt o q) q = false → anyN (grT s G) (bt o q) G.length = true → outN o (grT s G) G.length (q + 1) = true from fun h1 h2 => by show (outN o (grT s G) G.length q && (!hasN o (bt o q) q && anyN (grT s G) (bt o q) G.length)) = true; rw [HN.out, h1, h2]; rfl)
                        have c256 := bt_lt o q
                        obtain ⟨c, hc⟩ : ∃ c : Nat, bt o q = c := ⟨_, rfl⟩
                        rw [hc] at BAD GOOD c256
                        have hb' : (o[q]'hql).toNat = c := by rw [← hb]; exact hc
                        have CP := hide (fun W => hasByte (o.extract 0 q) c (by rw [ByteArray.size_extract]; omega) W)
                        rw [hasN_pre (show q ≤ o.size by omega)] at CP
                        clear hb hc
                        go_wp2_with fail
                        go_loopw [13, 14] (fun b i wx => ∃ t : Nat, t ≤ G.length ∧ i = .int .i64 (t : Int) ∧ b = .bool (anyN (grT s G) c t) ∧ Below X.heap.size X wx) (fun _ i _ => G.length - (intOf i).toNat)
                        case atStart => exact ⟨0, Nat.zero_le _, rfl, rfl, BY.out⟩
                        case round =>
                          obtain ⟨Z, rfl⟩ : ∃ Z, Z = wr := ⟨_, rfl⟩
                          obtain ⟨t, ht, rfl, rfl, bz0⟩ := hrel
                          have BZ := hide bz0
                          clear bz0
                          by_cases htl : t < G.length
                          · have tI : (t : Int) < G.length := by omega
                            rcases ST.out.below BZ.out with h0 | ⟨b, off, rfl, hbB, hcc⟩
                            · exact absurd htl (by omega)
                            have hct := hcc t htl
                            have HA := hide (show anyN (grT s G) c (t + 1) = (anyN (grT s G) c t || hasN (grT s G t) c (grT s G t).size) from rfl)
                            have CL := hide (fun W => hasByte (grT s G t) c (by have := TS.out t; omega) W)
                            clear hcc
                            cases hany : anyN (grT s G) c t with
                            | true =>
                              rw [hany] at HA
                              have E := hide (show anyN (grT s G) c (t + 1) = true by rw [HA.out]; rfl)
                              clear hany HA CL
                              go_wp2_with (go_quiet (fail))
                              go_roundw
                              case rel => exact ⟨t + 1, by omega, by go_num, by rw [E.out]; try rfl, below_drewN BZ.out _⟩
                              case measure => simp [intOf]; omega
                            | false =>
                              rw [hany, Bool.false_or] at HA
                              clear hany
                              generalize grT s G t = gt at hct CL HA
                              generalize hasN gt c gt.size = bv at CL HA
                              go_wp2_with (go_quiet (first | (go_at_call 16; exact Calls.quiet_of_same (CL.out _))))
                              go_roundw
                              case rel => exact ⟨t + 1, by omega, by go_num, by rw [HA.out]; try rfl, below_drewN BZ.out _⟩
                              case measure => simp [intOf]; omega
                          · have et : t = G.length := by omega
                            have tI : decide ((t : Int) < (G.length : Int)) = false := decide_eq_false (by omega)
                            have tI' : decide (t < G.length) = false := decide_eq_false (by omega)
                            rw [show anyN (grT s G) c t = anyN (grT s G) c G.length by rw [et]]
                            clear et htl
                            cases hany : anyN (grT s G) c G.length with
                            | false =>
                              have NY := hide (BAD.out (fun h => by rw [hany] at h; exact absurd h.2 (by decide)))
                              clear hany CP
                              go_wp2_with (go_quiet (fail))
                              try rw [Exit.noGoto_ret]
                              exact bodyPost_ret (v := .tuple #[.slice (some ⟨w.heap.size, 0, none⟩) 0 0, .string ⟨#[]⟩, .bool false]) (by simp [results, Try.results5, go_sem]) rfl (parts_no NY.out (NONEY.out _ (below_drewN BZ.out _)).1 (NONEY.out _ (below_drewN BZ.out _)).2)
                            | true =>
                              have ANY := hide hany
                              clear hany
                              cases hhas : hasN o c q with
                              | true =>
                                rw [hhas] at CP
                                have NY := hide (BAD.out (fun h => by rw [hhas] at h; exact absurd h.1 (by decide)))
                                clear hhas
                                go_wp2_with (go_quiet (first | (go_at_call 16; exact Calls.quiet_of_same (CP.out _))))
                                try rw [Exit.noGoto_ret]
                                exact bodyPost_ret (v := .tuple #[.slice (some ⟨w.heap.size, 0, none⟩) 0 0, .string ⟨#[]⟩, .bool false]) (by simp [results, Try.results5, go_sem]) rfl (parts_no NY.out (NONEY.out _ (below_drewN BZ.out _)).1 (NONEY.out _ (below_drewN BZ.out _)).2)
                              | false =>
                                rw [hhas] at CP
                                have E := hide (GOOD.out hhas ANY.out)
                                clear hhas
                                go_wp2_with (go_quiet (first | (go_at_call 16; exact Calls.quiet_of_same (CP.out _))))
                                go_roundw
                                case rel => exact ⟨q + 1, by omega, by go_num, E.out, below_drewN BZ.out _⟩
                                case measure => simp [intOf]; omega
                      · have eq : q = o.size := by omega
                        have qI : decide ((q : Int) < (o.size : Int)) = false := decide_eq_false (by omega)
                        have qI' : decide (q < o.size) = false := decide_eq_false (by omega)
                        have YY := hide (YES.out ⟨G6.out, HLO.out, ALLG.out, by rw [← eq]; exact HN.out⟩)
                        clear eq hql
                        have HOD := hide (fun (W : World) (h : Below X.heap.size X W) => show W.ownsRow w.heap.size 9 1 (.slice a' G.length c') G.length (grV s G) from own_base (own_below HO2.out h) (Nat.le_succ _))
                        go_wp2_with (go_quiet (fail))
                        try rw [Exit.noGoto_ret]
                        exact bodyPost_ret (v := .tuple #[.slice a' G.length c', .string (outT s j), .bool true]) (by rw [EO.out]; simp [results, Try.results5, go_sem]) rfl (parts_yes YY.out (by rw [HG.out]; exact HOD.out _ (by first | exact below_drewN BY.out _ | exact BY.out)) (NONEY.out _ (by first | exact below_drewN BY.out _ | exact BY.out)).2)
      · have h3' := ar_no hA
        have NO' := hide (show ∀ k, k < j + 1 → ¬ arAt s k from fun k hk => by
          by_cases e : k = j
          · rw [e]; exact fun h => hA ((ar_at hlt).2 h)
          · exact NO.out k (by omega))
        clear hA
        go_wp2_with fail
        go_round
        case rel => exact ⟨j + 1, by omega, by go_num, NO'.out⟩
        case measure => simp [intOf]; omega
    · have jI : decide ((j : Int) + 1 < (s.size : Int)) = false := decide_eq_false (by omega)
      have jI' : decide (j + 1 < s.size) = false := decide_eq_false (by omega)
      have jn : (s.size : Int) ≤ (j : Int) + 1 := by omega
      have NY := hide (fun B => no_first (s := s) (fun k hk => NO.out k (by omega)) B)
      clear hlt
      go_wp2_with fail
      try rw [Exit.noGoto_ret]
      exact bodyPost_ret (v := .tuple #[.slice (some ⟨w.heap.size, 0, none⟩) 0 0, .string ⟨#[]⟩, .bool false]) (by simp [results, Try.results5, go_sem]) rfl (parts_no NY.out HO0.out B0.out)
end Vo
end Go.Proofs.Ytcmfglhjlifobaa
