/- The model's l4Spread. -/
import Derived.Test.YtldcacdopijfdabTh
import Derived.Test.YtldcacdopijfdabUl
import Derived.Test.YtldcacdopijfdabUc
import Derived.Maps.AppendAt
namespace Go.Proofs.Ytldcacdopijfdab
namespace Vo
open Go.ChangeShapes Go.WideShapes Go.ChangeAt Go.RowKit Go.Joins Go.Sort
open Vl Vp Vr
set_option linter.unusedVariables false
set_option linter.unusedSimpArgs false

theorem own_some2 {w : World} {B : Nat} {t : TypeId} {v : Value} {r : Nat} {xs : List Value} (h : w.ownsRow B t 1 v (r + 1) xs) : ∃ g c, v = .slice (some ⟨g, 0, none⟩) (r + 1) c := by
  obtain ⟨_, ⟨_, h0⟩ | ⟨g, cap, cur, e, _⟩⟩ := h
  · omega
  · exact ⟨g, cap, e⟩
set_option maxHeartbeats 1000000 in
theorem l4Spread (B : Nat) (a b c : Option Addr) (r s cap dap q cap' : Nat) (D S J : Nat → Int) (w : World) (hB : B ≤ w.heap.size) (h : Ints B w a r D) (h1 : Ints B w b s S) (h' : Ints B w c q J) (ht : tok r s D S = true) (hrq : r ≤ q) (hq : q ≤ 6) (hi : ∀ i, i < r → 0 ≤ sprI r q D J i ∧ sprI r q D J i < D i) :
    Calls Try.prog 44 #[.agg #[.slice a r cap, .slice b s dap], .slice c q cap'] w fun e w' => e = .returned (.int .i64 (S (od D (sprI r q D J) r).toNat)) ∧ Below w.heap.size w w' := by
  obtain ⟨i0, hi0, hz0, hz1, hz2⟩ := info_parts infoInt
  obtain ⟨F, hF⟩ : ∃ F : Nat → Int, sprI r q D J = F := ⟨_, rfl⟩
  rw [hF] at hi ⊢
  obtain ⟨td, ts, tw⟩ := tok_split ht
  obtain ⟨ah, hah⟩ : ∃ ah : Nat, q - r = ah := ⟨_, rfl⟩
  have e1 : IntKind.i64.wrap ((q : Int) - (r : Int)) = (ah : Int) := by rw [IntKind.wrap_i64]; omega
  have FE := hide (show ∀ t, F t = if D t = 1 then 0 else J (ah + t) from fun t => by rw [← hF, ← hah]; rfl)
  have hbF : ∀ u, u < r → bd (F u) := fun u hu => by have := hi u hu; have := dok_len td hu; unfold bd; omega
  have bl : Below w.heap.size w (w.alloc (.cells #[.slice a r cap, .slice b s dap] 35)) := (Below.refl _ _).alloc (Nat.le_refl _) _
  have nv := bx_new w (.slice a r cap) (.slice b s dap) 35
  have bl2 : Below w.heap.size w ((w.alloc (.cells #[.slice a r cap, .slice b s dap] 35)).alloc (.cells #[] 3)) := bl.alloc (by simp) _
  have bl3 : Below (w.heap.size + 1) (w.alloc (.cells #[.slice a r cap, .slice b s dap] 35)) ((w.alloc (.cells #[.slice a r cap, .slice b s dap] 35)).alloc (.cells #[] 3)) := (Below.refl _ _).alloc (by simp) _
  have NV2 := hide (nv.below bl3 (by omega))
  have BL2 := hide bl2
  have H0 := hide h
  have H1 := hide h1
  have H2 := hide h'
  have HT := hide ht
  have HBF := hide hbF
  have HI := hide hi
  have AH := hide hah
  have r6 : r ≤ 6 := (dok_iff.1 td).1
  clear h h1 h' bl nv bl2 bl3 ht hi hbF hF td ts tw hah
  go_enter Try.func44, Try.ntmps44
  go_wp2_with fail
  clear e1
  go_loopw [6, 7] (fun v i wx => ∃ (m g c : Nat), m ≤ r ∧ v = .slice (some ⟨g, 0, none⟩) m c ∧ i = .int .i64 m ∧ wx.ownsRow (w.heap.size + 1) 3 1 (.slice (some ⟨g, 0, none⟩) m c) m (ints m F) ∧ Bx wx w.heap.size (.slice a r cap) (.slice b s dap) ∧ Below w.heap.size w wx) (fun _ i _ => r - (intOf i).toNat)
  case atStart =>
    refine ⟨0, w.heap.size + 1, 0, Nat.zero_le _, rfl, rfl, ?_, NV2.out, BL2.out⟩
    refine ⟨rfl, .inr ⟨w.heap.size + 1, 0, #[], rfl, Nat.le_refl _, ?_, Nat.le_refl _, by simp [maxLen], rfl, rfl⟩⟩
    have := heap_alloc_new (w.alloc (.cells #[.slice a r cap, .slice b s dap] 35)) (.cells #[] 3)
    rwa [World.size_alloc] at this
  case round =>
    obtain ⟨X, rfl⟩ : ∃ X, X = wr := ⟨_, rfl⟩
    obtain ⟨t, g, c0, hm, rfl, rfl, hown, hbx, bb⟩ := hrel
    have HX := hide hbx
    have BB := hide bb
    have HO := hide hown
    have hsz : w.heap.size + 1 ≤ X.heap.size := by have := (hown.lt g rfl); omega
    have hgl := (hown.lt g rfl).1
    have hgn : w.heap.size ≠ g := by omega
    obtain ⟨x0, x1⟩ := hbx
    clear bb hown
    have hBw := Nat.le_trans hB BB.out.size
    have HA := hide (H0.out.below (BB.out.mono hB))
    have HC := hide (H2.out.below (BB.out.mono hB))
    by_cases hlt : t < r
    · have tI : (t : Int) < r := by omega
      obtain ⟨u, hu⟩ : ∃ u, ah + t = u := ⟨_, rfl⟩
      have tq : u < q := by have := AH.out; omega
      have e3 : IntKind.i64.wrap ((ah : Int) + (t : Int)) = (u : Int) := by rw [IntKind.wrap_i64]; omega
      have e4 : (u : Int) < q := by omega
      rcases HA.out with h0 | ⟨ba, oa, rfl, hba, hca⟩
      · omega
      rcases HC.out with h0 | ⟨bc, oc, rfl, hbc, hcc⟩
      · omega
      have ca := (hca t hlt).1
      have cc := (hcc u tq).1
      have fe := FE.out t
      rw [hu] at fe
      clear hca hcc hu
      by_cases d : D t = 1
      · have d' : (D t == 1) = true := beq_iff_eq.2 d
        have FV := hide (show F t = 0 by rw [fe, if_pos d])
        clear d fe
        have OA := hide (HO.out.alloc (.cells #[.int .i64 (0)] 3))
        have HN := hide (World.news_of_block (cs := #[.int .i64 (0)]) (t := 3) (fr := (0, 0)) (heap_alloc_new X _))
        go_wp2_with (at_builtin; refine wpList_append_own_at _ rfl _ _ 22 rfl (w.heap.size + 1) 3 i0 (.int .i64 0) 1 8 Try.underlying22 hi0 hz0 hz1 hz2 rfl (by decide) _ _ _ rfl OA.out ⟨X.heap.size, 0, none⟩ 1 1 [.int .i64 (0)] rfl rfl HN.out (by simp [Value.oneCell']) (by unfold maxLen; omega) (by omega) (by simp; omega) ?_; intro v' w5 hown1 hgrow1 _ hat1; obtain ⟨g1, c5, rfl⟩ := own_some2 hown1; have HOW := hide hown1; have HGR := hide hgrow1; clear hown1 hgrow1 hat1)
        go_roundw
        case rel =>
          have h3 := HOW.out
          rw [← FV.out, ints_succ t F] at h3
          have b4 : Below X.heap.size X (X.alloc (.cells #[.int .i64 (0)] 3)) := (Below.refl _ _).alloc (Nat.le_refl _) _
          have b6 : Below w.heap.size w w5 := (BB.out.trans (b4.mono BB.out.size)).grown (show World.grownBy _ w5 (some g) from HGR.out) (by simp; omega) (by rintro q ⟨⟩; omega)
          exact ⟨t + 1, g1, c5, by omega, rfl, by go_num, h3, ⟨grown_old (show World.grownBy _ w5 (some g) from HGR.out) hgn (al_old HX.out.1), grown_old (show World.grownBy _ w5 (some g) from HGR.out) hgn (al_old HX.out.2)⟩, b6⟩
        case measure => simp [intOf]; omega
      · have d' : (D t == 1) = false := beq_eq_false_iff_ne.2 d
        have FV := hide (show F t = J u by rw [fe, if_neg d])
        clear d fe
        have OA := hide (HO.out.alloc (.cells #[.int .i64 (J u)] 3))
        have HN := hide (World.news_of_block (cs := #[.int .i64 (J u)]) (t := 3) (fr := (0, 0)) (heap_alloc_new X _))
        go_wp2_with (at_builtin; refine wpList_append_own_at _ rfl _ _ 22 rfl (w.heap.size + 1) 3 i0 (.int .i64 0) 1 8 Try.underlying22 hi0 hz0 hz1 hz2 rfl (by decide) _ _ _ rfl OA.out ⟨X.heap.size, 0, none⟩ 1 1 [.int .i64 (J u)] rfl rfl HN.out (by simp [Value.oneCell']) (by unfold maxLen; omega) (by omega) (by simp; omega) ?_; intro v' w5 hown1 hgrow1 _ hat1; obtain ⟨g1, c5, rfl⟩ := own_some2 hown1; have HOW := hide hown1; have HGR := hide hgrow1; clear hown1 hgrow1 hat1)
        go_roundw
        case rel =>
          have h3 := HOW.out
          rw [← FV.out, ints_succ t F] at h3
          have b4 : Below X.heap.size X (X.alloc (.cells #[.int .i64 (J u)] 3)) := (Below.refl _ _).alloc (Nat.le_refl _) _
          have b6 : Below w.heap.size w w5 := (BB.out.trans (b4.mono BB.out.size)).grown (show World.grownBy _ w5 (some g) from HGR.out) (by simp; omega) (by rintro q ⟨⟩; omega)
          exact ⟨t + 1, g1, c5, by omega, rfl, by go_num, h3, ⟨grown_old (show World.grownBy _ w5 (some g) from HGR.out) hgn (al_old HX.out.1), grown_old (show World.grownBy _ w5 (some g) from HGR.out) hgn (al_old HX.out.2)⟩, b6⟩
        case measure => simp [intOf]; omega
    · obtain rfl : t = r := by omega
      have hl := HO.out.lt g rfl
      have RW := hide (rw_of_row HO.out HBF.out)
      go_wp2_with fail
      refine (l4Get X.heap.size a b (some ⟨g, 0, none⟩) t s cap dap t c0 D S F X (Nat.le_refl _) (HA.out.mono (by omega)) ((H1.out.below (BB.out.mono hB)).mono (by omega)) (RW.out.ints hl.2) (Nat.le_refl _) HT.out HI.out).mono ?_
      rintro e w5 ⟨rfl, b5⟩
      have B5 := hide (BB.out.trans (b5.mono BB.out.size))
      clear b5
      go_wp2_with fail
      go_ret
      exact ⟨rfl, B5.out⟩
end Vo
end Go.Proofs.Ytldcacdopijfdab
