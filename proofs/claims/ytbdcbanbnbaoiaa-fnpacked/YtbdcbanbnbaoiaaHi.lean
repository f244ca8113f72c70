/- Pack of the model. -/
import Derived.Test.YtbdcbanbnbaoiaaHh
import Derived.Test.YtbdcbanbnbaoiaaTf
import Derived.Deep.LoopGhost
import Derived.Deep.DeepCutAuto
namespace Go.Proofs.Ytbdcbanbnbaoiaa
namespace Vo
open Go.ChangeShapes Go.WideShapes Go.ChangeAt Go.RowKit Go.Joins Go.Sort
open Vl Vp
set_option linter.unusedVariables false
set_option linter.unusedSimpArgs false
theorem ex_fre {n d i : Nat} {C : Nat → MV} (h : PkI n C d) (hd : d ≤ n) (hL : LOk n C) : ∀ t, t ≤ d → ∃ m D, Fre m D (frT n C (pkO n C d) i t)
  | 0, _ => ⟨1, _, fre_all.congr (fun x => ⟨fun _ q hq => by omega, fun _ => trivial⟩)⟩
  | t + 1, ht => by
    obtain ⟨m, D, f⟩ := ex_fre h hd hL (i := i) t (by omega)
    have oq := (So.ord_is (K := keyM C) (show t < n by omega)).1
    have sq := (hL.2 _ oq).1
    by_cases c : meet (C (So.ord (keyM C) n t)) (C i)
    · refine ⟨_, _, (f.take (a := pkO n C d (So.ord (keyM C) n t)) (b := pkO n C d (So.ord (keyM C) n t) + (C (So.ord (keyM C) n t)).s) (by omega)).congr (fun x => ⟨fun hf q hq hm => ?_, fun hf => ⟨fun q hq hm => hf q (by omega) hm, hf t (by omega) c⟩⟩)⟩
      by_cases e : q = t
      · rw [e]; exact hf.2
      · exact hf.1 q (by omega) hm
    · refine ⟨m, D, f.congr (fun x => ⟨fun hf q hq hm => ?_, fun hf q hq hm => hf q (by omega) hm⟩)⟩
      by_cases e : q = t
      · rw [e] at hm; exact absurd hm c
      · exact hf q (by omega) hm
theorem bst_rng {n d : Nat} {C : Nat → MV} (h : PkI n C d) (hd : d < n) (hL : LOk n C) : 0 ≤ bst n C (pkO n C d) (So.ord (keyM C) n d) n ∧ bst n C (pkO n C d) (So.ord (keyM C) n d) n ≤ 4096 * d := by
  obtain ⟨m, D, f⟩ := ex_fre h (by omega) hL (i := So.ord (keyM C) n d) d (Nat.le_refl _)
  exact (first_is h hd hL f).2.2
theorem pkP_rng {n d : Nat} {C : Nat → MV} (h : PkI n C d) (hd : d ≤ n) (hL : LOk n C) : 0 ≤ pkP n C d ∧ pkP n C d ≤ 4096 * d := by
  obtain ⟨a, b, c⟩ := pkP_char n C d hd
  refine ⟨a, ?_⟩
  rcases c with e | ⟨q, q1, q2⟩
  · omega
  · have := h.yes q q1; omega
set_option maxRecDepth 100000 in
set_option maxHeartbeats 8000000 in
theorem specPack (B : Nat) (a : Option Addr) (n cap : Nat) (C : Nat → MV) (w : World) (hB : B ≤ w.heap.size) (h : LM B w a n C) (hn : (n : Int) ≤ 1048576) :
    Calls Try.prog 7 #[.slice a n cap] w fun e w' => PackR w.heap.size n C w e w' := by
  obtain ⟨i0, hi0, hz0, hz1, hz2⟩ := info_parts infoInt
  obtain ⟨W0, hW0⟩ : ∃ W0, w.alloc (.cells #[] 3) = W0 := ⟨_, rfl⟩
  have b0 : Below w.heap.size w W0 := by rw [← hW0]; exact (Below.refl _ _).alloc (Nat.le_refl _) _
  have z0 : W0.heap.size = w.heap.size + 1 := by rw [← hW0]; simp
  have R0 := hide (show RowV w.heap.size W0 (.slice (some ⟨w.heap.size, 0, none⟩) 0 0) 0 (fun _ => -1) from ⟨⟨rfl, .inr ⟨w.heap.size, 0, #[], rfl, Nat.le_refl _, by rw [← hW0]; exact heap_alloc_new w _, Nat.le_refl _, Nat.zero_le _, rfl, rfl⟩⟩, fun j hj => by omega⟩)
  have CL := hide (specLivesOk B a n cap C W0 (by omega) (h.below (b0.mono hB)) hn)
  have H0 := hide (h.below (b0.mono hB))
  have B0 := hide b0
  clear h b0
  go_enter Try.func7, Try.ntmps7
  go_wp2_with fail
  clear hW0
  refine CL.out.mono ?_
  rintro e W1 ⟨rfl, b1⟩
  have B1 := hide (B0.out.trans (b1.mono (by omega)))
  have H1 := hide (H0.out.below (b1.mono (by omega)))
  have R1 := hide (show RowV w.heap.size W1 (.slice (some ⟨w.heap.size, 0, none⟩) 0 0) 0 (fun _ => -1) from ⟨own_below R0.out.1 b1, R0.out.2⟩)
  have s1 := b1.size
  clear b1 CL
  by_cases hL : LOk n C
  case neg =>
    have e1 := hide (show pkN n C = 0 by unfold pkN; rw [if_neg hL])
    have e2 := hide (show pkK n C = 0 by unfold pkK; rw [if_neg hL])
    rw [decide_eq_false hL]
    clear hL
    go_wp2_with fail
    refine bodyPost_ret (v := .tuple #[.slice (some ⟨w.heap.size, 0, none⟩) 0 0, .int .i64 0]) (by simp [results, Try.results7, go_sem]) rfl ?_
    exact ⟨_, _, by rw [e1.out, e2.out], .inl e1.out, B1.out⟩
  rw [decide_eq_true hL]
  have e1 := hide (show pkN n C = n by unfold pkN; rw [if_pos hL])
  have e2 := hide (show pkK n C = pkP n C n by unfold pkK; rw [if_pos hL])
  have n2 : n ≤ 200 := hL.1
  have HL := hide hL
  clear hL
  go_wp2_with fail
  go_loopw [4, 5] (fun v t wx => ∃ k : Nat, k ≤ n ∧ t = .int .i64 k ∧ RowV w.heap.size wx v k (fun _ => -1) ∧ LM B wx a n C ∧ Below w.heap.size w wx ∧ W1.heap.size ≤ wx.heap.size) (fun _ t _ => n - (intOf t).toNat)
  case atStart => exact ⟨0, Nat.zero_le _, rfl, R1.out, H1.out, B1.out, Nat.le_refl _⟩
  case round =>
    obtain ⟨X, rfl⟩ : ∃ X, X = wr := ⟨_, rfl⟩
    obtain ⟨k, hk, rfl, hrv, hlm, hby, hsz⟩ := hrel
    obtain ⟨ra, rc, rfl, _⟩ := hrv.own
    have HRV := hide hrv
    have HLM := hide hlm
    have HBY := hide hby
    clear hrv hlm hby
    by_cases hlt : k < n
    case pos =>
      have kI : (k : Int) < n := by omega
      have AP := hide (show ints k (fun _ => -1) ++ [Value.int .i64 (-1)] = ints (k + 1) (fun _ => -1) from ints_succ k (fun _ => -1))
      go_wp2_with (at_builtin; refine wpList_append_own _ rfl _ _ 26 rfl w.heap.size 3 i0 (.int .i64 0) 1 8 Try.underlying26 hi0 hz0 hz1 hz2 rfl (by decide) _ _ _ rfl (HRV.out.1.alloc _) ⟨X.heap.size, 0, none⟩ 1 1 [.int .i64 (-1)] rfl rfl (World.news_of_block (cs := #[.int .i64 (-1)]) (t := 3) (fr := (0, 0)) (heap_alloc_new X _)) (by simp [Value.oneCell']) (by unfold maxLen; omega) (by omega) (by simp; have := HBY.out.size; omega) ?_; intro v' X3 hown1 hgrow1 _)
      go_roundw
      case rel =>
        rw [AP.out] at hown1
        have KA : Kept (fun q => (Value.slice ra k rc).ownBlock = some q) X X3 := (Kept.of_below ((Below.refl _ X).alloc (Nat.le_refl _) (.cells #[.int .i64 (-1)] 3))).trans ⟨hgrow1.os, hgrow1.tape, hgrow1.output, hgrow1.size, fun q hq hn => hgrow1.block q hq (fun e => hn e.symm)⟩
        have KB := KA.below (B := w.heap.size) HBY.out.size (fun q hq => (HRV.out.1.lt q hq).1)
        exact ⟨k + 1, by omega, by go_num, ⟨hown1, fun q hq => by show bd (-1); unfold bd; omega⟩, HLM.out.below (KB.mono hB), HBY.out.trans KB, Nat.le_trans hsz KA.size⟩
      case measure => simp [intOf]; omega
    obtain rfl : k = n := by omega
    have lw : w.heap.size ≤ X.heap.size := HBY.out.size
    rcases Nat.eq_zero_or_pos k with k0 | k0
    · subst k0
      have CN := hide (specNext X.heap.size a 0 cap C ra rc (pkO 0 C 0) X (Nat.le_refl _) (.inl rfl) (.inl rfl) HL.out)
      rw [show nxt C (pkO 0 C 0) 0 = -1 from rfl] at CN
      go_wp2_with fail
      refine CN.out.mono ?_
      rintro e W5 ⟨rfl, b5⟩
      have B5 := hide (HBY.out.trans (b5.mono lw))
      clear b5 CN
      go_wp2_with fail
      go_loopg [6, 7] 0 (fun gk v6 v7 wx => v6 = .int .i64 0 ∧ v7 = .int .i64 (-1) ∧ Below w.heap.size w wx)
      case atStart => exact ⟨rfl, rfl, B5.out⟩
      case round =>
        obtain ⟨rfl, rfl, hb5⟩ := hrel
        have B6 := hide hb5
        clear hb5
        go_wp2_with fail
        refine bodyPost_ret (v := .tuple #[.slice ra 0 rc, .int .i64 0]) (by simp [results, Try.results7, go_sem]) rfl ?_
        exact ⟨_, _, by rw [e1.out, e2.out]; rfl, .inl e1.out, B6.out⟩
    obtain ⟨g, cg, hgv, hgl⟩ : ∃ g cg, Value.slice ra k rc = .slice (some ⟨g, 0, none⟩) k cg ∧ w.heap.size ≤ g := by
      obtain ⟨_, ⟨_, e⟩ | ⟨g, cg, _, e, hg, _⟩⟩ := HRV.out.1
      · omega
      · exact ⟨g, cg, e, hg⟩
    have RG := hide (show Rw X g k (pkO k C 0) from rw_of_row (by rw [← hgv]; exact HRV.out.1) (fun t ht => by show bd (-1); unfold bd; omega))
    rw [hgv]
    have gX := RG.out.lt (by omega)
    clear hgv HRV
    have CN := hide (specNext X.heap.size a k cap C (some ⟨g, 0, none⟩) cg (pkO k C 0) X (Nat.le_refl _) (HLM.out.mono (by omega)) (RG.out.ints gX) HL.out)
    go_wp2_with fail
    refine CN.out.mono ?_
    rintro e W5 ⟨rfl, b5⟩
    have B5 := hide (HBY.out.trans (b5.mono lw))
    have L5 := hide (HLM.out.below (b5.mono (by omega)))
    have R5 := hide (RG.out.below b5 gX)
    have s5 : X.heap.size ≤ W5.heap.size := b5.size
    clear b5 CN
    go_wp2_with fail
    go_loopg [6, 7] k (fun gk v6 v7 wx => ∃ d : Nat, d + gk = k ∧ v6 = .int .i64 (pkP k C d) ∧ v7 = .int .i64 (nxt C (pkO k C d) k) ∧ Rw wx g k (pkO k C d) ∧ PkI k C d ∧ LM B wx a k C ∧ Below w.heap.size w wx ∧ X.heap.size ≤ wx.heap.size)
    case atStart => exact ⟨0, by omega, rfl, rfl, R5.out, PkI.zero k C, L5.out, B5.out, s5⟩
    case round =>
      obtain ⟨Z, rfl⟩ : ∃ Z, Z = wr := ⟨_, rfl⟩
      obtain ⟨d, hdk, rfl, rfl, hrw, hpi, hlm, hby, hsz2⟩ := hrel
      have HRW := hide hrw
      have HPI := hide hpi
      have HLM2 := hide hlm
      have HBY2 := hide hby
      have lz : w.heap.size ≤ Z.heap.size := hby.size
      have gZ : g < Z.heap.size := by omega
      clear hrw hpi hlm hby
      by_cases hd : d < k
      case neg =>
        obtain rfl : d = k := by omega
        rw [nxt_end HL.out HPI.out]
        have O5 := hide (show OwnL w.heap.size Z (some ⟨g, 0, none⟩) d (pkO d C d) from .inr ⟨g, rfl, hgl, HRW.out⟩)
        rw [← e2.out]
        go_wp2_with fail
        refine bodyPost_ret (v := .tuple #[.slice (some ⟨g, 0, none⟩) d cg, .int .i64 (pkK d C)]) (by simp [results, Try.results7, go_sem]) rfl ?_
        exact ⟨_, _, by rw [e1.out], by rw [e1.out]; exact O5.out, HBY2.out⟩
      rw [nxt_ord HL.out HPI.out hd]
      obtain ⟨i, hi⟩ : ∃ i, So.ord (keyM C) k d = i := ⟨_, rfl⟩
      have iO := (So.ord_is (K := keyM C) hd).1
      have br := bst_rng HPI.out hd HL.out
      have PN := hide (HPI.out.next hd HL.out br.1 br.2)
      have pr := pkP_rng HPI.out (by omega) HL.out
      have NW := hide (show ∀ t, pkO k C (d + 1) t = if t = i then bst k C (pkO k C d) i k else pkO k C d t from fun t => by rw [← hi]; rfl)
      have PW := hide (show pkP k C (d + 1) = if pkP k C d < bst k C (pkO k C d) i k + (C i).s then bst k C (pkO k C d) i k + (C i).s else pkP k C d by rw [← hi]; rfl)
      rw [hi] at iO br ⊢
      have iI : (i : Int) < k := by omega
      have RGN := hide (fun p hp => HPI.out.rng (by omega) HL.out p hp)
      have ORG := hide (show ∀ p, p < k → -1 ≤ pkO k C d p ∧ pkO k C d p ≤ 1000000 from fun p hp => by have := RGN.out p hp; have := (HL.out.2 p hp).1; omega)
      have PE := hide (show pkO k C d i = -1 by rw [← hi]; exact HPI.out.no _ (So.ord_is (K := keyM C) hd).1 (by rw [(So.ord_is (K := keyM C) hd).2]; omega))
      obtain ⟨pv, hpv⟩ : ∃ pv, pkP k C d = pv := ⟨_, rfl⟩
      rw [hpv] at pr PW ⊢
      clear hi hpv
      have CF0 := hide (specFree Z.heap.size a k cap C (some ⟨g, 0, none⟩) cg (pkO k C d) i 0 Z (Nat.le_refl _) (HLM2.out.mono (by omega)) (HRW.out.ints gZ) HL.out ORG.out iO (by omega))
      go_wp2_with fail
      refine CF0.out.mono ?_
      rintro e Z1 ⟨rfl, b6⟩
      have BZ1 := hide (show Below Z.heap.size Z Z1 from b6)
      clear b6 CF0
      go_upto_if 36 with fail
      go_cut [8] (fun v wx => v = .int .i64 (bst k C (pkO k C d) i 0) ∧ wx = Z1)
      case first =>
        by_cases c0 : FreeOk k C (pkO k C d) i 0
        · rw [decide_eq_true c0]
          have e0 := hide (show bst k C (pkO k C d) i 0 = 0 by unfold bst; rw [if_pos c0])
          clear c0
          go_wp2_with fail
          go_meet
          exact ⟨by rw [e0.out], rfl⟩
        · rw [decide_eq_false c0]
          have e0 := hide (show bst k C (pkO k C d) i 0 = -1 by unfold bst; rw [if_neg c0])
          clear c0
          go_wp2_with fail
          go_meet
          exact ⟨by rw [e0.out], rfl⟩
      case rest =>
      obtain ⟨rfl, hw⟩ := hcut
      have hw := hw.symm
      subst hw
      go_wp2_with fail
      go_loopw [8, 9] (fun v8 v9 wx => ∃ q : Nat, q ≤ k ∧ v9 = .int .i64 q ∧ v8 = .int .i64 (bst k C (pkO k C d) i q) ∧ Below Z.heap.size Z wx) (fun _ v9 _ => k - (intOf v9).toNat)
      case atStart => exact ⟨0, Nat.zero_le _, rfl, rfl, BZ1.out⟩
      case round =>
        obtain ⟨V, rfl⟩ : ∃ V, V = wr := ⟨_, rfl⟩
        obtain ⟨q, hq, rfl, rfl, hbv⟩ := hrel
        have HBV := hide hbv
        have lV : Z.heap.size ≤ V.heap.size := hbv.size
        clear hbv
        by_cases hqk : q < k
        case neg =>
          obtain rfl : q = k := by omega
          rcases HLM2.out.below (HBV.out.mono (by omega)) with h0 | ⟨b, off, rfl, hbB, hc⟩
          · omega
          obtain ⟨⟨_, c1, _, _⟩, _⟩ := hc i iO
          have RV := hide (HRW.out.below HBV.out gZ)
          obtain ⟨r1, r2, _⟩ := RV.out i iO
          have si := (HL.out.2 i iO).1
          obtain ⟨v, hv⟩ : ∃ v, bst q C (pkO q C d) i q = v := ⟨_, rfl⟩
          obtain ⟨y, hy⟩ : ∃ y, (C i).s = y := ⟨_, rfl⟩
          rw [hy] at c1 si PW
          rw [hv] at br PW NW ⊢
          have bdv := hide (show bd v by unfold bd; omega)
          have dq : (d : Int) < q := by omega
          have ws : IntKind.i64.wrap (v + y) = v + y := by rw [IntKind.wrap_i64]; omega
          obtain ⟨V2, hV2⟩ : ∃ V2, V.setCell ⟨g, i, none⟩ (.int .i64 v) = V2 := ⟨_, rfl⟩
          have RV2 := hide (show Rw V2 g q (pkO q C (d + 1)) by rw [← hV2]; exact (RV.out.set i v bdv.out).same (fun t ht => NW.out t))
          have BV2 := hide (show Below w.heap.size w V2 by rw [← hV2]; exact (HBY2.out.trans (HBV.out.mono lz)).setCell (p := ⟨g, i, none⟩) hgl _)
          have LV2 := hide (show LM B V2 (some ⟨b, off, none⟩) q C by rw [← hV2]; exact (HLM2.out.below (HBV.out.mono (by omega))).below ((Below.refl B V).setCell (p := ⟨g, i, none⟩) (by show B ≤ g; omega) _))
          have sV2 : V2.heap.size = V.heap.size := by rw [← hV2]; simp [World.setCell]
          have c1' : V2.cell? ⟨b, off + i * 4 + 1, none⟩ = some (.int .i64 y) := by rw [← hV2, World.cell?_setCell_other _ _ _ _ (by intro e; injection e with e _ _; omega)]; exact c1
          have CN := hide (specNext V2.heap.size (some ⟨b, off, none⟩) q cap C (some ⟨g, 0, none⟩) cg (pkO q C (d + 1)) V2 (Nat.le_refl _) (LV2.out.mono (by omega)) (RV2.out.ints (by omega)) HL.out)
          clear hc hv hy
          by_cases t0 : pv < v + y
          case pos =>
            have EP := hide (show pkP q C (d + 1) = v + y by rw [PW.out, if_pos t0])
            have t0' : decide (pv < v + y) = true := decide_eq_true t0
            go_wp2_with fail
            refine CN.out.mono ?_
            rintro e V3 ⟨rfl, b8⟩
            have R8 := hide (RV2.out.below b8 (by omega))
            have L8 := hide (LV2.out.below (b8.mono (by omega)))
            have B8 := hide (BV2.out.trans (b8.mono BV2.out.size))
            have s8 := b8.size
            clear b8 CN
            go_wp2_with fail
            go_roundg (gk - 1)
            case rel => exact ⟨d + 1, by omega, by rw [EP.out], rfl, R8.out, PN.out, L8.out, B8.out, by omega⟩
            case measure => omega
          case neg =>
            have EP := hide (show pkP q C (d + 1) = pv by rw [PW.out, if_neg t0])
            have t0' : decide (pv < v + y) = false := decide_eq_false t0
            go_wp2_with fail
            refine CN.out.mono ?_
            rintro e V3 ⟨rfl, b8⟩
            have R8 := hide (RV2.out.below b8 (by omega))
            have L8 := hide (LV2.out.below (b8.mono (by omega)))
            have B8 := hide (BV2.out.trans (b8.mono BV2.out.size))
            have s8 := b8.size
            clear b8 CN
            go_wp2_with fail
            go_roundg (gk - 1)
            case rel => exact ⟨d + 1, by omega, by rw [EP.out], rfl, R8.out, PN.out, L8.out, B8.out, by omega⟩
            case measure => omega
        have qI : (q : Int) < k := by omega
        have BC := hide (bst_char k C (pkO k C d) i (fun p hp => (HL.out.2 p hp).1.1) q (by omega))
        rcases HLM2.out.below (HBV.out.mono (by omega)) with h0 | ⟨b, off, rfl, hbB, hc⟩
        · omega
        obtain ⟨⟨_, c1, _, _⟩, _⟩ := hc q hqk
        obtain ⟨cq, _, _⟩ := (HRW.out.below HBV.out gZ) q hqk
        have rq := RGN.out q hqk
        have sq := (HL.out.2 q hqk).1
        obtain ⟨o, ho⟩ : ∃ o, pkO k C d q = o := ⟨_, rfl⟩
        obtain ⟨y, hy⟩ : ∃ y, (C q).s = y := ⟨_, rfl⟩
        obtain ⟨v, hv⟩ : ∃ v, bst k C (pkO k C d) i q = v := ⟨_, rfl⟩
        have bv1 := BC.out.1
        rw [hv] at bv1
        have NX := hide (show bst k C (pkO k C d) i (q + 1) = if 0 ≤ o ∧ (v < 0 ∨ o + y < v) ∧ FreeOk k C (pkO k C d) i (o + y) then o + y else v by rw [bst, ho, hy, hv])
        rw [hy] at c1 sq rq
        rw [ho] at cq rq
        obtain ⟨rq1, rq2, -⟩ := rq
        rw [hv]
        have ws : IntKind.i64.wrap (o + y) = o + y := by rw [IntKind.wrap_i64]; omega
        clear hc ho hy hv
        by_cases t0 : 0 ≤ o
        case neg =>
          have EN := hide (show bst k C (pkO k C d) i (q + 1) = v by rw [NX.out, if_neg (fun h => t0 h.1)])
          have t0' : decide (0 ≤ o) = false := decide_eq_false t0
          clear t0
          go_wp2_with fail
          go_quiet (fail)
          go_wp2_with fail
          go_roundw
          all_goals first
            | (simp only [intOf]; omega)
            | (simp [intOf]; omega)
            | exact ⟨q + 1, by omega, by go_num, by rw [EN.out], (below_drewN HBV.out _)⟩
        have CF := hide (fun (W : World) (hW : Below V.heap.size V W) => specFree Z.heap.size _ k cap C (some ⟨g, 0, none⟩) cg (pkO k C d) i (o + y) W (Nat.le_trans lV hW.size) ((HLM2.out.mono (by omega)).below (HBV.out.trans (hW.mono lV))) ((HRW.out.ints gZ).below (HBV.out.trans (hW.mono lV))) HL.out ORG.out iO (by omega))
        by_cases t1 : v < 0
        case pos =>
          have t1' : decide (v < 0) = true := decide_eq_true t1
          by_cases t3 : FreeOk k C (pkO k C d) i (o + y)
          case pos =>
            have EN := hide (show bst k C (pkO k C d) i (q + 1) = o + y by rw [NX.out, if_pos ⟨t0, .inl t1, t3⟩])
            simp only [decide_eq_true t3] at CF
            clear t3
            go_wp2_with fail
            go_quiet (fail)
            go_wp2_with fail
            refine (CF.out _ (below_drewN (Below.refl _ _) _)).mono ?_
            rintro e Y1 ⟨rfl, b7⟩
            have B7 := hide ((below_drewN HBV.out _).trans (b7.mono (by have := HBV.out.size; exact this)))
            clear b7
            go_wp2_with fail
            go_roundw
            all_goals first
              | (simp only [intOf]; omega)
              | (simp [intOf]; omega)
              | exact ⟨q + 1, by omega, by go_num, by rw [EN.out], B7.out⟩
          case neg =>
            have EN := hide (show bst k C (pkO k C d) i (q + 1) = v by rw [NX.out, if_neg (fun h => t3 h.2.2)])
            simp only [decide_eq_false t3] at CF
            clear t3
            go_wp2_with fail
            go_quiet (fail)
            go_wp2_with fail
            refine (CF.out _ (below_drewN (Below.refl _ _) _)).mono ?_
            rintro e Y1 ⟨rfl, b7⟩
            have B7 := hide ((below_drewN HBV.out _).trans (b7.mono (by have := HBV.out.size; exact this)))
            clear b7
            go_wp2_with fail
            go_roundw
            all_goals first
              | (simp only [intOf]; omega)
              | (simp [intOf]; omega)
              | exact ⟨q + 1, by omega, by go_num, by rw [EN.out], B7.out⟩
        have t1' : decide (v < 0) = false := decide_eq_false t1
        by_cases t2 : o + y < v
        case pos =>
          have t2' : decide (o + y < v) = true := decide_eq_true t2
          by_cases t3 : FreeOk k C (pkO k C d) i (o + y)
          case pos =>
            have EN := hide (show bst k C (pkO k C d) i (q + 1) = o + y by rw [NX.out, if_pos ⟨t0, .inr t2, t3⟩])
            simp only [decide_eq_true t3] at CF
            clear t3 t1
            go_wp2_with fail
            go_quiet (fail)
            go_wp2_with fail
            refine (CF.out _ (below_drewN (Below.refl _ _) _)).mono ?_
            rintro e Y1 ⟨rfl, b7⟩
            have B7 := hide ((below_drewN HBV.out _).trans (b7.mono (by have := HBV.out.size; exact this)))
            clear b7
            go_wp2_with fail
            go_roundw
            all_goals first
              | (simp only [intOf]; omega)
              | (simp [intOf]; omega)
              | exact ⟨q + 1, by omega, by go_num, by rw [EN.out], B7.out⟩
          case neg =>
            have EN := hide (show bst k C (pkO k C d) i (q + 1) = v by rw [NX.out, if_neg (fun h => t3 h.2.2)])
            simp only [decide_eq_false t3] at CF
            clear t3 t1
            go_wp2_with fail
            go_quiet (fail)
            go_wp2_with fail
            refine (CF.out _ (below_drewN (Below.refl _ _) _)).mono ?_
            rintro e Y1 ⟨rfl, b7⟩
            have B7 := hide ((below_drewN HBV.out _).trans (b7.mono (by have := HBV.out.size; exact this)))
            clear b7
            go_wp2_with fail
            go_roundw
            all_goals first
              | (simp only [intOf]; omega)
              | (simp [intOf]; omega)
              | exact ⟨q + 1, by omega, by go_num, by rw [EN.out], B7.out⟩
        case neg =>
          have EN := hide (show bst k C (pkO k C d) i (q + 1) = v by rw [NX.out, if_neg (fun h => by rcases h.2.1 with h | h; exact t1 h; exact t2 h)])
          have t2' : decide (o + y < v) = false := decide_eq_false t2
          have t2'' : v ≤ o + y := by omega
          have t1'' : 0 ≤ v := by omega
          clear t1
          go_wp2_with fail
          go_quiet (fail)
          go_wp2_with fail
          go_roundw
          all_goals first
            | (simp only [intOf]; omega)
            | (simp [intOf]; omega)
            | exact ⟨q + 1, by omega, by go_num, by rw [EN.out], (below_drewN HBV.out _)⟩
end Vo
end Go.Proofs.Ytbdcbanbnbaoiaa
