/- Diagonal of the model. -/
import Derived.Test.YtldcacdopijfdabUg
import Derived.Test.YtldcacdopijfdabUf
namespace Go.Proofs.Ytldcacdopijfdab
namespace Vo
open Go.ChangeShapes Go.WideShapes Go.ChangeAt Go.RowKit Go.Joins
open Vl Vp Vr
set_option linter.unusedVariables false
set_option linter.unusedSimpArgs false

theorem min_ways (a b : Int) : (decide (b < a) = true ∧ min a b = b ∧ ((b == 1) = true ∨ (b == 1) = false)) ∨ (decide (b < a) = false ∧ min a b = a ∧ ((a == 1) = true ∨ (a == 1) = false)) := by
  by_cases c : b < a
  · exact .inl ⟨decide_eq_true c, by omega, by cases (b == 1) <;> simp⟩
  · exact .inr ⟨decide_eq_false c, by omega, by cases (a == 1) <;> simp⟩
set_option maxRecDepth 100000 in
set_option maxHeartbeats 6000000 in
theorem specDiagonal (B : Nat) (a b : Option Addr) (r s cap dap : Nat) (D S : Nat → Int) (o n x y : Int) (w : World) (hB : B ≤ w.heap.size) (h : Ints B w a r D) (h' : Ints B w b s S) (hr : (r : Int) ≤ 1048576) (hs : (s : Int) ≤ 1048576) :
    Calls Try.prog 7 #[.agg #[.slice a r cap, .slice b s dap, .int .i64 o, .int .i64 n], .int .i64 x, .int .i64 y] w fun e w' => ViewR w.heap.size (turnedV r s D S o n (diaV r D S o n x y)) w e w' := by
  obtain ⟨W0, hW0⟩ : ∃ W0, (w.alloc (.cells #[.slice a r cap, .slice b s dap, .int .i64 o, .int .i64 n] 26)).alloc (.cells #[.slice none 0 0, .slice none 0 0, .int .i64 0, .int .i64 0] 26) = W0 := ⟨_, rfl⟩
  have hs0 : W0.heap.size = w.heap.size + 1 + 1 := by rw [← hW0]; simp
  have bl : Below w.heap.size w W0 := by rw [← hW0]; exact ((Below.refl _ _).alloc (Nat.le_refl _) _).alloc (by simp) _
  have n0 : Box W0 w.heap.size (.slice a r cap) (.slice b s dap) (.int .i64 o) (.int .i64 n) := by
    rw [← hW0]; exact (box_new w (.slice a r cap) (.slice b s dap) (.int .i64 o) (.int .i64 n) 26).below ((Below.refl (w.heap.size + 1) _).alloc (by simp) _) (by omega)
  have m0 : Box W0 (w.heap.size + 1) (.slice none 0 0) (.slice none 0 0) (.int .i64 0) (.int .i64 0) := by
    have q := box_new (w.alloc (.cells #[.slice a r cap, .slice b s dap, .int .i64 o, .int .i64 n] 26)) (.slice none 0 0) (.slice none 0 0) (.int .i64 0) (.int .i64 0) 26
    rw [World.size_alloc] at q
    rw [← hW0]; exact q
  have g0 : Free W0 (w.heap.size + 1) := by
    have q := free_new (w.alloc (.cells #[.slice a r cap, .slice b s dap, .int .i64 o, .int .i64 n] 26)) #[.slice none 0 0, .slice none 0 0, .int .i64 0, .int .i64 0] 26
    rw [World.size_alloc] at q
    rw [← hW0]; exact q
  have H := hide (h.below (bl.mono hB))
  have H' := hide (h'.below (bl.mono hB))
  have BL := hide bl
  have N0 := hide n0
  have M0 := hide m0
  have G0 := hide g0
  have HS0 := hide hs0
  obtain ⟨x0, x1, x2, x3⟩ := n0
  have HW := hide (show Ints B w a r D ∧ Ints B w b s S from ⟨h, h'⟩)
  clear h h' bl m0 g0 hs0
  go_enter Try.func7, Try.ntmps7
  go_wp2_with fail
  clear hW0
  refine (l3Axis B a b r s cap dap D S o n x W0 (by have := HS0.out; omega) H.out H'.out hr hs).mono ?_
  rintro e w1 ⟨rfl, b1⟩
  have zz := HS0.out
  have z1 : w.heap.size + 1 < w1.heap.size := by have := b1.size; omega
  have N1 := hide (N0.out.below b1 (by omega))
  have M1 := hide (M0.out.below b1 (by omega))
  have G1 := hide (G0.out.below b1 (by omega))
  have H1 := hide (H.out.below (b1.mono (by omega)))
  have H1' := hide (H'.out.below (b1.mono (by omega)))
  have B1 := hide (BL.out.trans (b1.mono BL.out.size))
  clear b1 zz x0 x1 x2 x3
  cases hax : axOk r s D S o n x with
  | false =>
    have ez := hide (turnedV_no (T := diaV r D S o n x y) hax (fun q => diaV_no (fun h => q h.1)))
    obtain ⟨y0, y1, y2, y3⟩ := M1.out
    have gg := G1.out
    unfold Free at gg
    clear hax
    go_wp2_with fail
    refine bodyPost_ret (v := .agg #[.slice none 0 0, .slice none 0 0, .int .i64 0, .int .i64 0]) (by simp [results, Try.results7, go_sem, y0, y1, y2, y3]) rfl (by
      rw [ez.out]
      refine viewR_zero ?_
      repeat (refine Below.setCell ?_ (by simp) _)
      exact B1.out)
  | true =>
  obtain ⟨x0, x1, x2, x3⟩ := N1.out
  have HAX := hide hax
  clear hax
  go_wp2_with fail
  refine (l3Axis B a b r s cap dap D S o n y w1 (by omega) H1.out H1'.out hr hs).mono ?_
  rintro e w2 ⟨rfl, b1⟩
  have z2 : w.heap.size + 1 < w2.heap.size := by have := b1.size; omega
  have N2 := hide (N1.out.below b1 (by omega))
  have M2 := hide (M1.out.below b1 (by omega))
  have G2 := hide (G1.out.below b1 (by omega))
  have B2 := hide (B1.out.trans (b1.mono B1.out.size))
  clear b1 x0 x1 x2 x3 N1 M1 G1 B1
  cases hay : axOk r s D S o n y with
  | false =>
    have ez := hide (turnedV_no (T := diaV r D S o n x y) hay (fun q => diaV_no (fun h => q h.2.1)))
    obtain ⟨y0, y1, y2, y3⟩ := M2.out
    have gg := G2.out
    unfold Free at gg
    have B1 := B2
    clear hay
    go_wp2_with fail
    refine bodyPost_ret (v := .agg #[.slice none 0 0, .slice none 0 0, .int .i64 0, .int .i64 0]) (by simp [results, Try.results7, go_sem, y0, y1, y2, y3]) rfl (by
      rw [ez.out]
      refine viewR_zero ?_
      repeat (refine Below.setCell ?_ (by simp) _)
      exact B1.out)
  | true =>
  have hax := HAX.out
  unfold axOk at hax hay
  rw [Bool.and_eq_true, decide_eq_true_eq] at hax hay
  have HV := hide (vok_iff.1 hax.1)
  have ET := hide (show turnedV r s D S o n (diaV r D S o n x y) = (diaV r D S o n x y).orZero by unfold turnedV; rw [hax.1]; rfl)
  have hx := hax.2
  have hy := hay.2
  clear hax hay HAX
  obtain ⟨p, rfl⟩ : ∃ p : Nat, x = p := ⟨x.toNat, by omega⟩
  obtain ⟨q, rfl⟩ : ∃ q : Nat, y = q := ⟨y.toNat, by omega⟩
  obtain rfl := HV.out.2.1
  have hp : p < s := by omega
  have hq : q < s := by omega
  have pI : (p : Int) < s := by omega
  have qI : (q : Int) < s := by omega
  have r6 : s ≤ 6 := (dok_iff.1 HV.out.1).1
  clear hx hy
  by_cases hpq : p = q
  · have e1 : ((p : Int) == (q : Int)) = true := beq_iff_eq.2 (by omega)
    have ez := hide (turnedV_zero (r := s) (s := s) (D := D) (S := S) (o := o) (n := n) (diaV_no (r := s) (D := D) (S := S) (o := o) (n := n) (x := (p : Int)) (y := (q : Int)) (fun h => h.2.2 (by omega))))
    obtain ⟨y0, y1, y2, y3⟩ := M2.out
    have gg := G2.out
    unfold Free at gg
    have B1 := B2
    clear hpq
    go_wp2_with fail
    refine bodyPost_ret (v := .agg #[.slice none 0 0, .slice none 0 0, .int .i64 0, .int .i64 0]) (by simp [results, Try.results7, go_sem, y0, y1, y2, y3]) rfl (by
      rw [ez.out]
      refine viewR_zero ?_
      repeat (refine Below.setCell ?_ (by simp) _)
      exact B1.out)
  have e1 : ((p : Int) == (q : Int)) = false := beq_eq_false_iff_ne.2 (by omega)
  have EZ := hide (diaV_yes (r := s) (D := D) (S := S) (o := o) (n := n) (a := p) (b := q) ⟨by omega, by omega, by omega⟩)
  obtain ⟨W1, hW1⟩ : ∃ W1, w2.alloc (.cells #[.slice none 0 0, .slice none 0 0, .int .i64 o, .int .i64 n] 26) = W1 := ⟨_, rfl⟩
  have T0 := hide (show WS w (w2.heap.size + 1) w2.heap.size NoA (.slice none 0 0) (.slice none 0 0) 0 0 (dgf p q D 0) (dgf p q S 0) o n W1 from by rw [← hW1]; exact ws_new _ _ _ B2.out M2.out G2.out z2)
  have N3 := hide (N2.out.below (show Below w2.heap.size w2 W1 by rw [← hW1]; exact (Below.refl _ _).alloc (Nat.le_refl _) _) (by omega))
  obtain ⟨x0, x1, x2, x3⟩ := N2.out
  obtain ⟨v0, v1, v2, v3⟩ := N3.out
  obtain ⟨i0, hi0, hz0, hz1, hz2⟩ := info_parts infoInt
  clear hpq
  go_wp2_with fail
  clear hW1 x0 x1 x2 x3 e1 v0 v1 v2 v3
  go_loopw [8] (fun i wx => ∃ (t : Nat) (a1 b1 : Option Addr) (c1 d1 : Nat), t ≤ s ∧ i = .int .i64 t ∧ WS w (w2.heap.size + 1) w2.heap.size NoA (.slice a1 (dgc p q t) c1) (.slice b1 (dgc p q t) d1) (dgc p q t) (dgc p q t) (dgf p q D t) (dgf p q S t) o n wx ∧ Box wx w.heap.size (.slice a s cap) (.slice b s dap) (.int .i64 o) (.int .i64 n)) (fun i _ => s - (intOf i).toNat)
  case atStart => exact ⟨0, none, none, 0, 0, Nat.zero_le _, rfl, T0.out, N3.out⟩
  case round =>
    obtain ⟨X, rfl⟩ : ∃ X, X = wr := ⟨_, rfl⟩
    obtain ⟨t, a1, b1, c1, d1, ht, rfl, hws, hbx⟩ := hrel
    have HWS := hide hws
    have HBX := hide hbx
    have zX := hws.sz
    have lP := hws.pb.lt
    have OAX := hide (HW.out.1.below (hws.below.mono hB))
    have OBX := hide (HW.out.2.below (hws.below.mono hB))
    have dle := dgc_le p q t
    clear hws
    obtain ⟨x0, x1, x2, x3⟩ := hbx
    rcases OAX.out with h0 | ⟨ba, oa, rfl, hba, hca⟩
    · omega
    rcases OBX.out with h0 | ⟨bb, ob, rfl, hbb, hcb⟩
    · omega
    have HCA := hide hca
    have HCB := hide hcb
    clear hca hcb
    by_cases hlt : t < s
    · have tI : (t : Int) < s := by omega
      have ca := (HCA.out t hlt).1
      have cb := (HCB.out t hlt).1
      have BD := hide (HCA.out t hlt).2
      have BS := hide (HCB.out t hlt).2
      by_cases htp : t = p ∨ t = q
      · have EC := hide (show dgc p q (t + 1) = dgc p q t ∧ dgf p q D (t + 1) = dgf p q D t ∧ dgf p q S (t + 1) = dgf p q S t from ⟨by simp only [dgc]; rw [if_pos htp], by simp only [dgf]; rw [if_pos htp], by simp only [dgf]; rw [if_pos htp]⟩)
        by_cases h1 : t = p
        · have e1 : ((t : Int) != (p : Int)) = false := by rw [bne_eq_false_iff_eq]; omega
          clear htp h1
          go_wp2_with fail
          go_roundw
          case rel => exact ⟨t + 1, a1, b1, c1, d1, by omega, by go_num, by rw [EC.out.1, EC.out.2.1, EC.out.2.2]; exact HWS.out, HBX.out⟩
          case measure => simp [intOf]; omega
        · have e1 : ((t : Int) != (p : Int)) = true := by rw [bne_iff_ne]; omega
          have e2 : ((t : Int) != (q : Int)) = false := by rw [bne_eq_false_iff_eq]; omega
          clear htp h1
          go_wp2_with fail
          go_roundw
          case rel => exact ⟨t + 1, a1, b1, c1, d1, by omega, by go_num, by rw [EC.out.1, EC.out.2.1, EC.out.2.2]; exact HWS.out, HBX.out⟩
          case measure => simp [intOf]; omega
      · have EC := hide (show dgc p q (t + 1) = dgc p q t + 1 ∧ dgf p q D (t + 1) = upd (dgf p q D t) (dgc p q t) (D t) ∧ dgf p q S (t + 1) = upd (dgf p q S t) (dgc p q t) (S t) from ⟨by simp only [dgc]; rw [if_neg htp], by simp only [dgf]; rw [if_neg htp], by simp only [dgf]; rw [if_neg htp]⟩)
        have e1 : ((t : Int) != (p : Int)) = true := by rw [bne_iff_ne]; omega
        have e2 : ((t : Int) != (q : Int)) = true := by rw [bne_iff_ne]; omega
        obtain ⟨p0, p1, p2, p3⟩ := HWS.out.pb.box
        have fP := HWS.out.pb.free
        unfold Free at fP
        clear htp
        have OA := hide ((HWS.out.pb.ra.1.alloc (.cells #[.int .i64 (D t)] 3)).drew)
        have HN := hide (World.news_of_block (cs := #[.int .i64 (D t)]) (t := 3) (fr := (0, 0)) (heap_alloc_new X _))
        have hb0 : w2.heap.size + 1 ≤ X.heap.size := HWS.out.pb.hB
        have NOB := hide (show ∀ j, j ≤ w2.heap.size → ¬ (Value.slice a1 (dgc p q t) c1).ownBlock = some j from fun j hj e => by have := (HWS.out.pb.ra.lt e).1; omega)
        have KAF := hide (fun (w3 : World) (hg : (X.alloc (.cells #[.int .i64 (D t)] 3)).grownBy w3 (Value.slice a1 (dgc p q t) c1).ownBlock) => show Kept (fun j => (Value.slice a1 (dgc p q t) c1).ownBlock = some j) X w3 from kept_row hg)
        have KC := hide (fun (w3 : World) (hK : Kept (fun j => (Value.slice a1 (dgc p q t) c1).ownBlock = some j) X w3) (j i : Nat) (hj : j ≤ w2.heap.size) => show w3.cell? ⟨j, i, none⟩ = X.cell? ⟨j, i, none⟩ from World.cell?_of_block (w := X) (a := ⟨j, i, none⟩) (hK.block j (by omega) (NOB.out j hj)))
        have KF := hide (fun (w3 : World) (hK : Kept (fun j => (Value.slice a1 (dgc p q t) c1).ownBlock = some j) X w3) (i : Nat) => show w3.frozen? ⟨w2.heap.size, i, none⟩ = X.frozen? ⟨w2.heap.size, i, none⟩ from World.frozen?_of_block (w := X) (a := ⟨w2.heap.size, i, none⟩) (hK.block w2.heap.size (by omega) (NOB.out _ (Nat.le_refl _))))
        have cAl : ∀ (x : Obj) i, (X.alloc x).cell? ⟨w2.heap.size, i, none⟩ = X.cell? ⟨w2.heap.size, i, none⟩ := fun x i => World.cell?_alloc_old X x ⟨w2.heap.size, i, none⟩ (by show w2.heap.size ≠ X.heap.size; omega)
        have cAl' : ∀ (x : Obj) i, (X.drew.alloc x).cell? ⟨w2.heap.size, i, none⟩ = X.cell? ⟨w2.heap.size, i, none⟩ := fun x i => World.cell?_alloc_old X.drew x ⟨w2.heap.size, i, none⟩ (by show w2.heap.size ≠ X.heap.size; omega)
        go_upto_region 8 with fail
        clear e1 e2
        go_cut [] from 32 to 66 (fun wx => ∃ (a2 : Option Addr) (c2 : Nat), WS w (w2.heap.size + 1) w2.heap.size NoA (.slice a2 (dgc p q t + 1) c2) (.slice b1 (dgc p q t) d1) (dgc p q t + 1) (dgc p q t) (upd (dgf p q D t) (dgc p q t) (D t)) (dgf p q S t) o n wx ∧ Box wx w.heap.size (.slice (some ⟨ba, oa, none⟩) s cap) (.slice (some ⟨bb, ob, none⟩) s dap) (.int .i64 o) (.int .i64 n) ∧ wx.cell? ⟨bb, ob + t, none⟩ = some (.int .i64 (S t)))
        case first =>
          go_region_law (first
            | (refine step_append_lies _ (by rfl) _ _ _ (by rfl) (w2.heap.size + 1) 3 i0 _ 1 8 Try.underlying22 hi0 hz0 hz1 hz2 rfl (by omega) (Value.slice a1 (dgc p q t) c1) (dgc p q t) (ints (dgc p q t) (dgf p q D t)) (by rfl) OA.out
                ⟨X.heap.size, 0, none⟩ 1 1 [.int .i64 (D t)] (by rfl) (by rfl) HN.out (by simp [Value.oneCell'])
                (by omega) (by unfold maxLen; omega) (by omega) (by simp; omega) (X.heap.size + 1) (by simp) ?_
               intro g' c' w3 hown3 hgrow hat hlt3
               have HGR := hide (show (X.alloc (.cells #[.int .i64 (D t)] 3)).grownBy w3 (Value.slice a1 (dgc p q t) c1).ownBlock from ⟨hgrow.os, hgrow.tape, hgrow.output, hgrow.size, hgrow.block⟩)
               have KA := hide (KAF.out w3 HGR.out)
               have HOW := hide hown3
               have HAT := hide hat
               have r3 := fun i => KC.out w3 KA.out w2.heap.size i (Nat.le_refl _)
               have r4 := fun i => KF.out w3 KA.out i
               clear hown3 hgrow hat))
          all_goals (go_wp2_with fail)
          all_goals go_meet
          all_goals
            have T5 := HWS.out.growA (v' := .slice (some ⟨g', 0, none⟩) (dgc p q t + 1) c') BD.out HOW.out HGR.out (by rcases HAT.out with e | e; exact .inl e.symm; exact .inr (by rw [e]; simp [Value.ownBlock]))
            refine ⟨some ⟨g', 0, none⟩, c', T5, ?_, se_old (by show bb ≠ w2.heap.size; omega) ((KC.out w3 KA.out bb (ob + t) (by omega)).trans cb)⟩
            exact (HBX.out.kept KA.out (by omega) (NOB.out _ (by omega))).set _ _ (by show w.heap.size ≠ w2.heap.size; omega)
        case rest =>
        obtain ⟨a2, c2, tz, bz, cz2⟩ := hcut
        obtain ⟨Z, rfl⟩ : ∃ Z, Z = wc := ⟨_, rfl⟩
        have TZ := hide tz
        have BZ := hide bz
        clear tz x0 x1 x2 x3 p0 p1 p2 p3 fP ca cb OA HN hb0 NOB KAF KC KF cAl cAl'
        obtain ⟨x0, x1, x2, x3⟩ := bz
        have cb := cz2
        obtain ⟨p0, p1, p2, p3⟩ := TZ.out.pb.box
        have fP := TZ.out.pb.free
        unfold Free at fP
        clear cz2
        have OA := hide ((TZ.out.pb.rb.1.alloc (.cells #[.int .i64 (S t)] 3)).drew)
        have HN := hide (World.news_of_block (cs := #[.int .i64 (S t)]) (t := 3) (fr := (0, 0)) (heap_alloc_new Z _))
        have hb0 : w2.heap.size + 1 ≤ Z.heap.size := TZ.out.pb.hB
        have NOB := hide (show ∀ j, j ≤ w2.heap.size → ¬ (Value.slice b1 (dgc p q t) d1).ownBlock = some j from fun j hj e => by have := (TZ.out.pb.rb.lt e).1; omega)
        have KAF := hide (fun (w3 : World) (hg : (Z.alloc (.cells #[.int .i64 (S t)] 3)).grownBy w3 (Value.slice b1 (dgc p q t) d1).ownBlock) => show Kept (fun j => (Value.slice b1 (dgc p q t) d1).ownBlock = some j) Z w3 from kept_row hg)
        have KC := hide (fun (w3 : World) (hK : Kept (fun j => (Value.slice b1 (dgc p q t) d1).ownBlock = some j) Z w3) (j i : Nat) (hj : j ≤ w2.heap.size) => show w3.cell? ⟨j, i, none⟩ = Z.cell? ⟨j, i, none⟩ from World.cell?_of_block (w := Z) (a := ⟨j, i, none⟩) (hK.block j (by omega) (NOB.out j hj)))
        have KF := hide (fun (w3 : World) (hK : Kept (fun j => (Value.slice b1 (dgc p q t) d1).ownBlock = some j) Z w3) (i : Nat) => show w3.frozen? ⟨w2.heap.size, i, none⟩ = Z.frozen? ⟨w2.heap.size, i, none⟩ from World.frozen?_of_block (w := Z) (a := ⟨w2.heap.size, i, none⟩) (hK.block w2.heap.size (by omega) (NOB.out _ (Nat.le_refl _))))
        have cAl : ∀ (x : Obj) i, (Z.alloc x).cell? ⟨w2.heap.size, i, none⟩ = Z.cell? ⟨w2.heap.size, i, none⟩ := fun x i => World.cell?_alloc_old Z x ⟨w2.heap.size, i, none⟩ (by show w2.heap.size ≠ Z.heap.size; omega)
        have cAl' : ∀ (x : Obj) i, (Z.drew.alloc x).cell? ⟨w2.heap.size, i, none⟩ = Z.cell? ⟨w2.heap.size, i, none⟩ := fun x i => World.cell?_alloc_old Z.drew x ⟨w2.heap.size, i, none⟩ (by show w2.heap.size ≠ Z.heap.size; omega)
        go_upto_region 9 with fail
        go_region_law (first
          | (refine step_append_lies _ (by rfl) _ _ _ (by rfl) (w2.heap.size + 1) 3 i0 _ 1 8 Try.underlying22 hi0 hz0 hz1 hz2 rfl (by omega) (Value.slice b1 (dgc p q t) d1) (dgc p q t) (ints (dgc p q t) (dgf p q S t)) (by rfl) OA.out
              ⟨Z.heap.size, 0, none⟩ 1 1 [.int .i64 (S t)] (by rfl) (by rfl) HN.out (by simp [Value.oneCell'])
              (by omega) (by unfold maxLen; omega) (by omega) (by simp; omega) (Z.heap.size + 1) (by simp) ?_
             intro g' c' w3 hown3 hgrow hat hlt3
             have HGR := hide (show (Z.alloc (.cells #[.int .i64 (S t)] 3)).grownBy w3 (Value.slice b1 (dgc p q t) d1).ownBlock from ⟨hgrow.os, hgrow.tape, hgrow.output, hgrow.size, hgrow.block⟩)
             have KA := hide (KAF.out w3 HGR.out)
             have HOW := hide hown3
             have HAT := hide hat
             have r3 := fun i => KC.out w3 KA.out w2.heap.size i (Nat.le_refl _)
             have r4 := fun i => KF.out w3 KA.out i
             clear hown3 hgrow hat))
        all_goals (go_wp2_with fail)
        all_goals go_roundw
        all_goals first
          | (simp only [intOf]; omega)
          | (simp [intOf]; omega)
          | (have T5 := TZ.out.growB (v' := .slice (some ⟨g', 0, none⟩) (dgc p q t + 1) c') BS.out HOW.out HGR.out (by rcases HAT.out with e | e; exact .inl e.symm; exact .inr (by rw [e]; simp [Value.ownBlock]))
             refine ⟨t + 1, a2, some ⟨g', 0, none⟩, c2, c', by omega, by go_num, by rw [EC.out.1, EC.out.2.1, EC.out.2.2]; exact T5, ?_⟩
             exact (BZ.out.kept KA.out (by omega) (NOB.out _ (by omega))).set _ _ (by show w.heap.size ≠ w2.heap.size; omega))
    · obtain rfl : t = s := by omega
      have cp := (HCA.out p hp).1
      have cq := (HCA.out q hq).1
      have sp := (HCB.out p hp).1
      have sq := (HCB.out q hq).1
      have v7 := HV.out.2.2.2.2.2.2.1
      have l1 := v7 p hp
      have l2 := v7 q hq
      have e3 : IntKind.i64.wrap (S p + S q) = S p + S q := by rw [IntKind.wrap_i64]; omega
      have hs1 : ((dgc p q t + 1 : Nat) : Int) ≤ 1048576 := by omega
      clear v7
      rcases min_ways (D p) (D q) with ⟨c9, hm, m1 | m1⟩ | ⟨c9, hm, m1 | m1⟩
      · have E1 := hide (show diaV t D S o n (p : Int) (q : Int) = ⟨dgc p q t + 1, dgc p q t + 1, upd (dgf p q D t) (dgc p q t) (D q), upd (dgf p q S t) (dgc p q t) (0), o, n⟩ by rw [EZ.out]; unfold diaN; rw [hm]; unfold so; rw [if_pos (beq_iff_eq.1 m1)])
        have BM := hide (show bd (D q) by have := HCA.out p hp; have := HCA.out q hq; unfold bd at *; omega)
        have BSO := hide (show bd (0) by unfold bd; omega)
        clear hm
        go_upto_region 13 with fail
        go_region_held3 (fun w' => w'.cell? ⟨w.heap.size, 1, none⟩ = some (.slice (some ⟨bb, ob, none⟩) t dap) ∧ w'.cell? ⟨bb, ob + p, none⟩ = some (.int .i64 (S p)) ∧ w'.cell? ⟨bb, ob + q, none⟩ = some (.int .i64 (S q)))
          ((try dsimp only) <;> (repeat' apply And.intro) <;> (first | with_reducible assumption | assumption)) (fail)
        obtain ⟨X2, hX2⟩ : ∃ X2, X.drew = X2 := ⟨_, rfl⟩
        have TT := hide (show WS w (w2.heap.size + 1) w2.heap.size NoA (.slice a1 (dgc p q t) c1) (.slice b1 (dgc p q t) d1) (dgc p q t) (dgc p q t) (dgf p q D t) (dgf p q S t) o n X2 from hX2 ▸ HWS.out.drewN 1)
        rw [hX2]
        have OA := hide (TT.out.pb.ra.1.alloc (.cells #[.int .i64 (D q)] 3))
        have HN := hide (World.news_of_block (cs := #[.int .i64 (D q)]) (t := 3) (fr := (0, 0)) (heap_alloc_new X2 _))
        have hb0 := TT.out.pb.hB
        obtain ⟨p0, p1, p2, p3⟩ := TT.out.pb.box
        have f0 := TT.out.pb.free
        unfold Free at f0
        clear hX2 x0 x1 x2 x3 cp cq sp sq
        go_wp2_with (at_builtin; first
          | (refine wpList_append_own_at _ rfl _ _ 22 rfl (w2.heap.size + 1) 3 i0 (.int .i64 0) 1 8 Try.underlying22 hi0 hz0 hz1 hz2 rfl (by decide) _ _ _ rfl OA.out ⟨X2.heap.size, 0, none⟩ 1 1 [.int .i64 (D q)] rfl rfl HN.out (by simp [Value.oneCell']) (by unfold maxLen; omega) (by omega) (by simp; omega) ?_; intro v' w5 hown1 hgrow1 _ hat1; obtain ⟨g1, c5, rfl⟩ := own_some hown1; have T5 := hide (TT.out.growA BM.out hown1 hgrow1 hat1); have K1 := kept_row hgrow1; have np1 : ¬ (Value.slice a1 (dgc p q t) c1).ownBlock = some w2.heap.size := (fun q => TT.out.pb.np _ (.inl q) rfl); have cP := fun i => World.cell?_of_block (w := X2) (a := ⟨w2.heap.size, i, none⟩) (K1.block w2.heap.size TT.out.pb.lt np1); have fP := fun i => World.frozen?_of_block (w := X2) (a := ⟨w2.heap.size, i, none⟩) (K1.block w2.heap.size TT.out.pb.lt np1); obtain ⟨Y, hY⟩ : ∃ Y, w5.setCell ⟨w2.heap.size, 0, none⟩ (.slice (some ⟨g1, 0, none⟩) (dgc p q t + 1) c5) = Y := ⟨_, rfl⟩; rw [hY] at T5; obtain ⟨k0, k1, k2, k3⟩ := T5.out.pb.box; have f5 := T5.out.pb.free; unfold Free at f5; have OA2 := hide (T5.out.pb.rb.1.alloc (.cells #[.int .i64 (0)] 3)); have HN2 := hide (World.news_of_block (cs := #[.int .i64 (0)]) (t := 3) (fr := (0, 0)) (heap_alloc_new Y _)); have hb5 := T5.out.pb.hB; clear hown1 hgrow1 hat1 K1 np1)
          | (refine wpList_append_own_at _ rfl _ _ 22 rfl (w2.heap.size + 1) 3 i0 (.int .i64 0) 1 8 Try.underlying22 hi0 hz0 hz1 hz2 rfl (by decide) _ _ _ rfl OA2.out ⟨Y.heap.size, 0, none⟩ 1 1 [.int .i64 (0)] rfl rfl HN2.out (by simp [Value.oneCell']) (by unfold maxLen; omega) (by omega) (by simp; omega) ?_; intro v' w6 hown2 hgrow2 _ hat2; obtain ⟨g2, c6, rfl⟩ := own_some hown2; have T6 := hide (T5.out.growB BSO.out hown2 hgrow2 hat2); have K2 := kept_row hgrow2; have np2 : ¬ (Value.slice b1 (dgc p q t) d1).ownBlock = some w2.heap.size := (fun q => T5.out.pb.np _ (.inr q) rfl); have cP2 := fun i => World.cell?_of_block (w := Y) (a := ⟨w2.heap.size, i, none⟩) (K2.block w2.heap.size T5.out.pb.lt np2); have fP2 := fun i => World.frozen?_of_block (w := Y) (a := ⟨w2.heap.size, i, none⟩) (K2.block w2.heap.size T5.out.pb.lt np2); obtain ⟨Z, hZ⟩ : ∃ Z, w6.setCell ⟨w2.heap.size, 1, none⟩ (.slice (some ⟨g2, 0, none⟩) (dgc p q t + 1) c6) = Z := ⟨_, rfl⟩; rw [hZ] at T6; obtain ⟨l0, l1, l2, l3⟩ := T6.out.pb.box; clear hown2 hgrow2 hat2 K2 np2))
        refine (l3Or w.heap.size ⟨dgc p q t + 1, dgc p q t + 1, upd (dgf p q D t) (dgc p q t) (D q), upd (dgf p q S t) (dgc p q t) (0), o, n⟩ _ _ c5 c6 _ T6.out.below.size (T6.out.own.mono (by omega)) hs1 hs1).mono ?_
        rintro e w9 ⟨ua, ub, uc, ud, rfl, hvo, b9⟩
        have et2 := ET.out
        rw [E1.out] at et2
        obtain ⟨T, hT⟩ : ∃ T, PV.orZero ⟨dgc p q t + 1, dgc p q t + 1, upd (dgf p q D t) (dgc p q t) (D q), upd (dgf p q S t) (dgc p q t) (0), o, n⟩ = T := ⟨_, rfl⟩
        rw [hT] at hvo et2 ⊢
        have M5 := hide (T6.out.rbox.below b9 T6.out.sz)
        have G5 := hide (T6.out.rfree.below b9 T6.out.sz)
        have B5 := hide (T6.out.below.trans (b9.mono T6.out.below.size))
        have z5 : w.heap.size + 1 < w9.heap.size := Nat.lt_of_lt_of_le T6.out.sz b9.size
        have VO := hide hvo
        have ET2 := hide et2
        have EK := hide E1.out
        clear hvo b9 et2 T6 T5 TT E1 hT hZ hY l0 l1 l2 l3 k0 k1 k2 k3 p0 p1 p2 p3 cP cP2 fP fP2 f0 f5
        obtain ⟨y0, y1, y2, y3⟩ := M5.out
        have gg := G5.out
        unfold Free at gg
        go_wp2_with fail
        refine bodyPost_ret (v := .agg #[.slice ua T.r uc, .slice ub T.s ud, .int .i64 T.o, .int .i64 T.n]) (by simp [results, Try.results7, go_sem, y0, y1, y2, y3]) rfl ?_
        have k4 := kept_sets4 w9 (w.heap.size + 1) (.slice ua T.r uc) (.slice ub T.s ud) (.int .i64 T.o) (.int .i64 T.n)
        show ViewR w.heap.size (turnedV t t D S o n (diaV t D S o n (p : Int) (q : Int))) w _ _
        rw [EK.out, ET2.out]
        exact ⟨ua, ub, uc, ud, rfl, VO.out.kept k4 (fun k q e => by have e : k = w.heap.size + 1 := e; subst e; exact VO.out.apart y0 _ q rfl), B5.out.trans (k4.below B5.out.size (fun j e => by have e : j = w.heap.size + 1 := e; omega))⟩
      · have E1 := hide (show diaV t D S o n (p : Int) (q : Int) = ⟨dgc p q t + 1, dgc p q t + 1, upd (dgf p q D t) (dgc p q t) (D q), upd (dgf p q S t) (dgc p q t) (S p + S q), o, n⟩ by rw [EZ.out]; unfold diaN; rw [hm]; unfold so; rw [if_neg (beq_eq_false_iff_ne.1 m1)])
        have BM := hide (show bd (D q) by have := HCA.out p hp; have := HCA.out q hq; unfold bd at *; omega)
        have BSO := hide (show bd (S p + S q) by unfold bd; omega)
        clear hm
        go_upto_region 13 with fail
        go_region_held3 (fun w' => w'.cell? ⟨w.heap.size, 1, none⟩ = some (.slice (some ⟨bb, ob, none⟩) t dap) ∧ w'.cell? ⟨bb, ob + p, none⟩ = some (.int .i64 (S p)) ∧ w'.cell? ⟨bb, ob + q, none⟩ = some (.int .i64 (S q)))
          ((try dsimp only) <;> (repeat' apply And.intro) <;> (first | with_reducible assumption | assumption)) (fail)
        obtain ⟨X2, hX2⟩ : ∃ X2, X.drew = X2 := ⟨_, rfl⟩
        have TT := hide (show WS w (w2.heap.size + 1) w2.heap.size NoA (.slice a1 (dgc p q t) c1) (.slice b1 (dgc p q t) d1) (dgc p q t) (dgc p q t) (dgf p q D t) (dgf p q S t) o n X2 from hX2 ▸ HWS.out.drewN 1)
        rw [hX2]
        have OA := hide (TT.out.pb.ra.1.alloc (.cells #[.int .i64 (D q)] 3))
        have HN := hide (World.news_of_block (cs := #[.int .i64 (D q)]) (t := 3) (fr := (0, 0)) (heap_alloc_new X2 _))
        have hb0 := TT.out.pb.hB
        obtain ⟨p0, p1, p2, p3⟩ := TT.out.pb.box
        have f0 := TT.out.pb.free
        unfold Free at f0
        clear hX2 x0 x1 x2 x3 cp cq sp sq
        go_wp2_with (at_builtin; first
          | (refine wpList_append_own_at _ rfl _ _ 22 rfl (w2.heap.size + 1) 3 i0 (.int .i64 0) 1 8 Try.underlying22 hi0 hz0 hz1 hz2 rfl (by decide) _ _ _ rfl OA.out ⟨X2.heap.size, 0, none⟩ 1 1 [.int .i64 (D q)] rfl rfl HN.out (by simp [Value.oneCell']) (by unfold maxLen; omega) (by omega) (by simp; omega) ?_; intro v' w5 hown1 hgrow1 _ hat1; obtain ⟨g1, c5, rfl⟩ := own_some hown1; have T5 := hide (TT.out.growA BM.out hown1 hgrow1 hat1); have K1 := kept_row hgrow1; have np1 : ¬ (Value.slice a1 (dgc p q t) c1).ownBlock = some w2.heap.size := (fun q => TT.out.pb.np _ (.inl q) rfl); have cP := fun i => World.cell?_of_block (w := X2) (a := ⟨w2.heap.size, i, none⟩) (K1.block w2.heap.size TT.out.pb.lt np1); have fP := fun i => World.frozen?_of_block (w := X2) (a := ⟨w2.heap.size, i, none⟩) (K1.block w2.heap.size TT.out.pb.lt np1); obtain ⟨Y, hY⟩ : ∃ Y, w5.setCell ⟨w2.heap.size, 0, none⟩ (.slice (some ⟨g1, 0, none⟩) (dgc p q t + 1) c5) = Y := ⟨_, rfl⟩; rw [hY] at T5; obtain ⟨k0, k1, k2, k3⟩ := T5.out.pb.box; have f5 := T5.out.pb.free; unfold Free at f5; have OA2 := hide (T5.out.pb.rb.1.alloc (.cells #[.int .i64 (S p + S q)] 3)); have HN2 := hide (World.news_of_block (cs := #[.int .i64 (S p + S q)]) (t := 3) (fr := (0, 0)) (heap_alloc_new Y _)); have hb5 := T5.out.pb.hB; clear hown1 hgrow1 hat1 K1 np1)
          | (refine wpList_append_own_at _ rfl _ _ 22 rfl (w2.heap.size + 1) 3 i0 (.int .i64 0) 1 8 Try.underlying22 hi0 hz0 hz1 hz2 rfl (by decide) _ _ _ rfl OA2.out ⟨Y.heap.size, 0, none⟩ 1 1 [.int .i64 (S p + S q)] rfl rfl HN2.out (by simp [Value.oneCell']) (by unfold maxLen; omega) (by omega) (by simp; omega) ?_; intro v' w6 hown2 hgrow2 _ hat2; obtain ⟨g2, c6, rfl⟩ := own_some hown2; have T6 := hide (T5.out.growB BSO.out hown2 hgrow2 hat2); have K2 := kept_row hgrow2; have np2 : ¬ (Value.slice b1 (dgc p q t) d1).ownBlock = some w2.heap.size := (fun q => T5.out.pb.np _ (.inr q) rfl); have cP2 := fun i => World.cell?_of_block (w := Y) (a := ⟨w2.heap.size, i, none⟩) (K2.block w2.heap.size T5.out.pb.lt np2); have fP2 := fun i => World.frozen?_of_block (w := Y) (a := ⟨w2.heap.size, i, none⟩) (K2.block w2.heap.size T5.out.pb.lt np2); obtain ⟨Z, hZ⟩ : ∃ Z, w6.setCell ⟨w2.heap.size, 1, none⟩ (.slice (some ⟨g2, 0, none⟩) (dgc p q t + 1) c6) = Z := ⟨_, rfl⟩; rw [hZ] at T6; obtain ⟨l0, l1, l2, l3⟩ := T6.out.pb.box; clear hown2 hgrow2 hat2 K2 np2))
        refine (l3Or w.heap.size ⟨dgc p q t + 1, dgc p q t + 1, upd (dgf p q D t) (dgc p q t) (D q), upd (dgf p q S t) (dgc p q t) (S p + S q), o, n⟩ _ _ c5 c6 _ T6.out.below.size (T6.out.own.mono (by omega)) hs1 hs1).mono ?_
        rintro e w9 ⟨ua, ub, uc, ud, rfl, hvo, b9⟩
        have et2 := ET.out
        rw [E1.out] at et2
        obtain ⟨T, hT⟩ : ∃ T, PV.orZero ⟨dgc p q t + 1, dgc p q t + 1, upd (dgf p q D t) (dgc p q t) (D q), upd (dgf p q S t) (dgc p q t) (S p + S q), o, n⟩ = T := ⟨_, rfl⟩
        rw [hT] at hvo et2 ⊢
        have M5 := hide (T6.out.rbox.below b9 T6.out.sz)
        have G5 := hide (T6.out.rfree.below b9 T6.out.sz)
        have B5 := hide (T6.out.below.trans (b9.mono T6.out.below.size))
        have z5 : w.heap.size + 1 < w9.heap.size := Nat.lt_of_lt_of_le T6.out.sz b9.size
        have VO := hide hvo
        have ET2 := hide et2
        have EK := hide E1.out
        clear hvo b9 et2 T6 T5 TT E1 hT hZ hY l0 l1 l2 l3 k0 k1 k2 k3 p0 p1 p2 p3 cP cP2 fP fP2 f0 f5
        obtain ⟨y0, y1, y2, y3⟩ := M5.out
        have gg := G5.out
        unfold Free at gg
        go_wp2_with fail
        refine bodyPost_ret (v := .agg #[.slice ua T.r uc, .slice ub T.s ud, .int .i64 T.o, .int .i64 T.n]) (by simp [results, Try.results7, go_sem, y0, y1, y2, y3]) rfl ?_
        have k4 := kept_sets4 w9 (w.heap.size + 1) (.slice ua T.r uc) (.slice ub T.s ud) (.int .i64 T.o) (.int .i64 T.n)
        show ViewR w.heap.size (turnedV t t D S o n (diaV t D S o n (p : Int) (q : Int))) w _ _
        rw [EK.out, ET2.out]
        exact ⟨ua, ub, uc, ud, rfl, VO.out.kept k4 (fun k q e => by have e : k = w.heap.size + 1 := e; subst e; exact VO.out.apart y0 _ q rfl), B5.out.trans (k4.below B5.out.size (fun j e => by have e : j = w.heap.size + 1 := e; omega))⟩
      · have E1 := hide (show diaV t D S o n (p : Int) (q : Int) = ⟨dgc p q t + 1, dgc p q t + 1, upd (dgf p q D t) (dgc p q t) (D p), upd (dgf p q S t) (dgc p q t) (0), o, n⟩ by rw [EZ.out]; unfold diaN; rw [hm]; unfold so; rw [if_pos (beq_iff_eq.1 m1)])
        have BM := hide (show bd (D p) by have := HCA.out p hp; have := HCA.out q hq; unfold bd at *; omega)
        have BSO := hide (show bd (0) by unfold bd; omega)
        clear hm
        go_upto_region 13 with fail
        go_region_held3 (fun w' => w'.cell? ⟨w.heap.size, 1, none⟩ = some (.slice (some ⟨bb, ob, none⟩) t dap) ∧ w'.cell? ⟨bb, ob + p, none⟩ = some (.int .i64 (S p)) ∧ w'.cell? ⟨bb, ob + q, none⟩ = some (.int .i64 (S q)))
          ((try dsimp only) <;> (repeat' apply And.intro) <;> (first | with_reducible assumption | assumption)) (fail)
        obtain ⟨X2, hX2⟩ : ∃ X2, X.drew = X2 := ⟨_, rfl⟩
        have TT := hide (show WS w (w2.heap.size + 1) w2.heap.size NoA (.slice a1 (dgc p q t) c1) (.slice b1 (dgc p q t) d1) (dgc p q t) (dgc p q t) (dgf p q D t) (dgf p q S t) o n X2 from hX2 ▸ HWS.out.drewN 1)
        rw [hX2]
        have OA := hide (TT.out.pb.ra.1.alloc (.cells #[.int .i64 (D p)] 3))
        have HN := hide (World.news_of_block (cs := #[.int .i64 (D p)]) (t := 3) (fr := (0, 0)) (heap_alloc_new X2 _))
        have hb0 := TT.out.pb.hB
        obtain ⟨p0, p1, p2, p3⟩ := TT.out.pb.box
        have f0 := TT.out.pb.free
        unfold Free at f0
        clear hX2 x0 x1 x2 x3 cp cq sp sq
        go_wp2_with (at_builtin; first
          | (refine wpList_append_own_at _ rfl _ _ 22 rfl (w2.heap.size + 1) 3 i0 (.int .i64 0) 1 8 Try.underlying22 hi0 hz0 hz1 hz2 rfl (by decide) _ _ _ rfl OA.out ⟨X2.heap.size, 0, none⟩ 1 1 [.int .i64 (D p)] rfl rfl HN.out (by simp [Value.oneCell']) (by unfold maxLen; omega) (by omega) (by simp; omega) ?_; intro v' w5 hown1 hgrow1 _ hat1; obtain ⟨g1, c5, rfl⟩ := own_some hown1; have T5 := hide (TT.out.growA BM.out hown1 hgrow1 hat1); have K1 := kept_row hgrow1; have np1 : ¬ (Value.slice a1 (dgc p q t) c1).ownBlock = some w2.heap.size := (fun q => TT.out.pb.np _ (.inl q) rfl); have cP := fun i => World.cell?_of_block (w := X2) (a := ⟨w2.heap.size, i, none⟩) (K1.block w2.heap.size TT.out.pb.lt np1); have fP := fun i => World.frozen?_of_block (w := X2) (a := ⟨w2.heap.size, i, none⟩) (K1.block w2.heap.size TT.out.pb.lt np1); obtain ⟨Y, hY⟩ : ∃ Y, w5.setCell ⟨w2.heap.size, 0, none⟩ (.slice (some ⟨g1, 0, none⟩) (dgc p q t + 1) c5) = Y := ⟨_, rfl⟩; rw [hY] at T5; obtain ⟨k0, k1, k2, k3⟩ := T5.out.pb.box; have f5 := T5.out.pb.free; unfold Free at f5; have OA2 := hide (T5.out.pb.rb.1.alloc (.cells #[.int .i64 (0)] 3)); have HN2 := hide (World.news_of_block (cs := #[.int .i64 (0)]) (t := 3) (fr := (0, 0)) (heap_alloc_new Y _)); have hb5 := T5.out.pb.hB; clear hown1 hgrow1 hat1 K1 np1)
          | (refine wpList_append_own_at _ rfl _ _ 22 rfl (w2.heap.size + 1) 3 i0 (.int .i64 0) 1 8 Try.underlying22 hi0 hz0 hz1 hz2 rfl (by decide) _ _ _ rfl OA2.out ⟨Y.heap.size, 0, none⟩ 1 1 [.int .i64 (0)] rfl rfl HN2.out (by simp [Value.oneCell']) (by unfold maxLen; omega) (by omega) (by simp; omega) ?_; intro v' w6 hown2 hgrow2 _ hat2; obtain ⟨g2, c6, rfl⟩ := own_some hown2; have T6 := hide (T5.out.growB BSO.out hown2 hgrow2 hat2); have K2 := kept_row hgrow2; have np2 : ¬ (Value.slice b1 (dgc p q t) d1).ownBlock = some w2.heap.size := (fun q => T5.out.pb.np _ (.inr q) rfl); have cP2 := fun i => World.cell?_of_block (w := Y) (a := ⟨w2.heap.size, i, none⟩) (K2.block w2.heap.size T5.out.pb.lt np2); have fP2 := fun i => World.frozen?_of_block (w := Y) (a := ⟨w2.heap.size, i, none⟩) (K2.block w2.heap.size T5.out.pb.lt np2); obtain ⟨Z, hZ⟩ : ∃ Z, w6.setCell ⟨w2.heap.size, 1, none⟩ (.slice (some ⟨g2, 0, none⟩) (dgc p q t + 1) c6) = Z := ⟨_, rfl⟩; rw [hZ] at T6; obtain ⟨l0, l1, l2, l3⟩ := T6.out.pb.box; clear hown2 hgrow2 hat2 K2 np2))
        refine (l3Or w.heap.size ⟨dgc p q t + 1, dgc p q t + 1, upd (dgf p q D t) (dgc p q t) (D p), upd (dgf p q S t) (dgc p q t) (0), o, n⟩ _ _ c5 c6 _ T6.out.below.size (T6.out.own.mono (by omega)) hs1 hs1).mono ?_
        rintro e w9 ⟨ua, ub, uc, ud, rfl, hvo, b9⟩
        have et2 := ET.out
        rw [E1.out] at et2
        obtain ⟨T, hT⟩ : ∃ T, PV.orZero ⟨dgc p q t + 1, dgc p q t + 1, upd (dgf p q D t) (dgc p q t) (D p), upd (dgf p q S t) (dgc p q t) (0), o, n⟩ = T := ⟨_, rfl⟩
        rw [hT] at hvo et2 ⊢
        have M5 := hide (T6.out.rbox.below b9 T6.out.sz)
        have G5 := hide (T6.out.rfree.below b9 T6.out.sz)
        have B5 := hide (T6.out.below.trans (b9.mono T6.out.below.size))
        have z5 : w.heap.size + 1 < w9.heap.size := Nat.lt_of_lt_of_le T6.out.sz b9.size
        have VO := hide hvo
        have ET2 := hide et2
        have EK := hide E1.out
        clear hvo b9 et2 T6 T5 TT E1 hT hZ hY l0 l1 l2 l3 k0 k1 k2 k3 p0 p1 p2 p3 cP cP2 fP fP2 f0 f5
        obtain ⟨y0, y1, y2, y3⟩ := M5.out
        have gg := G5.out
        unfold Free at gg
        go_wp2_with fail
        refine bodyPost_ret (v := .agg #[.slice ua T.r uc, .slice ub T.s ud, .int .i64 T.o, .int .i64 T.n]) (by simp [results, Try.results7, go_sem, y0, y1, y2, y3]) rfl ?_
        have k4 := kept_sets4 w9 (w.heap.size + 1) (.slice ua T.r uc) (.slice ub T.s ud) (.int .i64 T.o) (.int .i64 T.n)
        show ViewR w.heap.size (turnedV t t D S o n (diaV t D S o n (p : Int) (q : Int))) w _ _
        rw [EK.out, ET2.out]
        exact ⟨ua, ub, uc, ud, rfl, VO.out.kept k4 (fun k q e => by have e : k = w.heap.size + 1 := e; subst e; exact VO.out.apart y0 _ q rfl), B5.out.trans (k4.below B5.out.size (fun j e => by have e : j = w.heap.size + 1 := e; omega))⟩
      · have E1 := hide (show diaV t D S o n (p : Int) (q : Int) = ⟨dgc p q t + 1, dgc p q t + 1, upd (dgf p q D t) (dgc p q t) (D p), upd (dgf p q S t) (dgc p q t) (S p + S q), o, n⟩ by rw [EZ.out]; unfold diaN; rw [hm]; unfold so; rw [if_neg (beq_eq_false_iff_ne.1 m1)])
        have BM := hide (show bd (D p) by have := HCA.out p hp; have := HCA.out q hq; unfold bd at *; omega)
        have BSO := hide (show bd (S p + S q) by unfold bd; omega)
        clear hm
        go_upto_region 13 with fail
        go_region_held3 (fun w' => w'.cell? ⟨w.heap.size, 1, none⟩ = some (.slice (some ⟨bb, ob, none⟩) t dap) ∧ w'.cell? ⟨bb, ob + p, none⟩ = some (.int .i64 (S p)) ∧ w'.cell? ⟨bb, ob + q, none⟩ = some (.int .i64 (S q)))
          ((try dsimp only) <;> (repeat' apply And.intro) <;> (first | with_reducible assumption | assumption)) (fail)
        obtain ⟨X2, hX2⟩ : ∃ X2, X.drew = X2 := ⟨_, rfl⟩
        have TT := hide (show WS w (w2.heap.size + 1) w2.heap.size NoA (.slice a1 (dgc p q t) c1) (.slice b1 (dgc p q t) d1) (dgc p q t) (dgc p q t) (dgf p q D t) (dgf p q S t) o n X2 from hX2 ▸ HWS.out.drewN 1)
        rw [hX2]
        have OA := hide (TT.out.pb.ra.1.alloc (.cells #[.int .i64 (D p)] 3))
        have HN := hide (World.news_of_block (cs := #[.int .i64 (D p)]) (t := 3) (fr := (0, 0)) (heap_alloc_new X2 _))
        have hb0 := TT.out.pb.hB
        obtain ⟨p0, p1, p2, p3⟩ := TT.out.pb.box
        have f0 := TT.out.pb.free
        unfold Free at f0
        clear hX2 x0 x1 x2 x3 cp cq sp sq
        go_wp2_with (at_builtin; first
          | (refine wpList_append_own_at _ rfl _ _ 22 rfl (w2.heap.size + 1) 3 i0 (.int .i64 0) 1 8 Try.underlying22 hi0 hz0 hz1 hz2 rfl (by decide) _ _ _ rfl OA.out ⟨X2.heap.size, 0, none⟩ 1 1 [.int .i64 (D p)] rfl rfl HN.out (by simp [Value.oneCell']) (by unfold maxLen; omega) (by omega) (by simp; omega) ?_; intro v' w5 hown1 hgrow1 _ hat1; obtain ⟨g1, c5, rfl⟩ := own_some hown1; have T5 := hide (TT.out.growA BM.out hown1 hgrow1 hat1); have K1 := kept_row hgrow1; have np1 : ¬ (Value.slice a1 (dgc p q t) c1).ownBlock = some w2.heap.size := (fun q => TT.out.pb.np _ (.inl q) rfl); have cP := fun i => World.cell?_of_block (w := X2) (a := ⟨w2.heap.size, i, none⟩) (K1.block w2.heap.size TT.out.pb.lt np1); have fP := fun i => World.frozen?_of_block (w := X2) (a := ⟨w2.heap.size, i, none⟩) (K1.block w2.heap.size TT.out.pb.lt np1); obtain ⟨Y, hY⟩ : ∃ Y, w5.setCell ⟨w2.heap.size, 0, none⟩ (.slice (some ⟨g1, 0, none⟩) (dgc p q t + 1) c5) = Y := ⟨_, rfl⟩; rw [hY] at T5; obtain ⟨k0, k1, k2, k3⟩ := T5.out.pb.box; have f5 := T5.out.pb.free; unfold Free at f5; have OA2 := hide (T5.out.pb.rb.1.alloc (.cells #[.int .i64 (S p + S q)] 3)); have HN2 := hide (World.news_of_block (cs := #[.int .i64 (S p + S q)]) (t := 3) (fr := (0, 0)) (heap_alloc_new Y _)); have hb5 := T5.out.pb.hB; clear hown1 hgrow1 hat1 K1 np1)
          | (refine wpList_append_own_at _ rfl _ _ 22 rfl (w2.heap.size + 1) 3 i0 (.int .i64 0) 1 8 Try.underlying22 hi0 hz0 hz1 hz2 rfl (by decide) _ _ _ rfl OA2.out ⟨Y.heap.size, 0, none⟩ 1 1 [.int .i64 (S p + S q)] rfl rfl HN2.out (by simp [Value.oneCell']) (by unfold maxLen; omega) (by omega) (by simp; omega) ?_; intro v' w6 hown2 hgrow2 _ hat2; obtain ⟨g2, c6, rfl⟩ := own_some hown2; have T6 := hide (T5.out.growB BSO.out hown2 hgrow2 hat2); have K2 := kept_row hgrow2; have np2 : ¬ (Value.slice b1 (dgc p q t) d1).ownBlock = some w2.heap.size := (fun q => T5.out.pb.np _ (.inr q) rfl); have cP2 := fun i => World.cell?_of_block (w := Y) (a := ⟨w2.heap.size, i, none⟩) (K2.block w2.heap.size T5.out.pb.lt np2); have fP2 := fun i => World.frozen?_of_block (w := Y) (a := ⟨w2.heap.size, i, none⟩) (K2.block w2.heap.size T5.out.pb.lt np2); obtain ⟨Z, hZ⟩ : ∃ Z, w6.setCell ⟨w2.heap.size, 1, none⟩ (.slice (some ⟨g2, 0, none⟩) (dgc p q t + 1) c6) = Z := ⟨_, rfl⟩; rw [hZ] at T6; obtain ⟨l0, l1, l2, l3⟩ := T6.out.pb.box; clear hown2 hgrow2 hat2 K2 np2))
        refine (l3Or w.heap.size ⟨dgc p q t + 1, dgc p q t + 1, upd (dgf p q D t) (dgc p q t) (D p), upd (dgf p q S t) (dgc p q t) (S p + S q), o, n⟩ _ _ c5 c6 _ T6.out.below.size (T6.out.own.mono (by omega)) hs1 hs1).mono ?_
        rintro e w9 ⟨ua, ub, uc, ud, rfl, hvo, b9⟩
        have et2 := ET.out
        rw [E1.out] at et2
        obtain ⟨T, hT⟩ : ∃ T, PV.orZero ⟨dgc p q t + 1, dgc p q t + 1, upd (dgf p q D t) (dgc p q t) (D p), upd (dgf p q S t) (dgc p q t) (S p + S q), o, n⟩ = T := ⟨_, rfl⟩
        rw [hT] at hvo et2 ⊢
        have M5 := hide (T6.out.rbox.below b9 T6.out.sz)
        have G5 := hide (T6.out.rfree.below b9 T6.out.sz)
        have B5 := hide (T6.out.below.trans (b9.mono T6.out.below.size))
        have z5 : w.heap.size + 1 < w9.heap.size := Nat.lt_of_lt_of_le T6.out.sz b9.size
        have VO := hide hvo
        have ET2 := hide et2
        have EK := hide E1.out
        clear hvo b9 et2 T6 T5 TT E1 hT hZ hY l0 l1 l2 l3 k0 k1 k2 k3 p0 p1 p2 p3 cP cP2 fP fP2 f0 f5
        obtain ⟨y0, y1, y2, y3⟩ := M5.out
        have gg := G5.out
        unfold Free at gg
        go_wp2_with fail
        refine bodyPost_ret (v := .agg #[.slice ua T.r uc, .slice ub T.s ud, .int .i64 T.o, .int .i64 T.n]) (by simp [results, Try.results7, go_sem, y0, y1, y2, y3]) rfl ?_
        have k4 := kept_sets4 w9 (w.heap.size + 1) (.slice ua T.r uc) (.slice ub T.s ud) (.int .i64 T.o) (.int .i64 T.n)
        show ViewR w.heap.size (turnedV t t D S o n (diaV t D S o n (p : Int) (q : Int))) w _ _
        rw [EK.out, ET2.out]
        exact ⟨ua, ub, uc, ud, rfl, VO.out.kept k4 (fun k q e => by have e : k = w.heap.size + 1 := e; subst e; exact VO.out.apart y0 _ q rfl), B5.out.trans (k4.below B5.out.size (fun j e => by have e : j = w.heap.size + 1 := e; omega))⟩
end Vo
end Go.Proofs.Ytldcacdopijfdab
