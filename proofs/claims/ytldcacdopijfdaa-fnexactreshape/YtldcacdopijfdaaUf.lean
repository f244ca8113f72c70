/- Permute of the model. -/
import Derived.Test.YtldcacdopijfdaaUe
namespace Go.Proofs.Ytldcacdopijfdaa
namespace Vo
open Go.ChangeShapes Go.WideShapes Go.ChangeAt Go.RowKit Go.Joins
open Vl Vp Vr
set_option linter.unusedVariables false
set_option linter.unusedSimpArgs false

theorem WS.viewR {W : World} {C' P : Nat} {a b : Option Addr} {r s c d : Nat} {D S : Nat → Int} {o n : Int} {X : World} (h : WS W C' P NoA (.slice a r c) (.slice b s d) r s D S o n X) (hC : W.heap.size ≤ C') :
    ViewR W.heap.size ⟨r, s, D, S, o, n⟩ W (.returned (.agg #[.slice a r c, .slice b s d, .int .i64 o, .int .i64 n])) ((((X.setCell ⟨W.heap.size + 1, 0, none⟩ (.slice a r c)).setCell ⟨W.heap.size + 1, 1, none⟩ (.slice b s d)).setCell ⟨W.heap.size + 1, 2, none⟩ (.int .i64 o)).setCell ⟨W.heap.size + 1, 3, none⟩ (.int .i64 n)) := by
  obtain ⟨a', b', c', d', e, v, k⟩ := h.turnR (C := W.heap.size) (va0 := .slice none 0 0) (vb0 := .slice none 0 0) hC
  exact ⟨a', b', c', d', e, v, k.below (Nat.le_refl _) (fun j q => by rcases q with q | q <;> simp [Value.ownBlock] at q)⟩
set_option maxRecDepth 100000 in
set_option maxHeartbeats 4000000 in
theorem specPermute (B : Nat) (a b : Option Addr) (c : Addr) (r s q cap dap cap' : Nat) (D S A : Nat → Int) (o n : Int) (w : World) (hB : B ≤ w.heap.size) (h : Ints B w a r D) (h' : Ints B w b s S) (hI : Ints B w (some c) q A) (hr : (r : Int) ≤ 1048576) (hs : (s : Int) ≤ 1048576) (hq : (q : Int) ≤ 1048576) :
    Calls Try.prog 21 #[.agg #[.slice a r cap, .slice b s dap, .int .i64 o, .int .i64 n], .slice (some c) q cap'] w fun e w' => ViewR w.heap.size (turnedV r s D S o n (perV r q D S A o n)) w e w' := by
  obtain ⟨W0, hW0⟩ : ∃ W0, (w.alloc (.cells #[.slice a r cap, .slice b s dap, .int .i64 o, .int .i64 n] 24)).alloc (.cells #[.slice none 0 0, .slice none 0 0, .int .i64 0, .int .i64 0] 24) = W0 := ⟨_, rfl⟩
  have hs0 : W0.heap.size = w.heap.size + 1 + 1 := by rw [← hW0]; simp
  have bl : Below w.heap.size w W0 := by rw [← hW0]; exact ((Below.refl _ _).alloc (Nat.le_refl _) _).alloc (by simp) _
  have n0 : Box W0 w.heap.size (.slice a r cap) (.slice b s dap) (.int .i64 o) (.int .i64 n) := by
    rw [← hW0]; exact (box_new w (.slice a r cap) (.slice b s dap) (.int .i64 o) (.int .i64 n) 24).below ((Below.refl (w.heap.size + 1) _).alloc (by simp) _) (by omega)
  have m0 : Box W0 (w.heap.size + 1) (.slice none 0 0) (.slice none 0 0) (.int .i64 0) (.int .i64 0) := by
    have q := box_new (w.alloc (.cells #[.slice a r cap, .slice b s dap, .int .i64 o, .int .i64 n] 24)) (.slice none 0 0) (.slice none 0 0) (.int .i64 0) (.int .i64 0) 24
    rw [World.size_alloc] at q
    rw [← hW0]; exact q
  have g0 : Free W0 (w.heap.size + 1) := by
    have q := free_new (w.alloc (.cells #[.slice a r cap, .slice b s dap, .int .i64 o, .int .i64 n] 24)) #[.slice none 0 0, .slice none 0 0, .int .i64 0, .int .i64 0] 24
    rw [World.size_alloc] at q
    rw [← hW0]; exact q
  have H := hide (h.below (bl.mono hB))
  have H' := hide (h'.below (bl.mono hB))
  have HI := hide (hI.below (bl.mono hB))
  have BL := hide bl
  have N0 := hide n0
  have M0 := hide m0
  have G0 := hide g0
  have HS0 := hide hs0
  obtain ⟨x0, x1, x2, x3⟩ := n0
  have HW0 := hide (show Ints B w a r D ∧ Ints B w b s S ∧ Ints B w (some c) q A from ⟨h, h', hI⟩)
  clear h h' hI bl m0 g0 hs0
  go_enter Try.func21, Try.ntmps21
  go_wp2_with fail
  clear hW0
  refine (specViewOk B a b r s cap dap D S o n W0 (by have := HS0.out; omega) H.out H'.out hr hs).mono ?_
  rintro e w1 ⟨rfl, b1⟩
  have zz := HS0.out
  have z1 : w.heap.size + 1 < w1.heap.size := by have := b1.size; omega
  have N1 := hide (N0.out.below b1 (by omega))
  have M1 := hide (M0.out.below b1 (by omega))
  have G1 := hide (G0.out.below b1 (by omega))
  have H1 := hide (H.out.below (b1.mono (by omega)))
  have H1' := hide (H'.out.below (b1.mono (by omega)))
  have HI1 := hide (HI.out.below (b1.mono (by omega)))
  have B1 := hide (BL.out.trans (b1.mono BL.out.size))
  clear b1 zz x0 x1 x2 x3
  obtain ⟨y0, y1, y2, y3⟩ := M1.out
  have gg := G1.out
  unfold Free at gg
  cases hv : vok r s D S o n with
  | false =>
    have ez := hide (show turnedV r s D S o n (perV r q D S A o n) = PV.zero by unfold turnedV; rw [hv]; rfl)
    clear hv
    go_wp2_with fail
    refine bodyPost_ret (v := .agg #[.slice none 0 0, .slice none 0 0, .int .i64 0, .int .i64 0]) (by simp [results, Try.results21, go_sem, y0, y1, y2, y3]) rfl (by
      rw [ez.out]
      refine viewR_zero ?_
      repeat (refine Below.setCell ?_ (by simp) _)
      exact B1.out)
  | true =>
  have HV := hide (vok_iff.1 hv)
  have ET := hide (show turnedV r s D S o n (perV r q D S A o n) = perV r q D S A o n by rw [per_turned, if_pos hv])
  clear hv
  obtain ⟨x0, x1, x2, x3⟩ := N1.out
  by_cases hqs : q = r
  rotate_left
  · have ez := hide (ET.out.trans (perV_no (fun h => hqs h.1)))
    have e1 : ((q : Int) != (r : Int)) = true := by rw [bne_iff_ne]; omega
    clear hqs
    go_wp2_with fail
    refine bodyPost_ret (v := .agg #[.slice none 0 0, .slice none 0 0, .int .i64 0, .int .i64 0]) (by simp [results, Try.results21, go_sem, y0, y1, y2, y3]) rfl (by
      rw [ez.out]
      refine viewR_zero ?_
      repeat (refine Below.setCell ?_ (by simp) _)
      exact B1.out)
  obtain rfl := HV.out.2.1
  obtain rfl : s = q := hqs.symm
  have e1 : ((s : Int) != (s : Int)) = false := by simp
  have r6 : s ≤ 6 := (dok_iff.1 HV.out.1).1
  obtain ⟨W1, hW1⟩ : ∃ W1, w1.alloc (.cells #[.slice none 0 0, .slice none 0 0, .int .i64 o, .int .i64 n] 24) = W1 := ⟨_, rfl⟩
  have T0 := hide (show WS w (w1.heap.size + 1) w1.heap.size NoA (.slice none 0 0) (.slice none 0 0) 0 0 (perf D A 0) (perf S A 0) o n W1 from by rw [← hW1]; exact ws_new _ _ _ B1.out M1.out G1.out (by omega))
  have N2 := hide (N1.out.below (show Below w1.heap.size w1 W1 by rw [← hW1]; exact (Below.refl _ _).alloc (Nat.le_refl _) _) (by omega))
  have HW := HW0
  clear hqs y0 y1 y2 y3 gg
  go_wp2_with fail
  clear hW1 x0 x1 x2 x3 e1
  obtain ⟨i0, hi0, hz0, hz1, hz2⟩ := info_parts infoInt
  go_loopw [6] (fun i wx => ∃ (t : Nat) (a1 b1 : Option Addr) (c1 d1 : Nat), t ≤ s ∧ i = .int .i64 t ∧ PerOk s A t ∧ WS w (w1.heap.size + 1) w1.heap.size NoA (.slice a1 t c1) (.slice b1 t d1) t t (perf D A t) (perf S A t) o n wx ∧ Box wx w.heap.size (.slice a s cap) (.slice b s dap) (.int .i64 o) (.int .i64 n)) (fun i _ => s - (intOf i).toNat)
  case atStart => exact ⟨0, none, none, 0, 0, Nat.zero_le _, rfl, fun i hi => by omega, T0.out, N2.out⟩
  case round =>
    obtain ⟨X, rfl⟩ : ∃ X, X = wr := ⟨_, rfl⟩
    obtain ⟨t, a1, b1, c1, d1, ht, rfl, hper, hws, hbx⟩ := hrel
    have HPER := hide hper
    have HWS := hide hws
    have HBX := hide hbx
    have zX := hws.sz
    have HIX := hide (HW.out.2.2.below (hws.below.mono hB))
    have OAX := hide (HW.out.1.below (hws.below.mono hB))
    have OBX := hide (HW.out.2.1.below (hws.below.mono hB))
    have lP := hws.pb.lt
    clear hper hws
    obtain ⟨x0, x1, x2, x3⟩ := hbx
    by_cases hlt : t < s
    · have tI : (t : Int) < s := by omega
      rcases HIX.out with h0 | ⟨bi, oi, hce, hbi, hci⟩
      · omega
      injection hce with hce
      subst hce
      have ci := (hci t hlt).1
      have HCI := hide hci
      clear hci
      by_cases hx : 0 ≤ A t ∧ A t < s
      rotate_left
      · have ez := hide (ET.out.trans (perV_no (fun h => hx (h.2 t hlt).1)))
        obtain ⟨y0, y1, y2, y3⟩ := HWS.out.rbox
        have gg := HWS.out.rfree
        unfold Free at gg
        have B1 := hide HWS.out.below
        by_cases hx0 : A t < 0
        · have d0 : decide (A t < 0) = true := decide_eq_true hx0
          clear hx hx0
          go_wp2_with fail
          refine bodyPost_ret (v := .agg #[.slice none 0 0, .slice none 0 0, .int .i64 0, .int .i64 0]) (by simp [results, Try.results21, go_sem, y0, y1, y2, y3]) rfl (by
            rw [ez.out]
            refine viewR_zero ?_
            repeat (refine Below.setCell ?_ (by simp) _)
            exact B1.out)
        · have d0 : decide (A t < 0) = false := decide_eq_false hx0
          have d1' : decide ((s : Int) ≤ A t) = true := decide_eq_true (by omega)
          clear hx hx0
          go_wp2_with fail
          refine bodyPost_ret (v := .agg #[.slice none 0 0, .slice none 0 0, .int .i64 0, .int .i64 0]) (by simp [results, Try.results21, go_sem, y0, y1, y2, y3]) rfl (by
            rw [ez.out]
            refine viewR_zero ?_
            repeat (refine Below.setCell ?_ (by simp) _)
            exact B1.out)
      obtain ⟨k, hk⟩ : ∃ k : Nat, A t = k := ⟨(A t).toNat, by omega⟩
      have kI : (k : Int) < s := by omega
      have ks : k < s := by omega
      have HK := hide hk
      rw [hk] at ci
      have d0 : decide ((k : Int) < 0) = false := decide_eq_false (by omega)
      have d1' : decide ((s : Int) ≤ (k : Int)) = false := decide_eq_false (by omega)
      clear hx hk
      go_wp2_with fail
      clear d0 d1'
      go_loopw [7] (fun i wx => ∃ u : Nat, u ≤ t ∧ i = .int .i64 u ∧ (∀ j, j < u → A j ≠ A t) ∧ Below X.heap.size X wx) (fun i _ => t - (intOf i).toNat)
      case atStart => exact ⟨0, Nat.zero_le _, rfl, fun j hj => by omega, Below.refl _ _⟩
      case round =>
        obtain ⟨Y, rfl⟩ : ∃ Y, Y = wr := ⟨_, rfl⟩
        obtain ⟨u, hu, rfl, hall, hby⟩ := hrel
        have HALL := hide hall
        have HBY := hide hby
        have sY : X.heap.size ≤ Y.heap.size := hby.size
        have cY := (hby.cell (p := ⟨bi, oi + t, none⟩) (by show bi < X.heap.size; omega)).trans ci
        have TY := hide (HWS.out.later hby)
        have HBXY := hide (HBX.out.below hby (by omega))
        clear hall hby
        by_cases hut : u < t
        · have uI : (u : Int) < t := by omega
          have uI2 : (u : Int) < s := by omega
          have cu := (HBY.out.cell (p := ⟨bi, oi + u, none⟩) (by show bi < X.heap.size; omega)).trans (HCI.out u (by omega)).1
          by_cases d : A u = k
          · have d' : (A u == (k : Int)) = true := beq_iff_eq.2 d
            have ez := hide (ET.out.trans (perV_no (fun h => (h.2 t hlt).2 u hut (by rw [d, HK.out]))))
            obtain ⟨y0, y1, y2, y3⟩ := TY.out.rbox
            have gg := TY.out.rfree
            unfold Free at gg
            have B1 := hide TY.out.below
            clear d
            go_wp2_with fail
            go_region_held3 (fun w' => w'.cell? ⟨bi, oi + t, none⟩ = some (.int .i64 k) ∧ w'.cell? ⟨bi, oi + u, none⟩ = some (.int .i64 (A u)))
              ((try dsimp only) <;> (repeat' apply And.intro) <;> (first | with_reducible assumption | assumption)) (fail)
            go_wp2_with fail
            refine bodyPost_ret (v := .agg #[.slice none 0 0, .slice none 0 0, .int .i64 0, .int .i64 0]) (by simp [results, Try.results21, go_sem, y0, y1, y2, y3]) rfl (by
              rw [ez.out]
              refine viewR_zero (Below.drew ?_)
              repeat (refine Below.setCell ?_ (by simp) _)
              exact B1.out)
          · have d' : (A u == (k : Int)) = false := beq_eq_false_iff_ne.2 d
            have DN := hide (show A u ≠ A t by rw [HK.out]; exact d)
            clear d
            go_wp2_with fail
            go_region_held3 (fun w' => w'.cell? ⟨bi, oi + t, none⟩ = some (.int .i64 k) ∧ w'.cell? ⟨bi, oi + u, none⟩ = some (.int .i64 (A u)))
              ((try dsimp only) <;> (repeat' apply And.intro) <;> (first | with_reducible assumption | assumption)) (fail)
            all_goals (go_wp2_with fail)
            all_goals go_roundw
            all_goals first
              | (simp only [intOf]; omega)
              | (simp [intOf]; omega)
              | exact ⟨u + 1, by omega, by go_num, fun j hj => by
                  by_cases c : j = u
                  · subst c; exact DN.out
                  · exact HALL.out j (by omega), HBY.out.drew⟩
        · obtain rfl : u = t := by omega
          have NEW := hide (show PerOk s A (u + 1) from HPER.out.next (by rw [HK.out]; omega) (fun j hj => HALL.out j hj))
          rcases OAX.out.below (HBY.out.mono (by omega)) with h0 | ⟨ba, oa, rfl, hba, hca⟩
          · omega
          rcases OBX.out.below (HBY.out.mono (by omega)) with h0 | ⟨bb, ob, rfl, hbb, hcb⟩
          · omega
          have ca := (hca k ks).1
          have cb := (hcb k ks).1
          have BD := hide (hca k ks).2
          have BS := hide (hcb k ks).2
          have EK := hide (show (fun j => if j = u then D k else perf D A u j) = perf D A (u + 1) ∧ (fun j => if j = u then S k else perf S A u j) = perf S A (u + 1) by
            constructor <;> (simp only [perf]; rw [HK.out, Int.toNat_natCast]))
          clear hca hcb x0 x1 x2 x3 ci
          obtain ⟨x0, x1, x2, x3⟩ := HBXY.out
          obtain ⟨p0, p1, p2, p3⟩ := TY.out.pb.box
          have fP := TY.out.pb.free
          unfold Free at fP
          have OA := hide ((TY.out.pb.ra.1.alloc (.cells #[.int .i64 (D k)] 3)).drew)
          have HN := hide (World.news_of_block (cs := #[.int .i64 (D k)]) (t := 3) (fr := (0, 0)) (heap_alloc_new Y _))
          have hb0 : w1.heap.size + 1 ≤ Y.heap.size := TY.out.pb.hB
          have NOB := hide (show ∀ j, j ≤ w1.heap.size → ¬ (Value.slice a1 u c1).ownBlock = some j from fun j hj e => by have := (TY.out.pb.ra.lt e).1; omega)
          have KAF := hide (fun (w3 : World) (hg : (Y.alloc (.cells #[.int .i64 (D k)] 3)).grownBy w3 (Value.slice a1 u c1).ownBlock) => show Kept (fun j => (Value.slice a1 u c1).ownBlock = some j) Y w3 from kept_row hg)
          have KC := hide (fun (w3 : World) (hK : Kept (fun j => (Value.slice a1 u c1).ownBlock = some j) Y w3) (j i : Nat) (hj : j ≤ w1.heap.size) => show w3.cell? ⟨j, i, none⟩ = Y.cell? ⟨j, i, none⟩ from World.cell?_of_block (w := Y) (a := ⟨j, i, none⟩) (hK.block j (by omega) (NOB.out j hj)))
          have KF := hide (fun (w3 : World) (hK : Kept (fun j => (Value.slice a1 u c1).ownBlock = some j) Y w3) (i : Nat) => show w3.frozen? ⟨w1.heap.size, i, none⟩ = Y.frozen? ⟨w1.heap.size, i, none⟩ from World.frozen?_of_block (w := Y) (a := ⟨w1.heap.size, i, none⟩) (hK.block w1.heap.size (by omega) (NOB.out _ (Nat.le_refl _))))
          have cAl : ∀ (x : Obj) i, (Y.alloc x).cell? ⟨w1.heap.size, i, none⟩ = Y.cell? ⟨w1.heap.size, i, none⟩ := fun x i => World.cell?_alloc_old Y x ⟨w1.heap.size, i, none⟩ (by show w1.heap.size ≠ Y.heap.size; omega)
          have cAl' : ∀ (x : Obj) i, (Y.drew.alloc x).cell? ⟨w1.heap.size, i, none⟩ = Y.cell? ⟨w1.heap.size, i, none⟩ := fun x i => World.cell?_alloc_old Y.drew x ⟨w1.heap.size, i, none⟩ (by show w1.heap.size ≠ Y.heap.size; omega)
          go_upto_region 14 with fail
          go_cut [] from 25 to 86 (fun wx => ∃ (a2 : Option Addr) (c2 : Nat), WS w (w1.heap.size + 1) w1.heap.size NoA (.slice a2 (u + 1) c2) (.slice b1 u d1) (u + 1) u (perf D A (u + 1)) (perf S A u) o n wx ∧ Box wx w.heap.size (.slice (some ⟨ba, oa, none⟩) s cap) (.slice (some ⟨bb, ob, none⟩) s dap) (.int .i64 o) (.int .i64 n) ∧ wx.cell? ⟨bi, oi + u, none⟩ = some (.int .i64 k) ∧ wx.cell? ⟨bb, ob + k, none⟩ = some (.int .i64 (S k)))
          case first =>
            go_region_law (first
              | (refine step_append_lies _ (by rfl) _ _ _ (by rfl) (w1.heap.size + 1) 3 i0 _ 1 8 Try.underlying22 hi0 hz0 hz1 hz2 rfl (by omega) (Value.slice a1 u c1) u (ints u (perf D A u)) (by rfl) OA.out
                  ⟨Y.heap.size, 0, none⟩ 1 1 [.int .i64 (D k)] (by rfl) (by rfl) HN.out (by simp [Value.oneCell'])
                  (by omega) (by unfold maxLen; omega) (by omega) (by simp; omega) (Y.heap.size + 1) (by simp) ?_
                 intro g' c' w3 hown3 hgrow hat hlt3
                 have HGR := hide (show (Y.alloc (.cells #[.int .i64 (D k)] 3)).grownBy w3 (Value.slice a1 u c1).ownBlock from ⟨hgrow.os, hgrow.tape, hgrow.output, hgrow.size, hgrow.block⟩)
                 have KA := hide (KAF.out w3 HGR.out)
                 have HOW := hide hown3
                 have HAT := hide hat
                 have r3 := fun i => KC.out w3 KA.out w1.heap.size i (Nat.le_refl _)
                 have r4 := fun i => KF.out w3 KA.out i
                 clear hown3 hgrow hat))
            all_goals (go_wp2_with fail)
            all_goals go_meet
            all_goals
              have T5 := TY.out.growA (v' := .slice (some ⟨g', 0, none⟩) (u + 1) c') BD.out HOW.out HGR.out (by rcases HAT.out with e | e; exact .inl e.symm; exact .inr (by rw [e]; simp [Value.ownBlock]))
              refine ⟨some ⟨g', 0, none⟩, c', by rw [← EK.out.1]; exact T5, ?_, se_old (by show bi ≠ w1.heap.size; omega) ((KC.out w3 KA.out bi (oi + u) (by omega)).trans cY), se_old (by show bb ≠ w1.heap.size; omega) ((KC.out w3 KA.out bb (ob + k) (by omega)).trans cb)⟩
              exact (HBXY.out.kept KA.out (by omega) (NOB.out _ (by omega))).set _ _ (by show w.heap.size ≠ w1.heap.size; omega)
          case rest =>
          obtain ⟨a2, c2, tz, bz, cz1, cz2⟩ := hcut
          obtain ⟨Z, rfl⟩ : ∃ Z, Z = wc := ⟨_, rfl⟩
          have TZ := hide tz
          have BZ := hide bz
          clear tz x0 x1 x2 x3 p0 p1 p2 p3 fP ca cb cY OA HN hb0 NOB KAF KC KF TY HBXY cAl cAl'
          obtain ⟨x0, x1, x2, x3⟩ := bz
          have cY := cz1
          have cb := cz2
          obtain ⟨p0, p1, p2, p3⟩ := TZ.out.pb.box
          have fP := TZ.out.pb.free
          unfold Free at fP
          clear cz1 cz2
          have OA := hide ((TZ.out.pb.rb.1.alloc (.cells #[.int .i64 (S k)] 3)).drew)
          have HN := hide (World.news_of_block (cs := #[.int .i64 (S k)]) (t := 3) (fr := (0, 0)) (heap_alloc_new Z _))
          have hb0 : w1.heap.size + 1 ≤ Z.heap.size := TZ.out.pb.hB
          have NOB := hide (show ∀ j, j ≤ w1.heap.size → ¬ (Value.slice b1 u d1).ownBlock = some j from fun j hj e => by have := (TZ.out.pb.rb.lt e).1; omega)
          have KAF := hide (fun (w3 : World) (hg : (Z.alloc (.cells #[.int .i64 (S k)] 3)).grownBy w3 (Value.slice b1 u d1).ownBlock) => show Kept (fun j => (Value.slice b1 u d1).ownBlock = some j) Z w3 from kept_row hg)
          have KC := hide (fun (w3 : World) (hK : Kept (fun j => (Value.slice b1 u d1).ownBlock = some j) Z w3) (j i : Nat) (hj : j ≤ w1.heap.size) => show w3.cell? ⟨j, i, none⟩ = Z.cell? ⟨j, i, none⟩ from World.cell?_of_block (w := Z) (a := ⟨j, i, none⟩) (hK.block j (by omega) (NOB.out j hj)))
          have KF := hide (fun (w3 : World) (hK : Kept (fun j => (Value.slice b1 u d1).ownBlock = some j) Z w3) (i : Nat) => show w3.frozen? ⟨w1.heap.size, i, none⟩ = Z.frozen? ⟨w1.heap.size, i, none⟩ from World.frozen?_of_block (w := Z) (a := ⟨w1.heap.size, i, none⟩) (hK.block w1.heap.size (by omega) (NOB.out _ (Nat.le_refl _))))
          have cAl : ∀ (x : Obj) i, (Z.alloc x).cell? ⟨w1.heap.size, i, none⟩ = Z.cell? ⟨w1.heap.size, i, none⟩ := fun x i => World.cell?_alloc_old Z x ⟨w1.heap.size, i, none⟩ (by show w1.heap.size ≠ Z.heap.size; omega)
          have cAl' : ∀ (x : Obj) i, (Z.drew.alloc x).cell? ⟨w1.heap.size, i, none⟩ = Z.cell? ⟨w1.heap.size, i, none⟩ := fun x i => World.cell?_alloc_old Z.drew x ⟨w1.heap.size, i, none⟩ (by show w1.heap.size ≠ Z.heap.size; omega)
          go_upto_region 15 with fail
          go_region_law (first
            | (refine step_append_lies _ (by rfl) _ _ _ (by rfl) (w1.heap.size + 1) 3 i0 _ 1 8 Try.underlying22 hi0 hz0 hz1 hz2 rfl (by omega) (Value.slice b1 u d1) u (ints u (perf S A u)) (by rfl) OA.out
                ⟨Z.heap.size, 0, none⟩ 1 1 [.int .i64 (S k)] (by rfl) (by rfl) HN.out (by simp [Value.oneCell'])
                (by omega) (by unfold maxLen; omega) (by omega) (by simp; omega) (Z.heap.size + 1) (by simp) ?_
               intro g' c' w3 hown3 hgrow hat hlt3
               have HGR := hide (show (Z.alloc (.cells #[.int .i64 (S k)] 3)).grownBy w3 (Value.slice b1 u d1).ownBlock from ⟨hgrow.os, hgrow.tape, hgrow.output, hgrow.size, hgrow.block⟩)
               have KA := hide (KAF.out w3 HGR.out)
               have HOW := hide hown3
               have HAT := hide hat
               have r3 := fun i => KC.out w3 KA.out w1.heap.size i (Nat.le_refl _)
               have r4 := fun i => KF.out w3 KA.out i
               clear hown3 hgrow hat))
          all_goals (go_wp2_with fail)
          all_goals go_roundw
          all_goals first
            | (simp only [intOf]; omega)
            | (simp [intOf]; omega)
            | (have T5 := TZ.out.growB (v' := .slice (some ⟨g', 0, none⟩) (u + 1) c') BS.out HOW.out HGR.out (by rcases HAT.out with e | e; exact .inl e.symm; exact .inr (by rw [e]; simp [Value.ownBlock]))
               refine ⟨u + 1, a2, some ⟨g', 0, none⟩, c2, c', by omega, by go_num, NEW.out, by rw [← EK.out.2]; exact T5, ?_⟩
               exact (BZ.out.kept KA.out (by omega) (NOB.out _ (by omega))).set _ _ (by show w.heap.size ≠ w1.heap.size; omega))
            | trace_state
    · obtain rfl : t = s := by omega
      have ez := hide (ET.out.trans (perV_yes ⟨rfl, HPER.out⟩))
      obtain ⟨y0, y1, y2, y3⟩ := HWS.out.rbox
      have gg := HWS.out.rfree
      unfold Free at gg
      obtain ⟨p0, p1, p2, p3⟩ := HWS.out.pb.box
      go_wp2_with fail
      refine bodyPost_ret (v := .agg #[.slice a1 t c1, .slice b1 t d1, .int .i64 o, .int .i64 n]) (by simp [results, Try.results21, go_sem, y0, y1, y2, y3]) rfl ?_
      show ViewR w.heap.size (turnedV t t D S o n (perV t t D S A o n)) w _ _
      rw [ez.out]
      exact HWS.out.viewR (by omega)
end Vo
end Go.Proofs.Ytldcacdopijfdaa
