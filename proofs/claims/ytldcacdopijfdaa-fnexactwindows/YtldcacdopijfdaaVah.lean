/- Whole on the model's side. -/
import Derived.Test.YtldcacdopijfdaaVag
namespace Go.Proofs.Ytldcacdopijfdaa
namespace Vo
open Go.ChangeShapes Go.WideShapes Go.ChangeAt Go.RowKit Go.Joins
open Vl Vp Vr
set_option linter.unusedVariables false
set_option linter.unusedSimpArgs false

/-- a call of one argument at a step of a region that draws its order, by its contract -/
theorem step_call {P : Program} {ops : Array Oper} {o : Oper} {a : Act} {w : World} {K : Act → World → Prop} {Q : Exit → Act → World → Prop} {E : Prop} (hgd : o.guard = none) (f : FuncId) (x : Operand) (t : TypeId)
    (ho : o.op = .call { callee := .value (.func f), args := #[x], argTypes := #[t] }) (eg : ∀ args w, (callFunc f args).run P w = .ok (.enter f args) w) (v : Value) (hx : a.eval x = v) (R : Value → World → Prop)
    (hc : Calls P f #[v] w fun e w' => ∃ u, e = .returned u ∧ R u w') (h : ∀ u w', R u w' → K (a.put o.dst u) w') : if Region.wanted o (yielded ops a.tmps) = true then Oper.wp P o a w K Q else E := by
  have hw : Region.wanted o (yielded ops a.tmps) = true := by simp [Region.wanted, hgd]
  rw [if_pos hw]
  have he : (execOp a.eval o).run P w = .ok (.enter f #[v]) w := by
    unfold execOp
    have hx2 : (#[x] : Array Operand).map a.eval = #[v] := by simp [hx]
    simp [ho, resolve, invoke, go_sem, hx, hx2, eg, Act.eval]
  unfold Oper.wp
  rw [he, Oper.upon_enter]
  refine hc.mono ?_
  rintro e w' ⟨u, rfl, hr⟩
  exact h u w' hr
set_option maxRecDepth 100000 in
set_option maxHeartbeats 2000000 in
theorem specWhole (B : Nat) (ad : Addr) (r : Nat) (D : Nat → Int) (w : World) (h : Ints B w (some ad) r D) (hB : B ≤ w.heap.size) (hr : (r : Int) ≤ 1048576) :
    Calls Try.prog 9 #[.slice (some ad) r r] w fun e w' => ViewR w.heap.size (wholeV r D) w e w' := by
  obtain ⟨i0, hi0, hz0, hz1, hz2⟩ := info_parts infoInt
  have BL := hide (show Below w.heap.size w (w.alloc (.cells #[.slice none 0 0, .slice none 0 0, .int .i64 0, .int .i64 0] 24)) from (Below.refl _ _).alloc (Nat.le_refl _) _)
  have M0 := hide (box_new w (.slice none 0 0) (.slice none 0 0) (.int .i64 0) (.int .i64 0) 24)
  have G0 := hide (free_new w #[.slice none 0 0, .slice none 0 0, .int .i64 0, .int .i64 0] 24)
  have H := hide h
  clear h
  by_cases hd0 : dok r D = false
  · have e := hide (wholeV_no hd0)
    have hd' := hd0
    clear hd0
    go_enter Try.func9, Try.ntmps9
    go_wp2_with fail
    refine (Vs.specDimsOk B (some ad) r r D _ (H.out.below (BL.out.mono hB)) hr).mono ?_; rintro e1 w1 ⟨rfl, rfl⟩
    rw [hd']
    go_wp2_with fail
    refine bodyPost_ret (v := .agg #[.slice none 0 0, .slice none 0 0, .int .i64 0, .int .i64 0]) (by simp [results, Try.results9, go_sem]) rfl (by
      rw [e.out]; refine viewR_zero ?_
      repeat (refine Below.setCell ?_ (by simp) _)
      exact BL.out)
  have hd : dok r D = true := by simpa using hd0
  clear hd0
  have e := hide (wholeV_yes hd)
  have HD := hide hd
  have r6 : (r : Int) ≤ 6 := by have := (dok_iff.1 hd).1; omega
  go_enter Try.func9, Try.ntmps9
  go_wp2_with fail
  refine (Vs.specDimsOk B (some ad) r r D _ (H.out.below (BL.out.mono hB)) hr).mono ?_; rintro e1 w1 ⟨rfl, rfl⟩
  rw [hd]
  clear hd
  go_wp2_with fail
  refine (l3Ints B ad r r D _ (H.out.below (BL.out.mono hB)) (by simp; omega) hr).mono ?_
  rintro e1 w1 ⟨va, rfl, hva, b1⟩
  obtain ⟨aa, ac, rfl, _⟩ := hva.own
  have B1 := hide (BL.out.trans (b1.mono (by simp)))
  have z1 : w.heap.size < w1.heap.size := by have := b1.size; simp at this; omega
  have M1 := hide (M0.out.below b1 (by simp))
  have G1 := hide (G0.out.below b1 (by simp))
  have RA1 := hide hva
  clear b1 hva
  go_wp2_with fail
  refine (Vs.l3Size B (some ad) r r D _ (H.out.below (B1.out.mono hB)) hr).mono ?_
  rintro e1 w2 ⟨rfl, hq⟩
  have hq := hq.symm
  subst hq
  have bP := hide (show Below w1.heap.size w1 (w1.alloc (.cells #[.slice aa r ac, .slice none 0 0, .int .i64 0, .int .i64 (szR D r)] 24)) from (Below.refl _ _).alloc (Nat.le_refl _) _)
  have XP := hide (box_new w1 (.slice aa r ac) (.slice none 0 0) (.int .i64 0) (.int .i64 (szR D r)) 24)
  have FP := hide (free_new w1 #[.slice aa r ac, .slice none 0 0, .int .i64 0, .int .i64 (szR D r)] 24)
  go_wp2_with fail
  go_loopw [4] (fun i wx => ∃ (k : Nat) (vb : Value), k ≤ r ∧ i = .int .i64 k ∧ RowV (w.heap.size + 1) wx (.slice aa r ac) r D ∧ (∀ j, (Value.slice aa r ac).ownBlock = some j → j < w1.heap.size) ∧ RowV (w1.heap.size + 1) wx vb k (fun j => bh D r (r - 1 - j)) ∧ Box wx w1.heap.size (.slice aa r ac) vb (.int .i64 0) (.int .i64 (szR D r)) ∧ Free wx w1.heap.size ∧ Box wx w.heap.size (.slice none 0 0) (.slice none 0 0) (.int .i64 0) (.int .i64 0) ∧ Free wx w.heap.size ∧ w1.heap.size + 1 ≤ wx.heap.size ∧ Below w.heap.size w wx) (fun i _ => r - (intOf i).toNat)
  case atStart => exact ⟨0, _, Nat.zero_le _, rfl, (RA1.out.below bP.out).mono (by simp), fun j hj => (RA1.out.lt hj).2, ⟨World.ownsRow_nil _ _ _ _, fun _ h => by omega⟩, XP.out, FP.out, M1.out.below bP.out z1, G1.out.below bP.out z1, by simp, B1.out.trans (bP.out.mono B1.out.size)⟩
  case round =>
    obtain ⟨k, vb, hk, rfl, hra, hla, hrb, hxp, hfp, hm, hg, hsz, hb⟩ := hrel
    have RA := hide hra
    have RB := hide hrb
    have XX := hide hxp
    have FX := hide hfp
    have HM := hide hm
    have HG := hide hg
    have HB := hide hb
    have LA := hide hla
    obtain ⟨x0, x1, x2, x3⟩ := XX.out
    have fx := FX.out
    unfold Free at fx
    clear hra hla hrb hxp hfp hm hg hb
    by_cases hlt : k < r
    · have kI : (k : Int) < r := by omega
      have k1 : (k : Int) + 1 ≤ r := by omega
      have k0 : (0 : Int) ≤ (k : Int) + 1 := by omega
      have wr1 : IntKind.i64.wrap ((k : Int) + 1) = (k : Int) + 1 := by rw [IntKind.wrap_i64]; omega
      have hI := H.out.below (HB.out.mono hB)
      have ts := tail_size hlt HD.out
      have HII := hide hI
      clear hI
      have zP : w1.heap.size < wr.heap.size := by omega
      have prle := hide (show pr D r ≤ 4096 by
        have := (dok_iff.1 HD.out).2
        rcases szR_cases D r with q | ⟨_, q, _, q4⟩ <;> omega)
      have nbl := hide (show ¬ vb.ownBlock = some w1.heap.size from fun hj => by have := (RB.out.lt hj).1; omega)
      by_cases c : r = k + 1
      · have c' : (r = k + 1) = True := eq_true c
        have hsub : ∀ (W : World), Ints B W (some ad) r D → Ints B W (some ad) (r - (k + 1)) (fun t => D (k + 1 + t)) := by
          intro W q
          rcases q with q | ⟨b, off, e', q1, q2⟩
          · omega
          · injection e' with e'; subst e'
            exact .inl (by omega)
        have CS := hide (fun (W : World) (q : Ints B W (some ad) r D) => Vs.l3Size B _ (r - (k + 1)) (r - (k + 1)) _ W (hsub W q) (by omega))
        clear hsub c
        rw [ts] at CS
        clear ts
        go_wp2_with fail
        go_region_law (first
          | (refine step_call (by rfl) 31 _ _ (by rfl) (enters_of Try.func31 (by kernel_rfl) rfl) _ (by rfl) (fun u w' => u = .int .i64 (bh D r (r - 1 - k)) ∧ w' = wr.drew) ((CS.out _ (by exact HII.out)).mono (by rintro e1 w4 ⟨rfl, rfl⟩; exact ⟨_, rfl, rfl, rfl⟩)) ?_
             rintro u w4 ⟨rfl, rfl⟩)
          | (refine step_append_lies _ (by rfl) _ _ _ (by rfl) (w1.heap.size + 1) 3 i0 _ 1 8 Try.underlying22 hi0 hz0 hz1 hz2 rfl (by omega) vb k (ints k (fun j => bh D r (r - 1 - j))) (by rfl) ((RB.out.1.alloc _).drew)
                ⟨wr.heap.size, 0, none⟩ 1 1 [.int .i64 (bh D r (r - 1 - k))] (by rfl) (by rfl) (World.news_of_block (cs := #[.int .i64 (bh D r (r - 1 - k))]) (t := 3) (fr := (0, 0)) (heap_alloc_new wr _)) (by simp [Value.oneCell'])
                (by omega) (by unfold maxLen; omega) (by omega) (by simp; omega) (wr.heap.size + 1) (by simp) ?_
             intro g' c'' w3 hown3 hgrow hat hlt3
             have KA : Kept (fun j => vb.ownBlock = some j) wr w3 := (Kept.of_below (((Below.refl _ wr).alloc (Nat.le_refl _) (.cells #[.int .i64 (bh D r (r - 1 - k))] 3)).drew)).trans ⟨hgrow.os, hgrow.tape, hgrow.output, hgrow.size, fun j hj hn => hgrow.block j hj (fun q => hn q.symm)⟩
             have e1 : ∀ i, w3.cell? ⟨w1.heap.size, i, none⟩ = wr.cell? ⟨w1.heap.size, i, none⟩ := fun i => World.cell?_of_block (w := wr) (a := ⟨w1.heap.size, i, none⟩) (KA.block w1.heap.size zP (fun q => nbl.out q))
             have e2 : ∀ i, w3.frozen? ⟨w1.heap.size, i, none⟩ = wr.frozen? ⟨w1.heap.size, i, none⟩ := fun i => World.frozen?_of_block (w := wr) (a := ⟨w1.heap.size, i, none⟩) (KA.block w1.heap.size zP (fun q => nbl.out q))))
        all_goals (go_wp2_with fail)
        all_goals go_roundw
        all_goals first
          | (simp [intOf]; omega)
          | (have RA3 := RA.out.kept KA (fun j q q' => by have := LA.out j q; have := (RB.out.lt q').1; omega)
             have ks := Kept.setCell w3 ⟨w1.heap.size, 1, none⟩ (.slice (some ⟨g', 0, none⟩) (k + 1) c'')
             have RB3 : RowV (w1.heap.size + 1) w3 (.slice (some ⟨g', 0, none⟩) (k + 1) c'') (k + 1) (fun j => bh D r (r - 1 - j)) := ⟨by rw [← ints_succ]; exact hown3, fun j hj => by show bd (bh D r (r - 1 - j)); have := bh_le (fun i hi => (dok_len HD.out hi).1) (r - 1 - j) (by omega); have := prle.out; unfold bd; omega⟩
             have X3 := XX.out.kept KA zP (fun q => nbl.out q)
             have F3 := FX.out.kept KA zP (fun q => nbl.out q)
             have M3 := HM.out.kept KA (by omega) (fun q => by have := (RB.out.lt q).1; omega)
             have G3 := HG.out.kept KA (by omega) (fun q => by have := (RB.out.lt q).1; omega)
             have B3 : Below w.heap.size w w3 := HB.out.trans (KA.below HB.out.size (fun j q => by have := (RB.out.lt q).1; omega))
             have s3 := KA.size
             exact ⟨k + 1, _, by omega, by go_num, RA3.kept ks (fun j q q' => by have := LA.out j q; have e : j = w1.heap.size := q'; omega), LA.out, RB3.kept ks (fun j q q' => by have := (RB3.lt q).1; have e : j = w1.heap.size := q'; omega), box_set1 X3 _, F3.set _ _, M3.set _ _ (by show w.heap.size ≠ w1.heap.size; omega), G3.set _ _, by simp [World.setCell]; omega, B3.setCell (p := ⟨w1.heap.size, 1, none⟩) (Nat.le_of_lt z1) _⟩)
      · have c' : (r = k + 1) = False := eq_false c
        have hsub : ∀ (W : World), Ints B W (some ad) r D → Ints B W (some { block := ad.block, off := ad.off + (k + 1) }) (r - (k + 1)) (fun t => D (k + 1 + t)) := by
          intro W q
          rcases q with q | ⟨b, off, e', q1, q2⟩
          · omega
          · injection e' with e'; subst e'
            exact .inr ⟨b, off + (k + 1), rfl, q1, fun j hj => by have := q2 (k + 1 + j) (by omega); rwa [show off + (k + 1) + j = off + (k + 1 + j) by omega]⟩
        have CS := hide (fun (W : World) (q : Ints B W (some ad) r D) => Vs.l3Size B _ (r - (k + 1)) (r - (k + 1)) _ W (hsub W q) (by omega))
        clear hsub c
        rw [ts] at CS
        clear ts
        go_wp2_with fail
        go_region_law (first
          | (refine step_call (by rfl) 31 _ _ (by rfl) (enters_of Try.func31 (by kernel_rfl) rfl) _ (by rfl) (fun u w' => u = .int .i64 (bh D r (r - 1 - k)) ∧ w' = wr.drew) ((CS.out _ (by exact HII.out)).mono (by rintro e1 w4 ⟨rfl, rfl⟩; exact ⟨_, rfl, rfl, rfl⟩)) ?_
             rintro u w4 ⟨rfl, rfl⟩)
          | (refine step_append_lies _ (by rfl) _ _ _ (by rfl) (w1.heap.size + 1) 3 i0 _ 1 8 Try.underlying22 hi0 hz0 hz1 hz2 rfl (by omega) vb k (ints k (fun j => bh D r (r - 1 - j))) (by rfl) ((RB.out.1.alloc _).drew)
                ⟨wr.heap.size, 0, none⟩ 1 1 [.int .i64 (bh D r (r - 1 - k))] (by rfl) (by rfl) (World.news_of_block (cs := #[.int .i64 (bh D r (r - 1 - k))]) (t := 3) (fr := (0, 0)) (heap_alloc_new wr _)) (by simp [Value.oneCell'])
                (by omega) (by unfold maxLen; omega) (by omega) (by simp; omega) (wr.heap.size + 1) (by simp) ?_
             intro g' c'' w3 hown3 hgrow hat hlt3
             have KA : Kept (fun j => vb.ownBlock = some j) wr w3 := (Kept.of_below (((Below.refl _ wr).alloc (Nat.le_refl _) (.cells #[.int .i64 (bh D r (r - 1 - k))] 3)).drew)).trans ⟨hgrow.os, hgrow.tape, hgrow.output, hgrow.size, fun j hj hn => hgrow.block j hj (fun q => hn q.symm)⟩
             have e1 : ∀ i, w3.cell? ⟨w1.heap.size, i, none⟩ = wr.cell? ⟨w1.heap.size, i, none⟩ := fun i => World.cell?_of_block (w := wr) (a := ⟨w1.heap.size, i, none⟩) (KA.block w1.heap.size zP (fun q => nbl.out q))
             have e2 : ∀ i, w3.frozen? ⟨w1.heap.size, i, none⟩ = wr.frozen? ⟨w1.heap.size, i, none⟩ := fun i => World.frozen?_of_block (w := wr) (a := ⟨w1.heap.size, i, none⟩) (KA.block w1.heap.size zP (fun q => nbl.out q))))
        all_goals (go_wp2_with fail)
        all_goals go_roundw
        all_goals first
          | (simp [intOf]; omega)
          | (have RA3 := RA.out.kept KA (fun j q q' => by have := LA.out j q; have := (RB.out.lt q').1; omega)
             have ks := Kept.setCell w3 ⟨w1.heap.size, 1, none⟩ (.slice (some ⟨g', 0, none⟩) (k + 1) c'')
             have RB3 : RowV (w1.heap.size + 1) w3 (.slice (some ⟨g', 0, none⟩) (k + 1) c'') (k + 1) (fun j => bh D r (r - 1 - j)) := ⟨by rw [← ints_succ]; exact hown3, fun j hj => by show bd (bh D r (r - 1 - j)); have := bh_le (fun i hi => (dok_len HD.out hi).1) (r - 1 - j) (by omega); have := prle.out; unfold bd; omega⟩
             have X3 := XX.out.kept KA zP (fun q => nbl.out q)
             have F3 := FX.out.kept KA zP (fun q => nbl.out q)
             have M3 := HM.out.kept KA (by omega) (fun q => by have := (RB.out.lt q).1; omega)
             have G3 := HG.out.kept KA (by omega) (fun q => by have := (RB.out.lt q).1; omega)
             have B3 : Below w.heap.size w w3 := HB.out.trans (KA.below HB.out.size (fun j q => by have := (RB.out.lt q).1; omega))
             have s3 := KA.size
             exact ⟨k + 1, _, by omega, by go_num, RA3.kept ks (fun j q q' => by have := LA.out j q; have e : j = w1.heap.size := q'; omega), LA.out, RB3.kept ks (fun j q q' => by have := (RB3.lt q).1; have e : j = w1.heap.size := q'; omega), box_set1 X3 _, F3.set _ _, M3.set _ _ (by show w.heap.size ≠ w1.heap.size; omega), G3.set _ _, by simp [World.setCell]; omega, B3.setCell (p := ⟨w1.heap.size, 1, none⟩) (Nat.le_of_lt z1) _⟩)
    · obtain rfl : r = k := by omega
      obtain ⟨ab, ac', rfl, hob⟩ := RB.out.own
      obtain ⟨_, _, ea, hoa⟩ := RA.out.own
      injection ea with ea1 ea2 ea3
      subst ea1
      clear ea2 ea3
      have vo : VOwn (w.heap.size + 1) wr aa ab r r D (fun j => bh D r (r - 1 - j)) := ⟨hoa, hob.mono (by omega), fun j q q' => by
        have q1 : (Value.slice aa r ac).ownBlock = some j := by obtain ⟨_, ad', e', e''⟩ := q; rw [e']; exact congrArg some e''
        have q2 : (Value.slice ab r ac').ownBlock = some j := by obtain ⟨_, ad', e', e''⟩ := q'; rw [e']; exact congrArg some e''
        have := LA.out j q1
        have := (RB.out.lt q2).1
        omega⟩
      have VO := hide vo
      have bP2 : ∀ j, Blk ab r j → w1.heap.size + 1 ≤ j := fun j q => by
        have q2 : (Value.slice ab r ac').ownBlock = some j := by obtain ⟨_, ad', e', e''⟩ := q; rw [e']; exact congrArg some e''
        exact (RB.out.lt q2).1
      have BP2 := hide bP2
      clear vo bP2 hoa hob
      go_wp2_with fail
      refine (l3Plain (w.heap.size + 1) aa ab r ac ac' D _ 0 (szR D r) _ VO.out (by omega) hr).mono ?_
      rintro e3 w5 ⟨rfl, hvo, hke⟩
      have HVO := hide hvo
      have HKE := hide hke
      have M5 := hide (HM.out.kept hke (by omega) (fun q => by have := BP2.out _ q; omega))
      have G5 := hide (HG.out.kept hke (by omega) (fun q => by have := BP2.out _ q; omega))
      have B5 := hide (HB.out.trans (hke.below HB.out.size (fun j q => by have := BP2.out _ q; omega)))
      obtain ⟨y0, y1, y2, y3⟩ := M5.out
      have gg := G5.out
      unfold Free at gg
      clear hvo hke x0 x1 x2 x3 fx
      go_wp2_with fail
      refine bodyPost_ret (v := .agg #[.slice aa r ac, .slice ab r ac', .int .i64 0, .int .i64 (szR D r)]) (by simp [results, Try.results9, go_sem, y0, y1, y2, y3]) rfl (by
        rw [e.out]
        have ks4 := kept_sets4 w5 w.heap.size (.slice aa r ac) (.slice ab r ac') (.int .i64 0) (.int .i64 (szR D r))
        exact ⟨aa, ab, ac, ac', rfl, (HVO.out.kept ks4 (fun j q q' => by have := (HVO.out.blk q).1; have e : j = w.heap.size := q'; omega)).mono (by omega), B5.out.trans (ks4.below B5.out.size (fun j q => by have e : j = w.heap.size := q; omega))⟩)
end Vo
end Go.Proofs.Ytldcacdopijfdaa
