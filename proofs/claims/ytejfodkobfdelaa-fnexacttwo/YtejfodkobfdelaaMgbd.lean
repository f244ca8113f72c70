/- Lemmas for the proof of the law. -/
import Derived.Test.YtejfodkobfdelaaMgar
import Derived.Test.YtejfodkobfdelaaMgbc
import Derived.Test.YtejfodkobfdelaaMgap
import Derived.Test.YtejfodkobfdelaaMgau
import Derived.Test.YtejfodkobfdelaaMgax
import Derived.Test.YtejfodkobfdelaaMgas
/- Turns of views, where a list that is none is empty. -/
namespace Go.Proofs.Ytejfodkobfdelaa
namespace Vo
open Go.ChangeShapes Go.WideShapes Go.ChangeAt Go.RowKit Go.Joins Go.Sort
open Vl Vp Vr
set_option linter.unusedVariables false
set_option linter.unusedSimpArgs false
set_option maxHeartbeats 1000000 in
theorem cloneN (B : Nat) (a : Option Addr) (r cap : Nat) (D : Nat → Int) (w : World) (h : Ints B w a r D) (hB : B ≤ w.heap.size) (hr : (r : Int) ≤ 1048576) (hn : a = none → r = 0) :
    Calls Try.prog 45 #[.slice a r cap] w fun e w' => ∃ v, e = .returned v ∧ RowV w.heap.size w' v r D ∧ Below w.heap.size w w' := by
  obtain ⟨i0, hi0, hz0, hz1, hz2⟩ := info_parts infoInt
  have hbd : ∀ j, j < r → bd (D j) := fun j hj => h.bd j hj
  cases a with
  | none =>
    obtain rfl := hn rfl
    have heq := fun (W : World) => Lib.run_eql_slice_nil_nil (P := Try.prog) W 0 cap Try.underlying22
    clear h
    go_enter Try.func45, Try.ntmps45
    go_wp2_with fail
    go_ret
    exact ⟨_, rfl, ⟨World.ownsRow_nil _ _ _ _, hbd⟩, Below.refl _ _⟩
  | some ad =>
    have H := hide h
    have HB := hide hbd
    clear h hn hbd
    have hown0 : (w.alloc (.cells #[] 3)).ownsRow w.heap.size 3 1 (.slice (some ⟨w.heap.size, 0, none⟩) 0 0) 0 [] :=
      ⟨rfl, .inr ⟨w.heap.size, 0, #[], rfl, Nat.le_refl _, heap_alloc_new w _, Nat.le_refl _, by simp [maxLen], rfl, rfl⟩⟩
    have B0 := hide (show Below w.heap.size w (w.alloc (.cells #[] 3)) from (Below.refl _ _).alloc (Nat.le_refl _) _)
    have heq := fun (W : World) => Lib.run_eql_slice_some_nil (P := Try.prog) W ad r cap Try.underlying22
    have hnews := hide (ints_of (H.out.below (B0.out.mono hB)) rfl)
    go_enter Try.func45, Try.ntmps45
    go_wp2_with (at_builtin; refine wpList_append_own _ rfl _ _ 22 rfl w.heap.size 3 i0 (.int .i64 0) 1 8 Try.underlying22 hi0 hz0 hz1 hz2 rfl (by decide) _ _ _ rfl hown0 ad r cap (ints r D) rfl (by rw [ints_len]; omega) hnews.out (ints_one r D) (by unfold maxLen; omega) (by omega) (by simp) ?_; intro v' w1 hown1 hgrow1 _)
    go_ret
    rw [List.nil_append, Nat.zero_add] at hown1
    exact ⟨v', rfl, ⟨hown1, HB.out⟩, B0.out.grown hgrow1 (by simp) (by rintro k ⟨⟩; exact Nat.le_refl _)⟩
set_option maxRecDepth 100000 in
set_option maxHeartbeats 4000000 in
theorem turnedN (name : ByteArray) (F : Nat) (T : PV) (eF : ∀ args w, (callFunc F args).run Try.prog w = .ok (.enter F args) w) (hn : ∀ W, Calls Try.prog 46 #[.string name] W fun e W' => e = .returned (.func (.func F) #[] #[]) ∧ Below W.heap.size W W')
    (B : Nat) (a b ia : Option Addr) (r s q cap dap ica : Nat) (D S I : Nat → Int) (o n : Int) (w : World) (hB : B ≤ w.heap.size) (h : Ints B w a r D) (h' : Ints B w b s S) (hi : Ints B w ia q I) (hr : (r : Int) ≤ 1048576) (hs : (s : Int) ≤ 1048576)
    (hna : a = none → r = 0) (hnb : b = none → s = 0) (hTr : (T.r : Int) ≤ 1048576) (hTs : (T.s : Int) ≤ 1048576)
    (hT : ∀ (va vb : Value) (W : World), VOk r s D S o n → RowV (w.heap.size + 2) W va r D → RowV (w.heap.size + 2) W vb s S → (∀ k, va.ownBlock = some k → vb.ownBlock = some k → False) → Ints B W ia q I → w.heap.size + 2 ≤ W.heap.size →
      Calls Try.prog F #[.agg #[va, vb, .int .i64 o, .int .i64 n], .slice ia q ica] W fun e W' => TurnR (w.heap.size + 2) T va vb W e W') :
    Calls Try.prog 29 #[.string name, .agg #[.slice a r cap, .slice b s dap, .int .i64 o, .int .i64 n], .slice ia q ica] w fun e w' => ViewR w.heap.size (turnedV r s D S o n T) w e w' := by
  have H := hide h
  have H' := hide h'
  have HI := hide hi
  have HT := hide hT
  have HN := hide hn
  have BL := hide (show Below w.heap.size w ((w.alloc (.cells #[.slice a r cap, .slice b s dap, .int .i64 o, .int .i64 n] 26)).alloc (.cells #[.slice none 0 0, .slice none 0 0, .int .i64 0, .int .i64 0] 26)) from ((Below.refl _ _).alloc (Nat.le_refl _) _).alloc (by simp) _)
  have N0 := hide ((box_new w (.slice a r cap) (.slice b s dap) (.int .i64 o) (.int .i64 n) 26).below ((Below.refl (w.heap.size + 1) _).alloc (by simp) (.cells #[.slice none 0 0, .slice none 0 0, .int .i64 0, .int .i64 0] 26)) (by omega))
  have F0 := hide ((free_new w #[.slice a r cap, .slice b s dap, .int .i64 o, .int .i64 n] 26).below ((Below.refl (w.heap.size + 1) _).alloc (by simp) (.cells #[.slice none 0 0, .slice none 0 0, .int .i64 0, .int .i64 0] 26)) (by omega))
  have m0 := box_new (w.alloc (.cells #[.slice a r cap, .slice b s dap, .int .i64 o, .int .i64 n] 26)) (.slice none 0 0) (.slice none 0 0) (.int .i64 0) (.int .i64 0) 26
  have g0 := free_new (w.alloc (.cells #[.slice a r cap, .slice b s dap, .int .i64 o, .int .i64 n] 26)) #[.slice none 0 0, .slice none 0 0, .int .i64 0, .int .i64 0] 26
  rw [World.size_alloc] at m0 g0
  have M0 := hide m0
  have G0 := hide g0
  clear h h' hi hT hn m0 g0
  go_enter Try.func29, Try.ntmps29
  go_wp2_with fail
  refine (viewOk B a b r s cap dap D S o n _ (by simp; omega) (H.out.below (BL.out.mono hB)) (H'.out.below (BL.out.mono hB)) hr hs).mono ?_
  rintro e w1 ⟨rfl, b1⟩
  have B1 := hide (BL.out.trans (b1.mono (by simp; omega)))
  have z1 : w.heap.size + 1 < w1.heap.size := by have := b1.size; simp at this; omega
  have z10 : w.heap.size < w1.heap.size := by omega
  have N1 := hide (N0.out.below b1 (by simp; omega))
  have M1 := hide (M0.out.below b1 (by simp))
  have F1 := hide (F0.out.below b1 (by simp; omega))
  have G1 := hide (G0.out.below b1 (by simp))
  obtain ⟨x0, x1, x2, x3⟩ := N1.out
  obtain ⟨y0, y1, y2, y3⟩ := M1.out
  have f1 := F1.out
  have g1 := G1.out
  clear b1
  cases hv : vok r s D S o n with
  | false =>
    have ez := hide (show turnedV r s D S o n T = PV.zero by unfold turnedV; rw [hv]; simp)
    clear hv
    unfold Free at f1 g1
    go_wp2_with fail
    refine bodyPost_ret (v := .agg #[.slice none 0 0, .slice none 0 0, .int .i64 0, .int .i64 0]) (by simp [results, Try.results29, go_sem, y0, y1, y2, y3]) rfl (by
      rw [ez.out]
      refine viewR_zero ?_
      repeat (refine Below.setCell ?_ (by simp) _)
      exact B1.out)
  | true =>
    have V := hide (vok_iff.1 hv)
    have ez := hide (show turnedV r s D S o n T = T.orZero by unfold turnedV; rw [hv]; simp)
    clear hv
    have CA := hide (fun (W : World) (hW : Below w.heap.size w W) => cloneN B a r cap D W (H.out.below (hW.mono hB)) (Nat.le_trans hB hW.size) hr hna)
    have CB := hide (fun (W : World) (hW : Below w.heap.size w W) => cloneN B b s dap S W (H'.out.below (hW.mono hB)) (Nat.le_trans hB hW.size) hs hnb)
    unfold Free at f1 g1
    go_wp2_with fail
    go_cut [14, 17] (fun va vb wx => Box wx w.heap.size va vb (.int .i64 o) (.int .i64 n) ∧ RowV (w.heap.size + 2) wx va r D ∧ RowV (w.heap.size + 2) wx vb s S ∧ (∀ k, va.ownBlock = some k → vb.ownBlock = some k → False) ∧ Box wx (w.heap.size + 1) (.slice none 0 0) (.slice none 0 0) (.int .i64 0) (.int .i64 0) ∧ Free wx (w.heap.size + 1) ∧ w.heap.size + 2 ≤ wx.heap.size ∧ Below w.heap.size w wx)
    case first =>
      go_region_with (first
        | (go_at_call_of 45 (Value.slice a r cap); refine (CA.out _ (by exact B1.out.drew)).mono ?_; rintro e wA ⟨va, rfl, hva, bA⟩; obtain ⟨aa, ac, rfl, _⟩ := RowV.own hva; have cA := fun i => old_cells bA w.heap.size i (by show w.heap.size < w1.heap.size; omega); have mA := fun i => old_marks bA w.heap.size i (by show w.heap.size < w1.heap.size; omega))
        | (go_at_call_of 45 (Value.slice b s dap); refine (CB.out _ (by exact (B1.out.drew).trans (Below.mono bA B1.out.size))).mono ?_; rintro e wB ⟨vb, rfl, hvb, bB⟩; obtain ⟨ab, ad, rfl, _⟩ := RowV.own hvb; have cB := fun i => old_cells bB w.heap.size i (by have := bA.size; show w.heap.size < wA.heap.size; exact Nat.lt_of_lt_of_le z10 this); have mB := fun i => old_marks bB w.heap.size i (by have := bA.size; show w.heap.size < wA.heap.size; exact Nat.lt_of_lt_of_le z10 this)))
      all_goals (go_wp2_with fail)
      all_goals go_meet
      all_goals
        have sA : w1.heap.size ≤ wA.heap.size := bA.size
        have sB : wA.heap.size ≤ wB.heap.size := bB.size
        have nA := N1.out.below (B := w1.heap.size) (w' := wA) ⟨bA.os, bA.tape, bA.output, bA.size, bA.block⟩ z10
        have nB := nA.below bB (by omega)
        have mmA := M1.out.below (B := w1.heap.size) (w' := wA) ⟨bA.os, bA.tape, bA.output, bA.size, bA.block⟩ z1
        have mmB := mmA.below bB (by omega)
        have ggA := G1.out.below (B := w1.heap.size) (w' := wA) ⟨bA.os, bA.tape, bA.output, bA.size, bA.block⟩ z1
        have ggB := ggA.below bB (by omega)
        have ra := (hva.below bB).mono (B' := w.heap.size + 2) (by show w.heap.size + 2 ≤ w1.heap.size; omega)
        have rb := hvb.mono (B' := w.heap.size + 2) (by omega)
        have k1 : Kept (· = w.heap.size) wB ((wB.setCell ⟨w.heap.size, 0, none⟩ (.slice aa r ac)).setCell ⟨w.heap.size, 1, none⟩ (.slice ab s ad)) := (Kept.setCell wB ⟨w.heap.size, 0, none⟩ _).trans (Kept.setCell _ ⟨w.heap.size, 1, none⟩ _)
        refine ⟨box_set01 nB _ _, ra.kept k1 (fun k hk => by have := (ra.lt hk).1; omega), rb.kept k1 (fun k hk => by have := (rb.lt hk).1; omega), fun k h1 h2 => by have := (hva.lt h1).2; have := (hvb.lt h2).1; omega, (mmB.set _ _ (by show w.heap.size + 1 ≠ w.heap.size; omega)).set _ _ (by show w.heap.size + 1 ≠ w.heap.size; omega), (ggB.set _ _).set _ _, by simp [World.setCell]; omega, ?_⟩
        have bw : Below w.heap.size w wB := (B1.out.trans (Below.mono (w := w1) (w' := wA) ⟨bA.os, bA.tape, bA.output, bA.size, bA.block⟩ B1.out.size)).trans (bB.mono (by omega))
        exact (bw.setCell (p := ⟨w.heap.size, 0, none⟩) (Nat.le_refl _) _).setCell (p := ⟨w.heap.size, 1, none⟩) (Nat.le_refl _) _
    case rest =>
      obtain ⟨hx, ra, rb, hne, hm, hg, hsz, hbw⟩ := hcut
      obtain ⟨aa, ac, rfl, _⟩ := ra.own
      obtain ⟨ab, ad, rfl, _⟩ := rb.own
      have RA := hide ra
      have RB := hide rb
      have HX := hide hx
      have HM := hide hm
      have HG := hide hg
      have HW := hide hbw
      have HNE := hide hne
      obtain ⟨p0, p1, p2, p3⟩ := hx
      have HTT := hide (fun (W : World) (hW : Below wc.heap.size wc W) => HT.out (.slice aa r ac) (.slice ab s ad) W V.out (RA.out.below hW) (RB.out.below hW) HNE.out (HI.out.below ((HW.out.trans (hW.mono HW.out.size)).mono hB)) (Nat.le_trans hsz hW.size))
      clear ra rb hm hg hbw hne x0 x1 x2 x3 y0 y1 y2 y3 f1 g1 HT CA CB
      have HOB := hide (show ∀ k, OB (.slice aa r ac) (.slice ab s ad) k → w.heap.size + 2 ≤ k ∧ k < wc.heap.size by
        rintro k (q | q)
        · exact RA.out.lt q
        · exact RB.out.lt q)
      have c0' : ∀ (x : Obj) i, (wc.alloc x).cell? ⟨w.heap.size, i, none⟩ = wc.cell? ⟨w.heap.size, i, none⟩ := fun x i => World.cell?_alloc_old wc x ⟨w.heap.size, i, none⟩ (by show w.heap.size ≠ wc.heap.size; omega)
      have c0 : ∀ (x : Obj) i, (wc.drew.alloc x).cell? ⟨w.heap.size, i, none⟩ = wc.cell? ⟨w.heap.size, i, none⟩ := fun x i => World.cell?_alloc_old wc.drew x ⟨w.heap.size, i, none⟩ (by show w.heap.size ≠ wc.heap.size; omega)
      go_wp2_with fail
      go_cut [7] (fun p7 wx => ∃ (P : Nat) (ta tb : Option Addr) (tc td : Nat), p7 = .pointer (some ⟨P, 0, none⟩) ∧ w.heap.size + 2 ≤ P ∧ P < wx.heap.size ∧ Box wx P (.slice ta T.r tc) (.slice tb T.s td) (.int .i64 T.o) (.int .i64 T.n) ∧ VOwn (w.heap.size + 2) wx ta tb T.r T.s T.D T.S ∧ Box wx (w.heap.size + 1) (.slice none 0 0) (.slice none 0 0) (.int .i64 0) (.int .i64 0) ∧ Free wx (w.heap.size + 1) ∧ Below w.heap.size w wx)
      case first =>
        go_region_with (first
          | (go_at_call 46
             refine (HN.out _).mono ?_
             rintro e wD ⟨rfl, bD⟩
             first
               | (have sD : wc.heap.size + 1 ≤ wD.heap.size := by (have q := bD.size; simp only [World.size_alloc, drewSize] at q; omega)
                  have bD' : Below wc.heap.size wc wD := ((Below.refl _ wc).drew.alloc (Nat.le_refl _) _).trans (bD.mono (by simp only [World.size_alloc, drewSize]; omega))
                  have cD := fun i => bD'.cell (p := ⟨w.heap.size, i, none⟩) (show w.heap.size < wc.heap.size by omega)
                  have eC := fun i => bD.cell (p := ⟨wc.heap.size, i, none⟩) (by simp only [World.size_alloc, drewSize]; omega)
                  have fC := fun i => bD.frozen (p := ⟨wc.heap.size, i, none⟩) (by simp only [World.size_alloc, drewSize]; omega))
               | (have bD' : Below wc.heap.size wc wD := (Below.refl _ wc).drew.trans bD
                  have sD : wc.heap.size ≤ wD.heap.size := bD'.size
                  have cD := fun i => bD'.cell (p := ⟨w.heap.size, i, none⟩) (show w.heap.size < wc.heap.size by omega)
                  have c5 : ∀ (x : Obj) i, (wD.alloc x).cell? ⟨w.heap.size, i, none⟩ = wc.cell? ⟨w.heap.size, i, none⟩ := fun x i => (World.cell?_alloc_old wD x ⟨w.heap.size, i, none⟩ (by show w.heap.size ≠ wD.heap.size; omega)).trans (cD i)))
          | (refine (HTT.out _ (by first | exact bD' | exact bD'.alloc bD'.size _)).mono ?_
             rintro e wE ⟨ta, tb, tc, td, rfl, hvo, hke⟩
             first
               | (have sE : wc.heap.size + 1 ≤ wD.heap.size := sD
                  have hke' : Kept _ wD wE := hke
                  have eE := fun i => World.cell?_of_block (w := wD) (a := ⟨wc.heap.size, i, none⟩) (hke'.block wc.heap.size (by omega) (fun q => by have := (HOB.out _ q).2; omega))
                  have fE := fun i => World.frozen?_of_block (w := wD) (a := ⟨wc.heap.size, i, none⟩) (hke'.block wc.heap.size (by omega) (fun q => by have := (HOB.out _ q).2; omega)))
               | (have eE := fun i => World.cell?_of_block (a := ⟨wD.heap.size, i, none⟩) (hke.block wD.heap.size (by simp only [World.size_alloc]; omega) (fun q => by have := (HOB.out _ q).2; omega))
                  have fE := fun i => World.frozen?_of_block (a := ⟨wD.heap.size, i, none⟩) (hke.block wD.heap.size (by simp only [World.size_alloc]; omega) (fun q => by have := (HOB.out _ q).2; omega)))
               | skip))
        all_goals (go_wp2_with fail)
        all_goals go_meet
        all_goals
          have qs := hke.size
          have qd := bD'.size
          (try simp only [World.size_alloc] at qs)
        all_goals first
          | exact ⟨wE.heap.size, ta, tb, tc, td, rfl, turn_at hke (by first | exact bD' | exact bD'.alloc bD'.size _) (fun k q => (HOB.out k q).1) HM.out HG.out HW.out hsz hvo (Kept.of_below ((Below.refl wE.heap.size wE).alloc (Nat.le_refl _) _)) (fun k q => by have := (hvo.blk q).2; omega) (by omega) (by simp) (box_new wE _ _ _ _ _)⟩
          | (have zb := (box_new wD (.slice none 0 0) (.slice none 0 0) (.int .i64 0) (.int .i64 0) 26).kept hke (by simp) (fun q => by have := (HOB.out _ q).2; omega)
             exact ⟨wD.heap.size, ta, tb, tc, td, rfl, turn_at hke (by first | exact bD' | exact bD'.alloc bD'.size _) (fun k q => (HOB.out k q).1) HM.out HG.out HW.out hsz hvo (kept_sets4 wE wD.heap.size (.slice ta T.r tc) (.slice tb T.s td) (.int .i64 T.o) (.int .i64 T.n)) (hvo.apart zb.1) (by omega) (by simp [World.setCell]; omega) (box_sets4 zb (.slice ta T.r tc) (.slice tb T.s td) (.int .i64 T.o) (.int .i64 T.n))⟩)
          | (have zb := ((box_new wc.drew (.slice none 0 0) (.slice none 0 0) (.int .i64 0) (.int .i64 0) 26).below bD (by simp)).kept hke (by rw [drewSize]; omega) (fun q => by have := (HOB.out _ q).2; rw [drewSize] at this; omega)
             exact ⟨wc.heap.size, ta, tb, tc, td, rfl, turn_at hke (by first | exact bD' | exact bD'.alloc bD'.size _) (fun k q => (HOB.out k q).1) HM.out HG.out HW.out hsz hvo (kept_sets4 wE wc.heap.size (.slice ta T.r tc) (.slice tb T.s td) (.int .i64 T.o) (.int .i64 T.n)) (hvo.apart zb.1) (by omega) (by simp [World.setCell]; omega) (box_sets4 zb (.slice ta T.r tc) (.slice tb T.s td) (.int .i64 T.o) (.int .i64 T.n))⟩)
      case rest =>
        obtain ⟨P, ta, tb, tc, td, rfl, q1, qX, hbx, hvo, hm, hg, hbw⟩ := hcut
        have VO := hide hvo
        have BX := hide hbx
        have HM2 := hide hm
        have HG2 := hide hg
        have HW2 := hide hbw
        obtain ⟨x0, x1, x2, x3⟩ := hbx
        clear hvo hm hg hbw c0 c0' p0 p1 p2 p3 HTT HN
        go_wp2_with fail
        refine (viewOk _ ta tb T.r T.s tc td T.D T.S T.o T.n _ (Nat.le_refl _) VO.out.d.ints VO.out.t.ints hTr hTs).mono ?_
        rintro e w6 ⟨rfl, b6⟩
        have BX6 := hide (BX.out.below b6 qX)
        have HM6 := hide (HM2.out.below b6 (by omega))
        have HG6 := hide (HG2.out.below b6 (by omega))
        have VO6 := hide (VO.out.below b6)
        have HW6 := hide (HW2.out.trans (b6.mono HW2.out.size))
        clear b6 x0 x1 x2 x3
        obtain ⟨x0, x1, x2, x3⟩ := BX6.out
        obtain ⟨y0, y1, y2, y3⟩ := HM6.out
        have gg := HG6.out
        unfold Free at gg
        cases hTv : vok T.r T.s T.D T.S T.o T.n with
        | false =>
          have eo := hide (show T.orZero = PV.zero by unfold PV.orZero PV.ok; rw [hTv]; simp)
          clear hTv
          go_wp2_with fail
          refine bodyPost_ret (v := .agg #[.slice none 0 0, .slice none 0 0, .int .i64 0, .int .i64 0]) (by simp [results, Try.results29, go_sem, y0, y1, y2, y3]) rfl (by
            rw [ez.out, eo.out]
            refine viewR_zero ?_
            repeat (refine Below.setCell ?_ (by simp) _)
            exact HW6.out)
        | true =>
          have eo := hide (show T.orZero = T by unfold PV.orZero PV.ok; rw [hTv]; simp)
          clear hTv
          go_wp2_with fail
          refine bodyPost_ret (v := .agg #[.slice ta T.r tc, .slice tb T.s td, .int .i64 T.o, .int .i64 T.n]) (by simp [results, Try.results29, go_sem, y0, y1, y2, y3]) rfl (by
            rw [ez.out, eo.out]
            have k4 := kept_sets4 w6 (w.heap.size + 1) (.slice ta T.r tc) (.slice tb T.s td) (.int .i64 T.o) (.int .i64 T.n)
            exact ⟨ta, tb, tc, td, rfl, (VO6.out.kept k4 (fun k q e => by have := (VO6.out.blk q).1; have e : k = w.heap.size + 1 := e; omega)).mono (by omega), HW6.out.trans (k4.below HW6.out.size (fun j e => by have e : j = w.heap.size + 1 := e; omega))⟩)
end Vo
end Go.Proofs.Ytejfodkobfdelaa

/- Look of the program, whatever the view's lists are. -/
namespace Go.Proofs.Ytejfodkobfdelaa
namespace Vo
open Go.ChangeShapes Go.WideShapes Go.ChangeAt Go.RowKit Go.Joins Go.Sort
open Vl Vp Vr
set_option linter.unusedVariables false
set_option linter.unusedSimpArgs false
set_option maxRecDepth 100000 in
set_option maxHeartbeats 2000000 in
theorem spreadTurnN (r s q : Nat) (D S E : Nat → Int) (o n : Int) (C B : Nat) (ia : Option Addr) (ica : Nat) (va vb : Value) (W : World) (hV : VOk r s D S o n) (ra : RowV C W va r D) (rb : RowV C W vb s S) (hi : Ints B W ia q E) (hC : C ≤ W.heap.size) (hq : (q : Int) ≤ 1048576) (hna : ia = none → q = 0) :
    Calls Try.prog 73 #[.agg #[va, vb, .int .i64 o, .int .i64 n], .slice ia q ica] W fun e W' => TurnR C (sprV r q D S E o n) va vb W e W' := by
  obtain ⟨aa, ac, rfl, oa⟩ := ra.own
  obtain ⟨ab, ad, rfl, ob⟩ := rb.own
  obtain rfl := hV.2.1
  have r6 : s ≤ 6 := (dok_iff.1 hV.1).1
  obtain ⟨W0, hW0⟩ : ∃ W0, (W.alloc (.cells #[.slice aa s ac, .slice ab s ad, .int .i64 o, .int .i64 n] 26)).alloc (.cells #[.slice none 0 0, .slice none 0 0, .int .i64 0, .int .i64 0] 26) = W0 := ⟨_, rfl⟩
  have hs0 : W0.heap.size = W.heap.size + 1 + 1 := by rw [← hW0]; simp
  have bl : Below W.heap.size W W0 := by rw [← hW0]; exact ((Below.refl _ _).alloc (Nat.le_refl _) _).alloc (by simp) _
  have n0 : Box W0 W.heap.size (.slice aa s ac) (.slice ab s ad) (.int .i64 o) (.int .i64 n) := by
    rw [← hW0]; exact (box_new W (.slice aa s ac) (.slice ab s ad) (.int .i64 o) (.int .i64 n) 26).below ((Below.refl (W.heap.size + 1) _).alloc (by simp) _) (by omega)
  have f0 : Free W0 W.heap.size := by
    rw [← hW0]; exact (free_new W #[.slice aa s ac, .slice ab s ad, .int .i64 o, .int .i64 n] 26).below ((Below.refl (W.heap.size + 1) _).alloc (by simp) _) (by omega)
  have m0 : Box W0 (W.heap.size + 1) (.slice none 0 0) (.slice none 0 0) (.int .i64 0) (.int .i64 0) := by
    have q := box_new (W.alloc (.cells #[.slice aa s ac, .slice ab s ad, .int .i64 o, .int .i64 n] 26)) (.slice none 0 0) (.slice none 0 0) (.int .i64 0) (.int .i64 0) 26
    rw [World.size_alloc] at q
    rw [← hW0]; exact q
  have g0 : Free W0 (W.heap.size + 1) := by
    have q := free_new (W.alloc (.cells #[.slice aa s ac, .slice ab s ad, .int .i64 o, .int .i64 n] 26)) #[.slice none 0 0, .slice none 0 0, .int .i64 0, .int .i64 0] 26
    rw [World.size_alloc] at q
    rw [← hW0]; exact q
  have HI := hide ((ints_here2 hi).below bl)
  have OA := hide (oa.ints.below bl)
  have OBB := hide (ob.ints.below bl)
  have BL := hide bl
  have N0 := hide n0
  have F0 := hide f0
  have M0 := hide m0
  have G0 := hide g0
  have HS0 := hide hs0
  have HV := hide hV
  have HNA := hide hna
  obtain ⟨x0, x1, x2, x3⟩ := n0
  obtain ⟨y0, y1, y2, y3⟩ := m0
  have gg := g0
  unfold Free at gg
  clear hi bl f0 g0 hs0 hV oa ob ra rb hna
  have CD := hide (Vs.dimsOk W.heap.size ia q ica E W0 HI.out hq)
  cases hd : dok q E with
  | false =>
    rw [hd] at CD
    have ez := hide (sprV_no (r := s) (q := q) (D := D) (S := S) (E := E) (o := o) (n := n) (fun h => by have := h.1; rw [hd] at this; exact absurd this (by decide)))
    clear hd
    go_enter Try.func73, Try.ntmps73
    go_wp2_with fail
    clear hW0
    refine CD.out.mono ?_
    rintro e w1 ⟨rfl, hw⟩
    have hw := hw.symm
    subst hw
    go_wp2_with fail
    refine bodyPost_ret (v := .agg #[.slice none 0 0, .slice none 0 0, .int .i64 0, .int .i64 0]) (by simp [results, Try.results73, go_sem, y0, y1, y2, y3]) rfl (by
      rw [ez.out]
      refine turnR_zero (Kept.of_below ?_)
      repeat (refine Below.setCell ?_ (by simp) _)
      exact BL.out)
  | true =>
  rw [hd] at CD
  have HD := hide hd
  clear hd
  by_cases hrq : s ≤ q
  rotate_left
  · have ez := hide (sprV_no (r := s) (q := q) (D := D) (S := S) (E := E) (o := o) (n := n) (fun h => hrq h.2.1))
    have e1 : IntKind.i64.wrap ((q : Int) - (s : Int)) = (q : Int) - s := by rw [IntKind.wrap_i64]; omega
    have e2 : decide ((q : Int) - s < 0) = true := decide_eq_true (by omega)
    clear hrq
    go_enter Try.func73, Try.ntmps73
    go_wp2_with fail
    clear hW0
    refine CD.out.mono ?_
    rintro e w1 ⟨rfl, hw⟩
    have hw := hw.symm
    subst hw
    go_wp2_with fail
    refine bodyPost_ret (v := .agg #[.slice none 0 0, .slice none 0 0, .int .i64 0, .int .i64 0]) (by simp [results, Try.results73, go_sem, y0, y1, y2, y3]) rfl (by
      rw [ez.out]
      refine turnR_zero (Kept.of_below ?_)
      repeat (refine Below.setCell ?_ (by simp) _)
      exact BL.out)
  obtain ⟨ah, hah⟩ : ∃ ah : Nat, q - s = ah := ⟨_, rfl⟩
  have e1 : IntKind.i64.wrap ((q : Int) - (s : Int)) = (ah : Int) := by rw [IntKind.wrap_i64]; omega
  have e2 : decide ((ah : Int) < 0) = false := decide_eq_false (by omega)
  have q6 : q ≤ 6 := (dok_iff.1 HD.out).1
  have hmk := make_int q (by omega)
  obtain ⟨W1, hW1⟩ : ∃ W1, W0.alloc (.cells (madeCells #[.int .i64 0] q) 3) = W1 := ⟨_, rfl⟩
  have z1 : W1.heap.size = W0.heap.size + 1 := by rw [← hW1]; simp
  have b1 : Below W0.heap.size W0 W1 := by rw [← hW1]; exact (Below.refl _ _).alloc (Nat.le_refl _) _
  have rg : Rw W1 W0.heap.size q (fun _ => 0) := by rw [← hW1]; exact rw_new W0 q 3
  have Z1 := hide z1
  have RG := hide rg
  have zz := HS0.out
  have N1 := hide (N0.out.below b1 (by omega))
  have F1 := hide (F0.out.below b1 (by omega))
  have M1 := hide (M0.out.below b1 (by omega))
  have G1 := hide (G0.out.below b1 (by omega))
  have HI1 := hide (HI.out.below (b1.mono (by omega)))
  have OA1 := hide (OA.out.below (b1.mono (by omega)))
  have OB1 := hide (OBB.out.below (b1.mono (by omega)))
  have B1 := hide (BL.out.trans (b1.mono BL.out.size))
  have AH := hide hah
  obtain ⟨p0, p1, p2, p3⟩ := N1.out
  clear b1 rg zz z1 y0 y1 y2 y3 gg hah
  go_enter Try.func73, Try.ntmps73
  go_wp2_with fail
  clear hW0
  refine CD.out.mono ?_
  rintro e w1 ⟨rfl, hw⟩
  have hw := hw.symm
  subst hw
  go_wp2_with fail
  clear hW1 e1 e2 x0 x1 x2 x3
  go_loopw [29] (fun i wx => ∃ t : Nat, t ≤ s ∧ i = .int .i64 t ∧ Rw wx W0.heap.size q (sprS s q D S E t) ∧ Kept (· = W0.heap.size) W1 wx ∧ ∀ j, j < t → D j = E (ah + j) ∨ D j = 1) (fun i _ => s - (intOf i).toNat)
  case atStart => exact ⟨0, Nat.zero_le _, rfl, RG.out.same (fun t ht => sprS_zero _ _ _ _ _ _), Kept.refl _ _, fun j hj => by omega⟩
  case round =>
    obtain ⟨X, rfl⟩ : ∃ X, X = wr := ⟨_, rfl⟩
    obtain ⟨t, ht, rfl, hrw, hkp, hall⟩ := hrel
    have HRW := hide hrw
    have HKP := hide hkp
    have HALL := hide hall
    have zz := HS0.out
    have zz1 := Z1.out
    have sX : W1.heap.size ≤ X.heap.size := hkp.size
    have NX := hide (N1.out.kept hkp (by omega) (by show ¬ W.heap.size = W0.heap.size; omega))
    have MX := hide (M1.out.kept hkp (by omega) (by show ¬ W.heap.size + 1 = W0.heap.size; omega))
    have FX := hide (F1.out.kept hkp (by omega) (by show ¬ W.heap.size = W0.heap.size; omega))
    have GX := hide (G1.out.kept hkp (by omega) (by show ¬ W.heap.size + 1 = W0.heap.size; omega))
    have HIX := hide (HI1.out.kept (by omega) hkp (fun y hy e => by have e : y = W0.heap.size := e; omega))
    have OAX := hide (OA1.out.kept (by omega) hkp (fun y hy e => by have e : y = W0.heap.size := e; omega))
    have OBX := hide (OB1.out.kept (by omega) hkp (fun y hy e => by have e : y = W0.heap.size := e; omega))
    have BX := hide (B1.out.trans (hkp.below B1.out.size (fun j e => by have e : j = W0.heap.size := e; omega)))
    clear hrw hkp hall p0 p1 p2 p3
    obtain ⟨p0, p1, p2, p3⟩ := NX.out
    by_cases hlt : t < s
    · have tI : (t : Int) < s := by omega
      have tq : ah + t < q := by have := AH.out; omega
      have tqI : (ah : Int) + t < q := by omega
      have e3 : IntKind.i64.wrap ((ah : Int) + (t : Int)) = ((ah + t : Nat) : Int) := by rw [IntKind.wrap_i64]; omega
      have e4 : ((ah + t : Nat) : Int) < q := by omega
      rcases OAX.out with h0 | ⟨ba, oa, rfl, hba, hca⟩
      · omega
      rcases OBX.out with h0 | ⟨bb, ob, rfl, hbb, hcb⟩
      · omega
      rcases HIX.out with h0 | ⟨bi, oi, rfl, hbi, hci⟩
      · omega
      have ca := (hca t hlt).1
      have cb := (hcb t hlt).1
      have ci := (hci (ah + t) tq).1
      have BS := hide (hcb t hlt).2
      obtain ⟨cg, fg, _⟩ := HRW.out (ah + t) tq
      clear hca hcb hci hba hbb hbi zz zz1
      by_cases d1 : D t = E (ah + t)
      · have d1' : (D t == E (ah + t)) = true := beq_iff_eq.2 d1
        have D1 := hide d1
        clear d1
        go_wp2_with fail
        go_roundw
        case rel => exact ⟨t + 1, by omega, by go_num, (HRW.out.set (ah + t) (S t) BS.out).same (fun j hj => by
          have a' := AH.out
          by_cases c : j = ah + t
          · subst c
            have := sprS_at (r := s) (q := q) (D := D) (S := S) (E := E) t (by rw [a']; exact D1.out)
            rw [a'] at this
            rw [this]; simp
          · rw [sprS_ne t (by rw [a']; exact c)]; simp [c]), HKP.out.trans (Kept.setCell _ ⟨W0.heap.size, ah + t, none⟩ _), fun j hj => by
            by_cases c : j = t
            · subst c; exact .inl D1.out
            · exact HALL.out j (by omega)⟩
        case measure => simp [intOf]; omega
      · have d1' : (D t == E (ah + t)) = false := beq_eq_false_iff_ne.2 d1
        have D1 := hide d1
        by_cases d2 : D t = 1
        · have d2' : (D t != 1) = false := by rw [bne_eq_false_iff_eq]; exact d2
          have D2 := hide d2
          clear d1 d2
          go_wp2_with fail
          go_roundw
          case rel => exact ⟨t + 1, by omega, by go_num, HRW.out.same (fun j hj => sprS_no t (by rw [AH.out]; exact D1.out) j), HKP.out, fun j hj => by
            by_cases c : j = t
            · subst c; exact .inr D2.out
            · exact HALL.out j (by omega)⟩
          case measure => simp [intOf]; omega
        · have d2' : (D t != 1) = true := by rw [bne_iff_ne]; exact d2
          have ez := hide (sprV_no (r := s) (q := q) (D := D) (S := S) (E := E) (o := o) (n := n) (fun h => by rcases h.2.2 t hlt with e | e; rw [AH.out] at e; exact d1 e; exact d2 e))
          obtain ⟨y0, y1, y2, y3⟩ := MX.out
          have gg := GX.out
          unfold Free at gg
          clear d1 d2
          go_wp2_with fail
          refine bodyPost_ret (v := .agg #[.slice none 0 0, .slice none 0 0, .int .i64 0, .int .i64 0]) (by simp [results, Try.results73, go_sem, y0, y1, y2, y3]) rfl (by
            rw [ez.out]
            refine turnR_zero (Kept.of_below ?_)
            repeat (refine Below.setCell ?_ (by simp) _)
            exact BX.out)
    · obtain rfl : t = s := by omega
      have ez := hide (sprV_yes (r := t) (q := q) (D := D) (S := S) (E := E) (o := o) (n := n) ⟨HD.out, hrq, fun j hj => by rw [AH.out]; exact HALL.out j hj⟩)
      go_wp2_with fail
      refine (cloneN W.heap.size ia q ica E _ HIX.out (by omega) hq HNA.out).mono ?_
      rintro e X1 ⟨v, rfl, rv, b2⟩
      obtain ⟨ca, cc, rfl, ov⟩ := rv.own
      have sX1 : X.heap.size ≤ X1.heap.size := b2.size
      have N2 := hide (NX.out.below b2 (by omega))
      have F2 := hide (FX.out.below b2 (by omega))
      have M2 := hide (MX.out.below b2 (by omega))
      have G2 := hide (GX.out.below b2 (by omega))
      have R2 := hide (HRW.out.below b2 (by omega))
      have OV := hide ov
      have B2 := hide (BX.out.trans (b2.mono BX.out.size))
      clear rv b2 ov p0 p1 p2 p3
      obtain ⟨p0, p1, p2, p3⟩ := N2.out
      obtain ⟨y0, y1, y2, y3⟩ := M2.out
      have ff := F2.out
      have gg := G2.out
      unfold Free at ff gg
      have ne : ¬ (W.heap.size + 1 = W.heap.size) := by omega
      have ne' : ¬ (W.heap.size = W.heap.size + 1) := by omega
      have zz2 := hide (show W0.heap.size = W.heap.size + 1 + 1 ∧ W0.heap.size < X.heap.size from ⟨zz, by omega⟩)
      clear zz zz1
      go_wp2_with fail
      refine bodyPost_ret (v := .agg #[.slice ca q cc, .slice (some ⟨W0.heap.size, 0, none⟩) q q, .int .i64 o, .int .i64 n]) (by simp [results, Try.results73, go_sem, y0, y1, y2, y3]) rfl ?_
      have zs := zz2.out
      have k2 : Kept (· = W.heap.size) X1 ((X1.setCell ⟨W.heap.size, 0, none⟩ (.slice ca q cc)).setCell ⟨W.heap.size, 1, none⟩ (.slice (some ⟨W0.heap.size, 0, none⟩) q q)) := (Kept.setCell X1 ⟨W.heap.size, 0, none⟩ _).trans (Kept.setCell _ ⟨W.heap.size, 1, none⟩ _)
      have k4 := kept_sets4 ((X1.setCell ⟨W.heap.size, 0, none⟩ (.slice ca q cc)).setCell ⟨W.heap.size, 1, none⟩ (.slice (some ⟨W0.heap.size, 0, none⟩) q q)) (W.heap.size + 1) (.slice ca q cc) (.slice (some ⟨W0.heap.size, 0, none⟩) q q) (.int .i64 o) (.int .i64 n)
      have bz := (B2.out.trans (k2.below B2.out.size (fun j e => by have e : j = W.heap.size := e; omega)))
      have bz := bz.trans (k4.below bz.size (fun j e => by have e : j = W.heap.size + 1 := e; omega))
      show TurnR C (sprV t q D S E o n) (Value.slice aa t ac) (Value.slice ab t ad) W _ _
      rw [ez.out]
      refine ⟨ca, some ⟨W0.heap.size, 0, none⟩, cc, q, rfl, ?_, Kept.of_below bz⟩
      have rS := (R2.out.kept k2 (by show ¬ W0.heap.size = W.heap.size; omega)).kept k4 (by show ¬ W0.heap.size = W.heap.size + 1; omega)
      rcases OV.out with h0 | ⟨g, rfl, hg, rwg⟩
      · exact ⟨.inl h0, .inl h0, fun k q1 q2 => absurd h0 q1.1⟩
      · exact vown_of ((rwg.kept k2 (by show ¬ g = W.heap.size; omega)).kept k4 (by show ¬ g = W.heap.size + 1; omega)) rS (by omega) (by omega) (by omega)
theorem spreadG (B : Nat) (a b c : Option Addr) (r s q cap dap cap' : Nat) (D S E : Nat → Int) (o n : Int) (w : World) (hB : B ≤ w.heap.size) (h : Ints B w a r D) (h' : Ints B w b s S) (hI : Ints B w c q E) (hr : (r : Int) ≤ 1048576) (hs : (s : Int) ≤ 1048576) (hq : (q : Int) ≤ 1048576) (hna : a = none → r = 0) (hnb : b = none → s = 0) (hnc : c = none → q = 0) :
    Calls Try.prog 67 #[.agg #[.slice a r cap, .slice b s dap, .int .i64 o, .int .i64 n], .slice c q cap'] w fun e w' => ViewR w.heap.size (turnedV r s D S o n (sprV r q D S E o n)) w e w' := by
  obtain ⟨W0, hW0⟩ : ∃ W0, (w.alloc (.cells #[.slice a r cap, .slice b s dap, .int .i64 o, .int .i64 n] 26)).alloc (.cells #[.slice none 0 0, .slice none 0 0, .int .i64 0, .int .i64 0] 26) = W0 := ⟨_, rfl⟩
  have hs0 : W0.heap.size = w.heap.size + 1 + 1 := by rw [← hW0]; simp
  have bl : Below w.heap.size w W0 := by rw [← hW0]; exact ((Below.refl _ _).alloc (Nat.le_refl _) _).alloc (by simp) _
  have n0 : Box W0 w.heap.size (.slice a r cap) (.slice b s dap) (.int .i64 o) (.int .i64 n) := by
    rw [← hW0]; exact (box_new w (.slice a r cap) (.slice b s dap) (.int .i64 o) (.int .i64 n) 26).below ((Below.refl (w.heap.size + 1) _).alloc (by simp) _) (by omega)
  obtain ⟨x0, x1, x2, x3⟩ := n0
  have m0 : Box W0 (w.heap.size + 1) (.slice none 0 0) (.slice none 0 0) (.int .i64 0) (.int .i64 0) := by
    have q := box_new (w.alloc (.cells #[.slice a r cap, .slice b s dap, .int .i64 o, .int .i64 n] 26)) (.slice none 0 0) (.slice none 0 0) (.int .i64 0) (.int .i64 0) 26
    rw [World.size_alloc] at q
    rw [← hW0]; exact q
  have g0 : Free W0 (w.heap.size + 1) := by
    have q := free_new (w.alloc (.cells #[.slice a r cap, .slice b s dap, .int .i64 o, .int .i64 n] 26)) #[.slice none 0 0, .slice none 0 0, .int .i64 0, .int .i64 0] 26
    rw [World.size_alloc] at q
    rw [← hW0]; exact q
  have H := hide (h.below (bl.mono hB))
  have H' := hide (h'.below (bl.mono hB))
  have HI := hide (hI.below (bl.mono hB))
  have l1 := (sprV_le r q D S E o n).1
  have l2 := (sprV_le r q D S E o n).2
  have CT := hide (turnedN ⟨#[115, 112, 114, 101, 97, 100]⟩ 73 (sprV r q D S E o n) (enters_of Try.func73 (by kernel_rfl) rfl) spreadNamed W0.heap.size a b c r s q cap dap cap' D S E o n W0 (Nat.le_refl _) (H.out.mono (by omega)) (H'.out.mono (by omega)) (HI.out.mono (by omega)) hr hs hna hnb (by omega) (by omega)
    (fun va vb W v ra rb hne hi hsz => spreadTurnN r s q D S E o n _ _ c cap' va vb W v ra rb hi hsz hq hnc))
  have BL := hide bl
  have M0 := hide m0
  have G0 := hide g0
  have HS0 := hide hs0
  clear h h' hI m0 g0 bl hs0 l1 l2
  go_enter Try.func67, Try.ntmps67
  go_wp2_with fail
  refine CT.out.mono ?_
  rintro e w1 ⟨ta, tb, tc, td, rfl, hvo, b1⟩
  obtain ⟨T, hTT⟩ : ∃ T, turnedV r s D S o n (sprV r q D S E o n) = T := ⟨_, rfl⟩
  rw [hTT] at hvo ⊢
  have zz := HS0.out
  have M1 := hide (M0.out.below b1 (by omega))
  have G1 := hide (G0.out.below b1 (by omega))
  have B1 := hide (BL.out.trans (b1.mono BL.out.size))
  have VO := hide hvo
  have HTT := hide hTT
  clear hvo b1 zz hW0 CT hTT x0 x1 x2 x3
  obtain ⟨y0, y1, y2, y3⟩ := M1.out
  have gg := G1.out
  unfold Free at gg
  go_wp2_with fail
  refine bodyPost_ret (v := .agg #[.slice ta T.r tc, .slice tb T.s td, .int .i64 T.o, .int .i64 T.n]) (by simp [results, Try.results67, go_sem, y0, y1, y2, y3]) rfl ?_
  have zz := HS0.out
  have k4 := kept_sets4 w1 (w.heap.size + 1) (.slice ta T.r tc) (.slice tb T.s td) (.int .i64 T.o) (.int .i64 T.n)
  show ViewR w.heap.size (turnedV r s D S o n (sprV r q D S E o n)) w _ _
  rw [HTT.out]
  exact ⟨ta, tb, tc, td, rfl, (VO.out.kept k4 (fun k q e => by have := (VO.out.blk q).1; have e : k = w.heap.size + 1 := e; omega)).mono (B' := w.heap.size) (by omega), B1.out.trans (k4.below B1.out.size (fun j e => by have e : j = w.heap.size + 1 := e; omega))⟩
set_option maxHeartbeats 1000000 in
set_option maxRecDepth 100000 in
set_option maxHeartbeats 2000000 in
theorem lookG (B : Nat) (a b : Option Addr) (c d : Option Addr) (r s cap dap q u cap' dap' : Nat) (D S E T : Nat → Int) (o n : Int) (w : World) (hB : B ≤ w.heap.size) (h : Ints B w a r D) (h' : Ints B w b s S) (hv : Ints B w c q E) (hv' : Ints B w d u T) (hr : (r : Int) ≤ 1048576) (hs : (s : Int) ≤ 1048576) (hq : (q : Int) ≤ 1048576) (hu : (u : Int) ≤ 1048576) (hcn : c = none → q = 0) :
    Calls Try.prog 66 #[.agg #[.slice a r cap, .slice b s dap], .agg #[.slice c q cap', .slice d u dap', .int .i64 o, .int .i64 n]] w fun e w' => TensR w.heap.size (lookP r s D S q u E T o n) w e w' := by
  obtain ⟨W0, hW0⟩ : ∃ W0, ((w.alloc (.cells #[.slice a r cap, .slice b s dap] 38)).alloc (.cells #[.slice c q cap', .slice d u dap', .int .i64 o, .int .i64 n] 26)).alloc (.cells #[.slice none 0 0, .slice none 0 0] 38) = W0 := ⟨_, rfl⟩
  have hs0 : W0.heap.size = w.heap.size + 1 + 1 + 1 := by rw [← hW0]; simp
  have bl : Below w.heap.size w W0 := by rw [← hW0]; exact (((Below.refl _ _).alloc (Nat.le_refl _) _).alloc (by simp) _).alloc (by simp; omega) _
  have n0 : Bx W0 w.heap.size (.slice a r cap) (.slice b s dap) := by
    rw [← hW0]; exact (bx_new w (.slice a r cap) (.slice b s dap) 38).below (((Below.refl (w.heap.size + 1) _).alloc (by simp) _).alloc (by simp) _) (by omega)
  have v0 : Box W0 (w.heap.size + 1) (.slice c q cap') (.slice d u dap') (.int .i64 o) (.int .i64 n) := by
    have q := (box_new (w.alloc (.cells #[.slice a r cap, .slice b s dap] 38)) (.slice c q cap') (.slice d u dap') (.int .i64 o) (.int .i64 n) 26)
    rw [World.size_alloc] at q
    rw [← hW0]; exact q.below ((Below.refl (w.heap.size + 1 + 1) _).alloc (by simp) _) (by omega)
  have m0 : Bx W0 (w.heap.size + 1 + 1) (.slice none 0 0) (.slice none 0 0) := by
    have q := bx_new ((w.alloc (.cells #[.slice a r cap, .slice b s dap] 38)).alloc (.cells #[.slice c q cap', .slice d u dap', .int .i64 o, .int .i64 n] 26)) (.slice none 0 0) (.slice none 0 0) 38
    rw [World.size_alloc, World.size_alloc] at q
    rw [← hW0]; exact q
  have g0 : Free W0 (w.heap.size + 1 + 1) := by
    have q := free_new ((w.alloc (.cells #[.slice a r cap, .slice b s dap] 38)).alloc (.cells #[.slice c q cap', .slice d u dap', .int .i64 o, .int .i64 n] 26)) #[.slice none 0 0, .slice none 0 0] 38
    rw [World.size_alloc, World.size_alloc] at q
    rw [← hW0]; exact q
  have H := hide (h.below (bl.mono hB))
  have H' := hide (h'.below (bl.mono hB))
  have HV := hide (hv.below (bl.mono hB))
  have HV' := hide (hv'.below (bl.mono hB))
  have BL := hide bl
  have HS0 := hide hs0
  have N0 := hide n0
  have V0 := hide v0
  have M0 := hide m0
  have G0 := hide g0
  obtain ⟨x0, x1⟩ := n0
  clear h h' hv hv' bl v0 m0 g0 hs0
  go_enter Try.func66, Try.ntmps66
  go_wp2_with fail
  clear hW0
  refine (tensorOk B a b r s cap dap D S _ (by have := HS0.out; omega) H.out H'.out hr hs).mono ?_
  rintro e w1 ⟨rfl, b1⟩
  have z0 := HS0.out
  have N1 := hide (N0.out.below b1 (by omega))
  have V1 := hide (V0.out.below b1 (by omega))
  have M1 := hide (M0.out.below b1 (by omega))
  have G1 := hide (G0.out.below b1 (by omega))
  have B1 := hide (BL.out.trans (b1.mono BL.out.size))
  have H1' := hide (H'.out.below (b1.mono (by omega)))
  have HV1 := hide (HV.out.below (b1.mono (by omega)))
  have HV1' := hide (HV'.out.below (b1.mono (by omega)))
  have s1 : w.heap.size + 1 + 1 < w1.heap.size := by have := b1.size; omega
  clear b1 x0 x1 z0
  cases ht : tok r s D S with
  | false =>
    obtain ⟨y0, y1⟩ := M1.out
    have gg := G1.out
    unfold Free at gg
    have ez := hide (lookP_no (q := q) (u := u) (E := E) (T := T) (o := o) (n := n) (fun q => by rw [ht] at q; exact absurd q.1 (by decide)))
    clear ht
    go_wp2_with fail
    refine bodyPost_ret (v := .agg #[.slice none 0 0, .slice none 0 0]) (by simp [results, Try.results66, go_sem, y0, y1]) rfl (by
      rw [ez.out]
      refine tensR_zero ?_
      repeat (refine Below.setCell ?_ (by simp; omega) _)
      exact B1.out)
  | true =>
  have HT := hide ht
  clear ht
  obtain ⟨v0, v1, v2, v3⟩ := V1.out
  go_wp2_with fail
  refine (viewOk B c d q u cap' dap' E T o n _ (by omega) HV1.out HV1'.out hq hu).mono ?_
  rintro e w2 ⟨rfl, b2⟩
  have N2 := hide (N1.out.below b2 (by omega))
  have V2 := hide (V1.out.below b2 (by omega))
  have M2 := hide (M1.out.below b2 (by omega))
  have G2 := hide (G1.out.below b2 (by omega))
  have B2 := hide (B1.out.trans (b2.mono B1.out.size))
  have H2' := hide (H1'.out.below (b2.mono (by omega)))
  have HV2 := hide (HV1.out.below (b2.mono (by omega)))
  have HV2' := hide (HV1'.out.below (b2.mono (by omega)))
  have s2 : w1.heap.size ≤ w2.heap.size := b2.size
  clear b2 v0 v1 v2 v3
  obtain ⟨y0, y1⟩ := M2.out
  have gg := G2.out
  unfold Free at gg
  obtain ⟨x0, x1⟩ := N2.out
  obtain ⟨v0, v1, v2, v3⟩ := V2.out
  cases hv : vok q u E T o n with
  | false =>
    have ez := hide (lookP_no (r := r) (s := s) (D := D) (S := S) (q := q) (u := u) (E := E) (T := T) (o := o) (n := n) (fun q => by rw [hv] at q; exact absurd q.2.1 (by decide)))
    clear hv
    go_wp2_with fail
    refine bodyPost_ret (v := .agg #[.slice none 0 0, .slice none 0 0]) (by simp [results, Try.results66, go_sem, y0, y1]) rfl (by
      rw [ez.out]
      refine tensR_zero ?_
      repeat (refine Below.setCell ?_ (by simp; omega) _)
      exact B2.out)
  | true =>
  by_cases hn : n = s
  rotate_left
  · have hn' : (n != (s : Int)) = true := bne_iff_ne.2 hn
    have ez := hide (lookP_no (r := r) (s := s) (D := D) (S := S) (q := q) (u := u) (E := E) (T := T) (o := o) (n := n) (fun q => hn q.2.2))
    clear hv hn
    go_wp2_with fail
    refine bodyPost_ret (v := .agg #[.slice none 0 0, .slice none 0 0]) (by simp [results, Try.results66, go_sem, y0, y1]) rfl (by
      rw [ez.out]
      refine tensR_zero ?_
      repeat (refine Below.setCell ?_ (by simp; omega) _)
      exact B2.out)
  have hn' : (n != (s : Int)) = false := by rw [bne_eq_false_iff_eq]; exact hn
  have ez := hide (lookP_yes ⟨HT.out, hv, hn⟩)
  have PL := hide (fun k => (vok_iff.1 hv).place k)
  have CN := hide (cntS_le q u E T o n)
  have HN := hide hn
  have PBD := hide (fun k => plcN_bd (vok_iff.1 hv) k)
  clear hv hn y0 y1 gg
  go_wp2_with fail
  refine (placesS B c d q u cap' dap' E T o n _ (by omega) HV2.out HV2'.out hq hu).mono ?_
  rintro e w3 ⟨pa, pc, rfl, po, b3⟩
  obtain ⟨N, hNN⟩ : ∃ N, cntS q u E T o n = N := ⟨_, rfl⟩
  rw [hNN] at po CN ez ⊢
  obtain ⟨W3, hW3⟩ : ∃ W3, w3.alloc (.cells #[.slice pa N pc] 22) = W3 := ⟨_, rfl⟩
  have b4 : Below w3.heap.size w3 W3 := by rw [← hW3]; exact (Below.refl _ _).alloc (Nat.le_refl _) _
  have z3 : W3.heap.size = w3.heap.size + 1 := by rw [← hW3]; simp
  have sb := b3.size
  have p3 : W3.cell? ⟨w3.heap.size, 0, none⟩ = some (.slice pa N pc) := by rw [← hW3]; simp [go_sem]
  have P3 := hide p3
  have N3 := hide ((N2.out.below b3 (by omega)).below b4 (by omega))
  have V3 := hide ((V2.out.below b3 (by omega)).below b4 (by omega))
  have M3 := hide ((M2.out.below b3 (by omega)).below b4 (by omega))
  have G3 := hide ((G2.out.below b3 (by omega)).below b4 (by omega))
  have B3 := hide ((B2.out.trans (b3.mono B2.out.size)).trans (b4.mono (by have := B2.out.size; omega)))
  have H3' := hide ((H2'.out.below (b3.mono (by omega))).below (b4.mono (by omega)))
  have HV3 := hide ((HV2.out.below (b3.mono (by omega))).below (b4.mono (by omega)))
  have PO := hide ((po.below b4).ints)
  have Z3 := hide z3
  have s3 : w.heap.size + 1 + 1 < w3.heap.size := by omega
  clear b3 b4 po z3 sb x0 x1 v0 v1 v2 v3
  obtain ⟨x0, x1⟩ := N3.out
  obtain ⟨v0, v1, v2, v3⟩ := V3.out
  go_wp2_with fail
  clear hW3
  refine (elementwise2 N 87 (.pointer (some ⟨w.heap.size, 0, none⟩)) (.pointer (some ⟨w3.heap.size, 0, none⟩)) (fun j => S (plcN E T q o j).toNat) _ (by have := CN.out; omega) (fun k hk => H3'.out.bd _ (by have := PL.out k; have := HN.out; unfold plcN; omega)) (enters_of Try.func87 (by kernel_rfl) rfl) (fun k W hk hW => lookPiece a b pa r s cap dap N pc k w3.heap.size w.heap.size S (plcN E T q o) W3.heap.size W (N3.out.below hW (by have := Z3.out; omega)) ((hW.cell (p := ⟨w3.heap.size, 0, none⟩) (by have := Z3.out; show w3.heap.size < W3.heap.size; omega)).trans P3.out) ((H3'.out.mono (by have := Z3.out; omega)).below hW) (PO.out.below hW) hk (by have := PL.out k; have := HN.out; unfold plcN; omega) (by have := CN.out; omega))).mono ?_
  rintro e w4 ⟨rfl, r4, s4, b4⟩
  have z3 := Z3.out
  have R4 := hide r4
  have V4 := hide (V3.out.below b4 (by omega))
  have M4 := hide (M3.out.below b4 (by omega))
  have G4 := hide (G3.out.below b4 (by omega))
  have B4 := hide (B3.out.trans (b4.mono B3.out.size))
  have HV4 := hide (HV3.out.below (b4.mono (by omega)))
  have sW : w.heap.size + 1 + 1 < W3.heap.size := by omega
  clear r4 b4 x0 x1 v0 v1 v2 v3 p3 z3
  obtain ⟨v0, v1, v2, v3⟩ := V4.out
  go_wp2_with fail
  refine (cloneN B c q cap' E _ HV4.out (by omega) hq hcn).mono ?_
  rintro e w5 ⟨v, rfl, rv, b5⟩
  obtain ⟨va, vc, rfl, ov⟩ := rv.own
  have M5 := hide (M4.out.below b5 (by omega))
  have G5 := hide (G4.out.below b5 (by omega))
  have B5 := hide (B4.out.trans (b5.mono B4.out.size))
  have R5 := hide (R4.out.below b5 s4)
  have OV := hide ov
  have s5 := b5.size
  clear rv b5 ov v0 v1 v2 v3
  obtain ⟨y0, y1⟩ := M5.out
  have gg := G5.out
  unfold Free at gg
  go_wp2_with fail
  refine bodyPost_ret (v := .agg #[.slice va q vc, .slice (some ⟨W3.heap.size, 0, none⟩) N N]) (by simp [results, Try.results66, go_sem, y0, y1]) rfl ?_
  show TensR w.heap.size (lookP r s D S q u E T o n) w _ _
  rw [ez.out]
  exact tens_end (v := ⟨q, N, E, fun j => S (plcN E T q o j).toNat⟩) (P := w.heap.size + 1 + 1) (B := W3.heap.size) ⟨OV.out.mono (by omega), .inr ⟨_, rfl, Nat.le_refl _, R5.out⟩, fun j q1 q2 => by
    have := (OV.out.blk q1).1
    obtain ⟨_, ad, e', e''⟩ := q2
    injection e' with e'
    subst e'
    have e'' : W3.heap.size = j := e''
    omega⟩ (by omega) (by omega) B5.out
end Vo
end Go.Proofs.Ytejfodkobfdelaa
