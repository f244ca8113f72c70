/- One on both sides. -/
import Derived.Test.YtecidmgjffndcaaTd
import Derived.Laws.EntriesVeiled
namespace Go.Proofs.Ytecidmgjffndcaa
namespace Vo
open Go.ChangeShapes Go.WideShapes Go.ChangeAt Go.RowKit Go.Joins Go.Sort
open Vl Vp Vr
set_option linter.unusedVariables false
set_option linter.unusedSimpArgs false

def oneP (op : Int) (r s : Nat) (D S : Nat → Int) : PT := if (1 ≤ op ∧ op ≤ 4) ∧ tok r s D S = true then ⟨r, s, D, fun j => one1 op (S j)⟩ else PT.zero
theorem oneP_le (op : Int) (r s : Nat) (D S : Nat → Int) : (oneP op r s D S).r ≤ r ∧ (oneP op r s D S).s ≤ s := by
  unfold oneP
  split
  · exact ⟨Nat.le_refl _, Nat.le_refl _⟩
  · exact ⟨Nat.zero_le _, Nat.zero_le _⟩
theorem oneP_no {op : Int} {r s : Nat} {D S : Nat → Int} (h : ¬ ((1 ≤ op ∧ op ≤ 4) ∧ tok r s D S = true)) : oneP op r s D S = PT.zero := by unfold oneP; rw [if_neg h]
theorem oneP_yes {op : Int} {r s : Nat} {D S : Nat → Int} (h1 : 1 ≤ op ∧ op ≤ 4) (h2 : tok r s D S = true) : oneP op r s D S = ⟨r, s, D, fun j => one1 op (S j)⟩ := by unfold oneP; rw [if_pos ⟨h1, h2⟩]
theorem tok_parts {r s : Nat} {D S : Nat → Int} (h : tok r s D S = true) : dok r D = true ∧ szR D r = (s : Int) ∧ WI s S 2147483647 := by
  unfold tok wi at h
  simp only [Bool.and_eq_true, decide_eq_true_eq] at h
  exact ⟨h.1.1, h.1.2.symm, h.2⟩
theorem one1_bd {op x : Int} (h : isN x) : bd (one1 op x) := by
  obtain ⟨h0, h1⟩ := h
  have p := Num.pw_bd (x % 2147483647) 2147483645
  unfold one1 bd
  split
  · omega
  · split
    · omega
    · split
      · omega
      · split <;> omega
theorem eql_nil (w : World) : (binOp .eql 53 .nilFunc .nilFunc).run Try.prog w = .ok (.bool true) w := by
  have h : ∀ d : Nat, (Op.equalIn (d + 1) 53 .nilFunc .nilFunc).run Try.prog w = .ok true w := fun d => by
    simp [Op.equalIn, run_underlying Try.underlying53]
  simp only [binOp]
  simp [Op.equal, Op.maxDepth, h 9999]
theorem eql_func (F : Nat) (w : World) : (binOp .eql 53 (.func (.func F) #[] #[]) .nilFunc).run Try.prog w = .ok (.bool false) w := by
  have h : ∀ d : Nat, (Op.equalIn (d + 1) 53 (.func (.func F) #[] #[]) .nilFunc).run Try.prog w = .ok false w := fun d => by
    simp [Op.equalIn, run_underlying Try.underlying53]
  simp only [binOp]
  simp [Op.equal, Op.maxDepth, h 9999]
set_option maxRecDepth 100000 in
set_option maxHeartbeats 1000000 in
theorem oneF (B : Nat) (a b : Addr) (r s cap dap : Nat) (D S : Nat → Int) (op : Int) (w : World) (hB : B ≤ w.heap.size) (h : Ints B w (some a) r D) (h' : Ints B w (some b) s S) (hr : (r : Int) ≤ 1048576) (hs : (s : Int) ≤ 1048576) :
    Calls Try.prog 27 #[.int .i64 op, .agg #[.slice (some a) r cap, .slice (some b) s dap]] w fun e w' => TensR w.heap.size (oneP op r s D S) w e w' := by
  obtain ⟨W0, hW0⟩ : ∃ W0, (w.alloc (.cells #[.slice (some a) r cap, .slice (some b) s dap] 27)).alloc (.cells #[.slice none 0 0, .slice none 0 0] 27) = W0 := ⟨_, rfl⟩
  have hs0 : W0.heap.size = w.heap.size + 1 + 1 := by rw [← hW0]; simp
  have bl : Below w.heap.size w W0 := by rw [← hW0]; exact ((Below.refl _ _).alloc (Nat.le_refl _) _).alloc (by simp) _
  have n0 : Bx W0 w.heap.size (.slice (some a) r cap) (.slice (some b) s dap) := by
    rw [← hW0]; exact (bx_new w (.slice (some a) r cap) (.slice (some b) s dap) 27).below ((Below.refl (w.heap.size + 1) _).alloc (by simp) _) (by omega)
  have m0 : Bx W0 (w.heap.size + 1) (.slice none 0 0) (.slice none 0 0) := by
    have q := bx_new (w.alloc (.cells #[.slice (some a) r cap, .slice (some b) s dap] 27)) (.slice none 0 0) (.slice none 0 0) 27
    rw [World.size_alloc] at q
    rw [← hW0]; exact q
  have g0 : Free W0 (w.heap.size + 1) := by
    have q := free_new (w.alloc (.cells #[.slice (some a) r cap, .slice (some b) s dap] 27)) #[.slice none 0 0, .slice none 0 0] 27
    rw [World.size_alloc] at q
    rw [← hW0]; exact q
  obtain ⟨v, hc, hv⟩ := oneOfV op W0
  obtain ⟨V1, hV1⟩ : ∃ V1, W0.alloc (.cells #[.nilFunc] 53) = V1 := ⟨_, rfl⟩
  have b0V : Below W0.heap.size W0 V1 := by rw [← hV1]; exact (Below.refl _ _).alloc (Nat.le_refl _) _
  have hsV : V1.heap.size = w.heap.size + 1 + 1 + 1 := by rw [← hV1]; simp [hs0]
  have cV : V1.cell? ⟨w.heap.size + 1 + 1, 0, none⟩ = some .nilFunc := by rw [← hV1, ← hs0]; simp [go_sem]
  have fV : V1.frozen? ⟨w.heap.size + 1 + 1, 0, none⟩ = false := by rw [← hV1, ← hs0]; simp [go_sem]
  obtain ⟨W1, hW1⟩ : ∃ W1, V1.setCell ⟨w.heap.size + 1 + 1, 0, none⟩ v = W1 := ⟨_, rfl⟩
  have b01 : Below W0.heap.size W0 W1 := by rw [← hW1]; exact b0V.setCell (p := ⟨w.heap.size + 1 + 1, 0, none⟩) (by show W0.heap.size ≤ w.heap.size + 1 + 1; omega) _
  have hs1 : W1.heap.size = w.heap.size + 1 + 1 + 1 := by rw [← hW1]; simp [World.setCell, hsV]
  have c1 : W1.cell? ⟨w.heap.size + 1 + 1, 0, none⟩ = some v := by rw [← hW1]; exact World.cell?_setCell_same _ _ _ cV
  have N1 := hide (n0.below b01 (by omega))
  have M1 := hide (m0.below b01 (by omega))
  have G1 := hide (g0.below b01 (by omega))
  have B1 := hide (bl.trans (b01.mono bl.size))
  have H1 := hide ((h.below (bl.mono hB)).below (b01.mono (by omega)))
  have H1' := hide ((h'.below (bl.mono hB)).below (b01.mono (by omega)))
  have CO := hide hc
  have HS0 := hide hs0
  have HS1 := hide hs1
  obtain ⟨x0, x1⟩ := N1.out
  obtain ⟨y0, y1⟩ := M1.out
  have gg := G1.out
  unfold Free at gg
  clear h h' bl b01 n0 m0 g0 hc hs1 b0V hsV
  rcases hv with ⟨o1, o2, F, rfl, hF⟩ | ⟨ho, rfl⟩
  rotate_left
  · have eqN := eql_nil
    have ez := hide (oneP_no (r := r) (s := s) (D := D) (S := S) (fun q => ho q.1))
    clear ho
    go_enter Try.func27, Try.ntmps27
    go_wp2_with fail
    refine CO.out.mono ?_
    rintro e w1 ⟨rfl, hq⟩
    have hq := hq.symm
    subst hq
    go_wp2_with fail
    refine bodyPost_ret (v := .agg #[.slice none 0 0, .slice none 0 0]) (by simp [results, Try.results27, go_sem, y0, y1]) rfl (by
      rw [ez.out]
      refine tensR_zero ?_
      repeat (refine Below.setCell ?_ (by simp) _)
      exact B1.out)
  · have HF := hide hF
    have eqF := eql_func F
    have OO := hide (show 1 ≤ op ∧ op ≤ 4 from ⟨o1, o2⟩)
    clear hF o1 o2
    go_enter Try.func27, Try.ntmps27
    go_wp2_with fail
    refine CO.out.mono ?_
    rintro e w1 ⟨rfl, hq⟩
    have hq := hq.symm
    subst hq
    go_wp2_with fail
    refine (tensorOk B (some a) (some b) r s cap dap D S _ (by have := HS1.out; omega) H1.out H1'.out hr hs).mono ?_
    rintro e w2 ⟨rfl, b2⟩
    have z1 := HS1.out
    have N2 := hide (N1.out.below b2 (by omega))
    have M2 := hide (M1.out.below b2 (by omega))
    have G2 := hide (G1.out.below b2 (by omega))
    have B2 := hide (B1.out.trans (b2.mono B1.out.size))
    have H2 := hide (H1.out.below (b2.mono (by omega)))
    have H2' := hide (H1'.out.below (b2.mono (by omega)))
    have C2 := hide ((b2.cell (p := ⟨w.heap.size + 1 + 1, 0, none⟩) (by show w.heap.size + 1 + 1 < W1.heap.size; omega)).trans c1)
    have s2 : w.heap.size + 1 + 1 < w2.heap.size := by have := b2.size; omega
    clear b2 x0 x1 y0 y1 gg c1 cV fV hV1 hW1 hW0 z1
    obtain ⟨x0, x1⟩ := N2.out
    obtain ⟨y0, y1⟩ := M2.out
    have gg := G2.out
    unfold Free at gg
    cases ht : tok r s D S with
    | false =>
      have ez := hide (oneP_no (op := op) (r := r) (s := s) (D := D) (S := S) (fun q => by rw [ht] at q; exact absurd q.2 (by decide)))
      clear ht
      go_wp2_with fail
      refine bodyPost_ret (v := .agg #[.slice none 0 0, .slice none 0 0]) (by simp [results, Try.results27, go_sem, y0, y1]) rfl (by
        rw [ez.out]
        refine tensR_zero ?_
        repeat (refine Below.setCell ?_ (by simp) _)
        exact B2.out)
    | true =>
      have ez := hide (oneP_yes OO.out ht)
      have HW := hide (tok_parts ht).2.2
      clear ht
      go_wp2_with fail
      refine (elementwise2 s 51 (.pointer (some ⟨w.heap.size + 1 + 1, 0, none⟩)) (.pointer (some ⟨w.heap.size, 0, none⟩)) (fun j => one1 op (S j)) _ (by omega) (fun k hk => one1_bd (HW.out k hk)) (enters_of Try.func51 (by kernel_rfl) rfl) (fun k W hk hW => onePiece op F HF.out (some a) (some b) r s cap dap k (w.heap.size + 1 + 1) w.heap.size S B W ((hW.cell (p := ⟨w.heap.size + 1 + 1, 0, none⟩) s2).trans C2.out) (N2.out.below hW (by omega)) (H2'.out.below (hW.mono (by omega))) hk (HW.out k hk) hs)).mono ?_
      rintro e w3 ⟨rfl, r3, s3, b3⟩
      have R3 := hide r3
      have N3 := hide (N2.out.below b3 (by omega))
      have M3 := hide (M2.out.below b3 (by omega))
      have G3 := hide (G2.out.below b3 (by omega))
      have B3 := hide (B2.out.trans (b3.mono B2.out.size))
      have H3 := hide (H2.out.below (b3.mono (by omega)))
      clear r3 b3 x0 x1 y0 y1 gg
      obtain ⟨x0, x1⟩ := N3.out
      go_wp2_with fail
      refine (clone B (some a) r cap D _ H3.out (by omega) hr (fun e => by cases e)).mono ?_
      rintro e w4 ⟨v, rfl, rv, b4⟩
      obtain ⟨va, vc, rfl, ov⟩ := rv.own
      have M4 := hide (M3.out.below b4 (by omega))
      have G4 := hide (G3.out.below b4 (by omega))
      have B4 := hide (B3.out.trans (b4.mono B3.out.size))
      have R4 := hide (R3.out.below b4 s3)
      have OV := hide ov
      have s4 := b4.size
      clear rv b4 ov x0 x1
      obtain ⟨y0, y1⟩ := M4.out
      have gg := G4.out
      unfold Free at gg
      go_wp2_with fail
      refine bodyPost_ret (v := .agg #[.slice va r vc, .slice (some ⟨w2.heap.size, 0, none⟩) s s]) (by simp [results, Try.results27, go_sem, y0, y1]) rfl ?_
      have k2 := kept_sets2 w4 (w.heap.size + 1) (.slice va r vc) (.slice (some ⟨w2.heap.size, 0, none⟩) s s)
      show TensR w.heap.size (oneP op r s D S) w _ _
      rw [ez.out]
      refine ⟨va, _, vc, s, rfl, ⟨(OV.out.kept k2 (fun b q e => ?_)).mono (by omega), .inr ⟨_, rfl, by omega, R4.out.kept k2 (by omega)⟩, fun j q1 q2 => ?_⟩, B4.out.trans (k2.below B4.out.size (fun j e => by have e : j = w.heap.size + 1 := e; omega))⟩
      · have := (OV.out.blk q).1
        have e : b = w.heap.size + 1 := e
        omega
      · have := (OV.out.blk q1).1
        obtain ⟨_, ad, e', e''⟩ := q2
        injection e' with e'
        subst e'
        have e'' : w2.heap.size = j := e''
        omega
set_option maxRecDepth 100000 in
set_option maxHeartbeats 1000000 in
theorem specOne (B : Nat) (a b : Addr) (r s cap dap : Nat) (D S : Nat → Int) (op : Int) (w : World) (hB : B ≤ w.heap.size) (h : Ints B w (some a) r D) (h' : Ints B w (some b) s S) (hr : (r : Int) ≤ 1048576) (hs : (s : Int) ≤ 1048576) :
    Calls Try.prog 26 #[.int .i64 op, .agg #[.slice (some a) r cap, .slice (some b) s dap]] w fun e w' => TensR w.heap.size (oneP op r s D S) w e w' := by
  obtain ⟨W0, hW0⟩ : ∃ W0, (w.alloc (.cells #[.slice (some a) r cap, .slice (some b) s dap] 27)).alloc (.cells #[.slice none 0 0, .slice none 0 0] 27) = W0 := ⟨_, rfl⟩
  have hs0 : W0.heap.size = w.heap.size + 1 + 1 := by rw [← hW0]; simp
  have bl : Below w.heap.size w W0 := by rw [← hW0]; exact ((Below.refl _ _).alloc (Nat.le_refl _) _).alloc (by simp) _
  have n0 : Bx W0 w.heap.size (.slice (some a) r cap) (.slice (some b) s dap) := by
    rw [← hW0]; exact (bx_new w (.slice (some a) r cap) (.slice (some b) s dap) 27).below ((Below.refl (w.heap.size + 1) _).alloc (by simp) _) (by omega)
  have m0 : Bx W0 (w.heap.size + 1) (.slice none 0 0) (.slice none 0 0) := by
    have q := bx_new (w.alloc (.cells #[.slice (some a) r cap, .slice (some b) s dap] 27)) (.slice none 0 0) (.slice none 0 0) 27
    rw [World.size_alloc] at q
    rw [← hW0]; exact q
  have g0 : Free W0 (w.heap.size + 1) := by
    have q := free_new (w.alloc (.cells #[.slice (some a) r cap, .slice (some b) s dap] 27)) #[.slice none 0 0, .slice none 0 0] 27
    rw [World.size_alloc] at q
    rw [← hW0]; exact q
  have H := hide (h.below (bl.mono hB))
  have H' := hide (h'.below (bl.mono hB))
  have BL := hide bl
  have HS0 := hide hs0
  have N0 := hide n0
  have M0 := hide m0
  have G0 := hide g0
  obtain ⟨x0, x1⟩ := n0
  clear h h' bl m0 g0 hs0
  go_enter Try.func26, Try.ntmps26
  go_wp2_with fail
  clear hW0
  refine (specTensorOk B (some a) (some b) r s cap dap D S _ (by have := HS0.out; omega) H.out H'.out hr hs).mono ?_
  rintro e w1 ⟨rfl, b1⟩
  have z0 := HS0.out
  have N1 := hide (N0.out.below b1 (by omega))
  have M1 := hide (M0.out.below b1 (by omega))
  have G1 := hide (G0.out.below b1 (by omega))
  have B1 := hide (BL.out.trans (b1.mono BL.out.size))
  have H1 := hide (H.out.below (b1.mono (by omega)))
  have H1' := hide (H'.out.below (b1.mono (by omega)))
  have s1 : w.heap.size + 1 < w1.heap.size := by have := b1.size; omega
  clear b1 x0 x1 z0
  obtain ⟨x0, x1⟩ := N1.out
  obtain ⟨y0, y1⟩ := M1.out
  have gg := G1.out
  unfold Free at gg
  cases ht : tok r s D S with
  | false =>
    have ez := hide (oneP_no (op := op) (r := r) (s := s) (D := D) (S := S) (fun q => by rw [ht] at q; exact absurd q.2 (by decide)))
    clear ht
    go_wp2_with fail
    refine bodyPost_ret (v := .agg #[.slice none 0 0, .slice none 0 0]) (by simp [results, Try.results26, go_sem, y0, y1]) rfl (by
      rw [ez.out]
      refine tensR_zero ?_
      repeat (refine Below.setCell ?_ (by simp) _)
      exact B1.out)
  | true =>
    have HT := hide (tok_parts ht)
    have HTT := hide ht
    clear ht
    by_cases o1 : op < 1
    · have o1' : decide (op < 1) = true := decide_eq_true o1
      have ez := hide (oneP_no (r := r) (s := s) (D := D) (S := S) (op := op) (fun q => by omega))
      clear o1
      go_wp2_with fail
      refine bodyPost_ret (v := .agg #[.slice none 0 0, .slice none 0 0]) (by simp [results, Try.results26, go_sem, y0, y1]) rfl (by
        rw [ez.out]
        refine tensR_zero ?_
        repeat (refine Below.setCell ?_ (by simp) _)
        exact B1.out)
    have o1' : decide (op < 1) = false := decide_eq_false o1
    by_cases o2 : 4 < op
    · have o2' : decide (4 < op) = true := decide_eq_true o2
      have ez := hide (oneP_no (r := r) (s := s) (D := D) (S := S) (op := op) (fun q => by omega))
      clear o1 o2
      go_wp2_with fail
      refine bodyPost_ret (v := .agg #[.slice none 0 0, .slice none 0 0]) (by simp [results, Try.results26, go_sem, y0, y1]) rfl (by
        rw [ez.out]
        refine tensR_zero ?_
        repeat (refine Below.setCell ?_ (by simp) _)
        exact B1.out)
    have o2' : decide (4 < op) = false := decide_eq_false o2
    have ez := hide (oneP_yes (op := op) ⟨by omega, by omega⟩ HTT.out)
    have lS : (s : Int) ≤ 4096 := by have := HT.out.2.1; have := (szR_rng D r).2; omega
    clear o1 o2
    go_wp2_with fail
    refine (l4New B a r cap s D _ (by omega) H1.out hr HT.out.2.1 lS).mono ?_
    rintro e w2 ⟨va, vc, g, rfl, ov, rg, lg, hg, hne, b2⟩
    have sb := b2.size
    obtain ⟨W2, hW2⟩ : ∃ W2, w2.alloc (.cells #[.slice va r vc, .slice (some ⟨g, 0, none⟩) s s] 27) = W2 := ⟨_, rfl⟩
    have b3 : Below w2.heap.size w2 W2 := by rw [← hW2]; exact (Below.refl _ _).alloc (Nat.le_refl _) _
    have z2 : W2.heap.size = w2.heap.size + 1 := by rw [← hW2]; simp
    have T2 := hide (show Bx W2 w2.heap.size (.slice va r vc) (.slice (some ⟨g, 0, none⟩) s s) by rw [← hW2]; exact bx_new w2 _ _ _)
    have N2 := hide ((N1.out.below b2 (by omega)).below b3 (by omega))
    have M2 := hide ((M1.out.below b2 (by omega)).below b3 (by omega))
    have G2 := hide ((G1.out.below b2 (by omega)).below b3 (by omega))
    have H2' := hide ((H1'.out.below (b2.mono (by omega))).below (b3.mono (by omega)))
    have B2 := hide ((B1.out.trans (b2.mono B1.out.size)).trans (b3.mono (by omega)))
    have OV := hide (ov.below b3)
    have RG := hide (rg.below b3 hg)
    have HNE := hide hne
    have Z2 := hide z2
    have zg : w.heap.size + 1 < g := by omega
    have z3 : w.heap.size + 1 < w2.heap.size := by omega
    clear ov rg b2 b3 sb hne z2 x0 x1 y0 y1 gg
    obtain ⟨x0, x1⟩ := N2.out
    go_wp2_with fail
    clear hW2
    go_loopw [6] (fun i wx => ∃ k : Nat, k ≤ s ∧ i = .int .i64 k ∧ Bx wx w2.heap.size (.slice va r vc) (.slice (some ⟨g, 0, none⟩) s s) ∧ Bx wx w.heap.size (.slice (some a) r cap) (.slice (some b) s dap) ∧ Rw wx g s (fun t => if t < k then one1 op (S t) else 0) ∧ Kept (· = g) W2 wx) (fun i _ => s - (intOf i).toNat)
    case atStart => exact ⟨0, Nat.zero_le _, rfl, T2.out, N2.out, RG.out.same (fun t ht => by simp), Kept.refl _ _⟩
    case round =>
      obtain ⟨k, hk, rfl, hbx, hbt, hrw, hkp⟩ := hrel
      have HBX := hide hbx
      have HBT := hide hbt
      have HRW := hide hrw
      have HKP := hide hkp
      clear x0 x1
      obtain ⟨u0, u1⟩ := hbx
      obtain ⟨x0, x1⟩ := hbt
      clear hrw hkp
      by_cases hlt : k < s
      · have hkI : (k : Int) < s := by omega
        obtain ⟨c2, f2, _⟩ := HRW.out k hlt
        have hin := HT.out.2.2 k hlt
        have bo := one1_bd (op := op) hin
        have CM := hide (fun (W : World) => l4One op (S k) W hin)
        rcases H2'.out.kept (by have := Z2.out; omega) HKP.out (fun b q e => by have e : b = g := e; omega) with h0 | ⟨b', off, hbe, hbB, hc⟩
        · omega
        injection hbe with hbe
        subst hbe
        have c1 := (hc k hlt).1
        have BO := hide bo
        clear hc hin bo
        go_wp2_with fail
        go_region_with (go_at_call 49; refine (CM.out _).mono ?_; rintro e w4 ⟨rfl, rfl⟩)
        all_goals (go_wp2_with fail)
        all_goals go_roundw
        all_goals first
          | (simp only [intOf]; omega)
          | (simp [intOf]; omega)
          | skip
        all_goals exact ⟨k + 1, by omega, by go_num, HBX.out.kept (kept_drew (Kept.setCell wr ⟨g, k, none⟩ (.int .i64 (one1 op (S k))))) (by have := HKP.out.size; have := Z2.out; omega) (by show ¬ w2.heap.size = g; omega), HBT.out.kept (kept_drew (Kept.setCell wr ⟨g, k, none⟩ (.int .i64 (one1 op (S k))))) (by have := HKP.out.size; have := Z2.out; omega) (by show ¬ w.heap.size = g; omega), (HRW.out.set k (one1 op (S k)) BO.out).same (fun t ht => by by_cases c : t = k <;> by_cases c2 : t < k <;> simp [c, c2] <;> omega), kept_drew (HKP.out.trans (Kept.setCell wr ⟨g, k, none⟩ (.int .i64 (one1 op (S k)))))⟩
      · have e : k = s := by omega
        have kp := HKP.out
        have n1 : ¬ w.heap.size + 1 = g := by omega
        have M3 := hide (M2.out.kept kp (by have := Z2.out; omega) n1)
        have G3 := hide (G2.out.kept kp (by have := Z2.out; omega) n1)
        have OV3 := hide (OV.out.kept kp (fun b q e => HNE.out b q e))
        have B3 := hide (B2.out.trans (kp.below B2.out.size (fun j e => by have e : j = g := e; omega)))
        have R3 := hide (HRW.out.same (E := fun j => one1 op (S j)) (fun t ht => by simp; intro; omega))
        clear kp
        obtain ⟨y0, y1⟩ := M3.out
        have gg := G3.out
        unfold Free at gg
        go_wp2_with fail
        refine bodyPost_ret (v := .agg #[.slice va r vc, .slice (some ⟨g, 0, none⟩) s s]) (by simp [results, Try.results26, go_sem, y0, y1]) rfl ?_
        have k2 := kept_sets2 wr (w.heap.size + 1) (.slice va r vc) (.slice (some ⟨g, 0, none⟩) s s)
        show TensR w.heap.size (oneP op r s D S) w _ _
        rw [ez.out]
        refine ⟨va, _, vc, s, rfl, ⟨(OV3.out.kept k2 (fun b q e => ?_)).mono (by omega), .inr ⟨g, rfl, by omega, R3.out.kept k2 (by omega)⟩, fun j q1 q2 => ?_⟩, B3.out.trans (k2.below B3.out.size (fun j e => by have e : j = w.heap.size + 1 := e; omega))⟩
        · have := (OV3.out.blk q).1
          have e : b = w.heap.size + 1 := e
          omega
        · obtain ⟨_, ad, e', e''⟩ := q2
          injection e' with e'
          subst e'
          have e'' : g = j := e''
          exact HNE.out j q1 e''.symm
end Vo
end Go.Proofs.Ytecidmgjffndcaa
