/- Reshape: plain, lists that are one, the turn of the program. -/
import Derived.Test.YtejfodkobfdelaaUf
import Derived.Test.YtejfodkobfdelaaVaj
import Derived.Test.YtejfodkobfdelaaEq
import Derived.Lib.QuietBelow
namespace Go.Proofs.Ytejfodkobfdelaa
namespace Vo
open Go.ChangeShapes Go.WideShapes Go.ChangeAt Go.RowKit Go.Joins Go.Sort
open Vl Vp Vr
set_option linter.unusedVariables false
set_option linter.unusedSimpArgs false

/-- how far it is from the first place to that of an index with a 1 at this axis alone -/
def rsS (r q : Nat) (D S E : Nat → Int) (o : Int) : Nat → Int := fun i => plcN D S r o (stW E q i).toNat - plcN D S r o 0
def RshOk (r q : Nat) (D S E : Nat → Int) (o n : Int) : Prop := (dok q E = true ∧ szR E q = szR D r) ∧ VOk q q E (rsS r q D S E o) o n ∧ ∀ k, k < (szR D r).toNat → plcN E (rsS r q D S E o) q o k = plcN D S r o k
instance (r q : Nat) (D S E : Nat → Int) (o n : Int) : Decidable (RshOk r q D S E o n) := by unfold RshOk; infer_instance
def rshV (r q : Nat) (D S E : Nat → Int) (o n : Int) : PV := if RshOk r q D S E o n then ⟨q, q, E, rsS r q D S E o, o, n⟩ else PV.zero
theorem rshV_no {r q : Nat} {D S E : Nat → Int} {o n : Int} (h : ¬ RshOk r q D S E o n) : rshV r q D S E o n = PV.zero := by unfold rshV; rw [if_neg h]
theorem rshV_yes {r q : Nat} {D S E : Nat → Int} {o n : Int} (h : RshOk r q D S E o n) : rshV r q D S E o n = ⟨q, q, E, rsS r q D S E o, o, n⟩ := by unfold rshV; rw [if_pos h]
theorem rshV_le (r q : Nat) (D S E : Nat → Int) (o n : Int) : (rshV r q D S E o n).r ≤ q ∧ (rshV r q D S E o n).s ≤ q := by
  unfold rshV
  split
  · exact ⟨Nat.le_refl _, Nat.le_refl _⟩
  · exact ⟨Nat.zero_le _, Nat.zero_le _⟩
theorem rsh_turned {r s q : Nat} {D S E : Nat → Int} {o n : Int} : turnedV r s D S o n (rshV r q D S E o n) = if vok r s D S o n = true then rshV r q D S E o n else PV.zero := by
  unfold turnedV
  by_cases hv : vok r s D S o n = true
  · rw [if_pos hv, if_pos hv]
    by_cases h : RshOk r q D S E o n
    · rw [rshV_yes h]
      unfold PV.orZero
      rw [if_pos (show PV.ok _ = true from vok_iff.2 h.2.1)]
    · rw [rshV_no h]
      unfold PV.orZero
      split <;> rfl
  · rw [if_neg hv, if_neg hv]
theorem stW_rng {E : Nat → Int} {q i : Nat} (h : dok q E = true) (hi : i < q) : 0 ≤ stW E q i ∧ stW E q i < szR E q := by
  have h0 := (dok_iff.1 h).2
  have hl := fun j (hj : j < q) => (dok_len h hj).1
  have ep : szR E q = pr E q := by
    rcases szR_cases E q with e | e
    · omega
    · exact e.2.1
  unfold stW
  split
  · omega
  · rename_i c
    have b1 := bh_le hl (q - 1 - i) (by omega)
    have b2 := bh_le hl (q - 1 - i + 1) (by omega)
    have e : bh E q (q - 1 - i + 1) = bh E q (q - 1 - i) * E (q - 1 - (q - 1 - i)) := rfl
    rw [show q - 1 - (q - 1 - i) = i by omega] at e
    have d2 : 2 ≤ E i := by have := hl i hi; omega
    have m := Int.mul_le_mul_of_nonneg_left d2 (show 0 ≤ bh E q (q - 1 - i) by omega)
    omega
theorem plcN_rng {r s : Nat} {D S : Nat → Int} {o n : Int} (h : VOk r s D S o n) (k : Nat) : 0 ≤ plcN D S r o k ∧ plcN D S r o k < 4096 := by
  have := h.place (k : Int)
  have := h.2.2.2.1
  show 0 ≤ o + rel D S r k ∧ o + rel D S r k < 4096
  omega
theorem kept_drew2 {S : Nat → Prop} {a b : World} (h : Kept S a b) : Kept S a b.drew := ⟨h.os, h.tape, h.output, h.size, h.block⟩
set_option maxRecDepth 100000 in
set_option maxHeartbeats 3000000 in
theorem reshapeTurn (r s q : Nat) (D S E : Nat → Int) (o n : Int) (C B : Nat) (ad' : Addr) (va vb : Value) (W : World) (hV : VOk r s D S o n) (ra : RowV C W va r D) (rb : RowV C W vb s S) (hi : Ints B W (some ad') q E) (hC : C ≤ W.heap.size) (hr : (r : Int) ≤ 1048576) (hq : (q : Int) ≤ 1048576) :
    Calls Try.prog 74 #[.agg #[va, vb, .int .i64 o, .int .i64 n], .slice (some ad') q q] W fun e W' => TurnR C (rshV r q D S E o n) va vb W e W' := by
  obtain ⟨aa, ac, rfl, oa⟩ := ra.own
  obtain ⟨ab, ad, rfl, ob⟩ := rb.own
  obtain rfl := hV.2.1
  have r6 : s ≤ 6 := (dok_iff.1 hV.1).1
  obtain ⟨W0, hW0⟩ : ∃ W0, (W.alloc (.cells #[.slice aa s ac, .slice ab s ad, .int .i64 o, .int .i64 n] 26)).alloc (.cells #[.slice none 0 0, .slice none 0 0, .int .i64 0, .int .i64 0] 26) = W0 := ⟨_, rfl⟩
  have hs0 : W0.heap.size = W.heap.size + 1 + 1 := by rw [← hW0]; simp
  have bl : Below W.heap.size W W0 := by rw [← hW0]; exact ((Below.refl _ _).alloc (Nat.le_refl _) _).alloc (by simp) _
  have n0 : Box W0 W.heap.size (.slice aa s ac) (.slice ab s ad) (.int .i64 o) (.int .i64 n) := by
    rw [← hW0]; exact (box_new W (.slice aa s ac) (.slice ab s ad) (.int .i64 o) (.int .i64 n) 26).below ((Below.refl (W.heap.size + 1) _).alloc (by simp) _) (by omega)
  have m0 : Box W0 (W.heap.size + 1) (.slice none 0 0) (.slice none 0 0) (.int .i64 0) (.int .i64 0) := by
    have q := box_new (W.alloc (.cells #[.slice aa s ac, .slice ab s ad, .int .i64 o, .int .i64 n] 26)) (.slice none 0 0) (.slice none 0 0) (.int .i64 0) (.int .i64 0) 26
    rw [World.size_alloc] at q
    rw [← hW0]; exact q
  have g0 : Free W0 (W.heap.size + 1) := by
    have q := free_new (W.alloc (.cells #[.slice aa s ac, .slice ab s ad, .int .i64 o, .int .i64 n] 26)) #[.slice none 0 0, .slice none 0 0, .int .i64 0, .int .i64 0] 26
    rw [World.size_alloc] at q
    rw [← hW0]; exact q
  have HI := hide ((ints_here2 hi).below bl)
  have OA := hide (oa.ints.below bl)
  have OBB := hide (ob.ints.below bl)
  have BL := hide bl
  have N0 := hide n0
  have M0 := hide m0
  have G0 := hide g0
  have HS0 := hide hs0
  have HV := hide hV
  obtain ⟨x0, x1, x2, x3⟩ := n0
  have k0 := cell_regrown x0
  have zW : W.heap.size ≤ W0.heap.size := by omega
  have c1 : ∀ d os, Calls Try.prog 69 #[.slice (some ad') q q] (Sort.grow (redrawn W0 d) os) fun e w'' => e = .returned (.int .i64 (sz q E)) ∧ ∃ p : Regrown, w'' = Sort.grow (redrawn W0 p.d) p.os := fun d os => Calls.regrown_of ((Vs.sizeOf W.heap.size (some ad') q q E _ (HI.out.below ((below_regrown W0 d os).mono zW)) hq).mono (fun e w' q => ⟨q.1, q.2 ▸ Below.refl _ _⟩))
  have c2 : ∀ d os, Calls Try.prog 69 #[.slice aa s ac] (Sort.grow (redrawn W0 d) os) fun e w'' => e = .returned (.int .i64 (sz s D)) ∧ ∃ p : Regrown, w'' = Sort.grow (redrawn W0 p.d) p.os := fun d os => Calls.regrown_of ((Vs.sizeOf W.heap.size aa s ac D _ (OA.out.below ((below_regrown W0 d os).mono zW)) hr).mono (fun e w' q => ⟨q.1, q.2 ▸ Below.refl _ _⟩))
  have C1 := hide c1
  have C2 := hide c2
  obtain ⟨zE, hzE⟩ : ∃ zE, sz q E = zE := ⟨_, rfl⟩
  obtain ⟨zD, hzD⟩ : ∃ zD, sz s D = zD := ⟨_, rfl⟩
  rw [hzE] at C1
  rw [hzD] at C2
  have HZE := hide hzE
  have HZD := hide hzD
  clear hi bl oa ob ra rb hV m0 g0 hs0 c1 c2 hzE hzD
  go_enter Try.func74, Try.ntmps74
  go_upto_region 1 with fail
  clear hW0
  go_cut [14] (fun v wx => v = .bool (zE != zD) ∧ Below W0.heap.size W0 wx)
  case first =>
    refine wp_region_quiet_below (by kernel_rfl) (by kernel_rfl) ?_
    repeat (quiet_step (first | (go_at_call_of 69 (Value.slice (some ad') q q); exact C1.out _ _) | (go_at_call_of 69 (Value.slice aa s ac); exact C2.out _ _)))
    refine wpQuiet_nil ?_
    intro _ hw'
    obtain ⟨⟨dq, osq⟩, hw''⟩ := hw'
    subst hw''
    go_wp2_with fail
    go_meet
    exact ⟨rfl, below_regrown W0 dq osq⟩
  case rest =>
  obtain ⟨rfl, b1⟩ := hcut
  obtain ⟨w1, rfl⟩ : ∃ w1, w1 = wc := ⟨_, rfl⟩
  have zz := HS0.out
  have z1 : W.heap.size + 1 < w1.heap.size := by have := b1.size; omega
  have N1 := hide (N0.out.below b1 (by omega))
  have M1 := hide (M0.out.below b1 (by omega))
  have G1 := hide (G0.out.below b1 (by omega))
  have HI1 := hide (HI.out.below (b1.mono (by omega)))
  have OA1 := hide (OA.out.below (b1.mono (by omega)))
  have OB1 := hide (OBB.out.below (b1.mono (by omega)))
  have B1 := hide (BL.out.trans (b1.mono BL.out.size))
  clear b1 zz x0 x1 x2 x3 k0 C1 C2 zW
  obtain ⟨x0, x1, x2, x3⟩ := N1.out
  obtain ⟨y0, y1, y2, y3⟩ := M1.out
  have gg := G1.out
  unfold Free at gg
  have sD : sz s D = szR D s ∧ 0 < szR D s := by
    have h := dok_iff.1 HV.out.1
    exact ⟨by unfold sz; rw [if_neg (by omega)], h.2⟩
  by_cases hsz : zE = zD
  rotate_left
  · have e1 : (zE != zD) = true := by rw [bne_iff_ne]; exact hsz
    have ez := hide (rshV_no (r := s) (q := q) (D := D) (S := S) (E := E) (o := o) (n := n) (fun h => hsz (by
      rw [← HZE.out, ← HZD.out, sD.1, ← h.1.2]
      unfold sz
      rw [if_neg (by have := (dok_iff.1 h.1.1).1; omega)])))
    clear hsz sD
    go_wp2_with fail
    refine bodyPost_ret (v := .agg #[.slice none 0 0, .slice none 0 0, .int .i64 0, .int .i64 0]) (by simp [results, Try.results74, go_sem, y0, y1, y2, y3]) rfl (by
      rw [ez.out]
      refine turnR_zero (Kept.of_below ?_)
      repeat (refine Below.setCell ?_ (by simp) _)
      exact B1.out)
  have e1 : (zE != zD) = false := by rw [bne_eq_false_iff_eq]; exact hsz
  have hq6 : q ≤ 6 ∧ szR E q = szR D s := by
    have e := HZE.out.trans (hsz.trans HZD.out.symm)
    rw [sD.1] at e
    unfold sz at e
    split at e
    · omega
    · exact ⟨by omega, e⟩
  have hdE : dok q E = true := dok_iff.2 ⟨hq6.1, by rw [hq6.2]; exact sD.2⟩
  have HD := hide hdE
  have HSZ := hide hq6.2
  have q6 := hq6.1
  obtain ⟨N, hN⟩ : ∃ N : Nat, szR D s = N := ⟨(szR D s).toNat, by have := sD.2; omega⟩
  have N1' : 1 ≤ N := by have := sD.2; omega
  have N4 : (N : Int) ≤ 4096 := by rw [← hN]; exact (szR_rng D s).2
  have CN := hide (show cntS s s D S o n = N by have := cntS_yes (vok_iff.2 HV.out); omega)
  have HN := hide hN
  clear hsz hq6 hdE sD hN y0 y1 y2 y3 gg
  go_wp2_with fail
  refine (placesS W.heap.size aa ab s s ac ad D S o n w1 (by omega) OA1.out OB1.out hr hr).mono ?_
  rintro e w2 ⟨pa, pc, rfl, op, b1⟩
  rw [CN.out] at op ⊢
  rcases op with h0 | ⟨gp, rfl, hgp, rp⟩
  · omega
  have lgp := rp.lt (by omega)
  have s2 : w1.heap.size ≤ w2.heap.size := b1.size
  have N2 := hide (N1.out.below b1 (by omega))
  have M2 := hide (M1.out.below b1 (by omega))
  have G2 := hide (G1.out.below b1 (by omega))
  have HI2 := hide (HI1.out.below (b1.mono (by omega)))
  have B2 := hide (B1.out.trans (b1.mono B1.out.size))
  have RP2 := hide rp
  clear b1 rp x0 x1 x2 x3
  go_wp2_with fail
  refine (whole W.heap.size ad' q E w2 HI2.out (by omega) hq).mono ?_
  rintro e w3 ⟨ta, tb, tc, td, rfl, vo, b1⟩
  rw [wholeV_yes HD.out] at vo ⊢
  dsimp only at vo ⊢
  have s3 : w2.heap.size ≤ w3.heap.size := b1.size
  obtain ⟨W3, hW3⟩ : ∃ W3, w3.alloc (.cells #[.slice ta q tc, .slice tb q td, .int .i64 0, .int .i64 (szR E q)] 26) = W3 := ⟨_, rfl⟩
  have b2 : Below w3.heap.size w3 W3 := by rw [← hW3]; exact (Below.refl _ _).alloc (Nat.le_refl _) _
  have z3 : W3.heap.size = w3.heap.size + 1 := by rw [← hW3]; simp
  have P3 := hide (show Box W3 w3.heap.size (.slice ta q tc) (.slice tb q td) (.int .i64 0) (.int .i64 (szR E q)) by rw [← hW3]; exact box_new w3 _ _ _ _ _)
  have PF3 := hide (show Free W3 w3.heap.size by rw [← hW3]; exact free_new w3 _ _)
  have N3 := hide ((N2.out.below b1 (by omega)).below b2 (by omega))
  have M3 := hide ((M2.out.below b1 (by omega)).below b2 (by omega))
  have G3 := hide ((G2.out.below b1 (by omega)).below b2 (by omega))
  have B3 := hide ((B2.out.trans (b1.mono B2.out.size)).trans (b2.mono (by omega)))
  have RP3 := hide ((RP2.out.below b1 lgp).below b2 (by omega))
  have VO := hide (vo.below b2)
  have VB := hide (show ∀ k, VBlk ta tb q q k → w2.heap.size ≤ k ∧ k < w3.heap.size from fun k q => vo.blk q)
  have Z3 := hide z3
  clear b1 b2 vo z3
  obtain ⟨x0, x1, x2, x3⟩ := N3.out
  obtain ⟨p0, p1, p2, p3⟩ := P3.out
  have pf := PF3.out
  unfold Free at pf
  have lP : W.heap.size < w3.heap.size := by omega
  have lP' : w3.heap.size < W3.heap.size := by have := Z3.out; omega
  go_upto_region 5 with fail
  clear hW3
  go_cut [] (fun wx => Box wx w3.heap.size (.slice ta q tc) (.slice tb q td) (.int .i64 o) (.int .i64 n) ∧ Free wx w3.heap.size ∧ Kept (· = w3.heap.size) W3 wx)
  case first =>
    go_region_held3 (fun w' => w'.cell? ⟨W.heap.size, 2, none⟩ = some (.int .i64 o) ∧ w'.cell? ⟨W.heap.size, 3, none⟩ = some (.int .i64 n))
      ((try dsimp only) <;> (repeat' apply And.intro) <;> (repeat (first | with_reducible assumption | with_reducible apply drew_old | (with_reducible apply se_old; (focus (first | (dsimp only; omega) | (simp; done) | (simp; omega)))) | assumption))) (fail)
    all_goals (go_wp2_with fail)
    all_goals go_meet
    all_goals
      refine ⟨⟨?_, ?_, ?_, ?_⟩, (((show Free W3.drew w3.heap.size from PF3.out).set _ _).set _ _), (kept_drew2 (Kept.refl _ W3)).trans ((Kept.setCell _ ⟨w3.heap.size, 2, none⟩ _).trans (Kept.setCell _ ⟨w3.heap.size, 3, none⟩ _))⟩
      all_goals (simp [go_sem, p0, p1, p2, p3])
  case rest =>
  obtain ⟨bxP, frP, kP⟩ := hcut
  obtain ⟨X0, rfl⟩ : ∃ X0, X0 = wc := ⟨_, rfl⟩
  have z3 := Z3.out
  have s4 : W3.heap.size ≤ X0.heap.size := kP.size
  have PX := hide bxP
  have PFX := hide frP
  have NX := hide (N3.out.kept kP (by omega) (by show ¬ W.heap.size = w3.heap.size; omega))
  have MX := hide (M3.out.kept kP (by omega) (by show ¬ W.heap.size + 1 = w3.heap.size; omega))
  have GX := hide (G3.out.kept kP (by omega) (by show ¬ W.heap.size + 1 = w3.heap.size; omega))
  have RPX := hide (RP3.out.kept kP (by show ¬ gp = w3.heap.size; omega))
  have VOX := hide (VO.out.kept kP (fun k q e => by have := (VB.out k q).2; have e : k = w3.heap.size := e; omega))
  have BX := hide (B3.out.trans (kP.below B3.out.size (fun j e => by have e : j = w3.heap.size := e; omega)))
  have lX : w3.heap.size < X0.heap.size := by omega
  clear bxP frP kP x0 x1 x2 x3 p0 p1 p2 p3 pf z3 N3 M3 G3 RP3 VO B3 P3 PF3
  obtain ⟨p0, p1, p2, p3⟩ := PX.out
  go_wp2_with fail
  go_loopw [29] (fun i wx => ∃ t : Nat, t ≤ q ∧ i = .int .i64 t ∧ OwnL w2.heap.size wx tb q (fun j => if j < t then rsS s q D S E o j else stW E q j) ∧ Kept (Blk tb q) X0 wx) (fun i _ => q - (intOf i).toNat)
  case atStart => exact ⟨0, Nat.zero_le _, rfl, VOX.out.t.same (fun j hj => by simp), Kept.refl _ _⟩
  case round =>
    obtain ⟨X, rfl⟩ : ∃ X, X = wr := ⟨_, rfl⟩
    obtain ⟨t, ht, rfl, how, hkp⟩ := hrel
    have HOW := hide how
    have HKP := hide hkp
    have NB := hide (show ∀ k, Blk tb q k → w2.heap.size ≤ k ∧ k < w3.heap.size from fun k h => VB.out k (.inr h))
    have PXX := hide (PX.out.kept hkp lX (fun h => by have := (NB.out _ h).2; omega))
    have RPXX := hide (RPX.out.kept hkp (fun h => by have := (NB.out _ h).1; omega))
    have sX : X0.heap.size ≤ X.heap.size := hkp.size
    clear how hkp p0 p1 p2 p3
    obtain ⟨p0, p1, p2, p3⟩ := PXX.out
    by_cases hlt : t < q
    · have tI : (t : Int) < q := by omega
      rcases HOW.out with h0 | ⟨g, rfl, hg, rg⟩
      · omega
      have lg := (NB.out g ⟨by omega, _, rfl, rfl⟩).2
      have sr := stW_rng HD.out hlt
      obtain ⟨u, hu⟩ : ∃ u : Nat, stW E q t = u := ⟨(stW E q t).toNat, by omega⟩
      have hu2 : u < N := by have := HSZ.out; have := HN.out; omega
      have uI : (u : Int) < N := by omega
      obtain ⟨cg0, fg, _⟩ := rg t hlt
      have cg : X.cell? ⟨g, t, none⟩ = some (.int .i64 u) := by rw [cg0]; simp [hu]
      clear cg0
      obtain ⟨cu, _, _⟩ := RPXX.out u hu2
      obtain ⟨c0, _, _⟩ := RPXX.out 0 (by omega)
      have b1 := plcN_rng HV.out u
      have b2 := plcN_rng HV.out 0
      have e3 : IntKind.i64.wrap (plcN D S s o u - plcN D S s o 0) = rsS s q D S E o t := by
        have : rsS s q D S E o t = plcN D S s o u - plcN D S s o 0 := by unfold rsS; rw [hu, Int.toNat_natCast]
        rw [this, IntKind.wrap_i64]; omega
      have BR := hide (show bd (rsS s q D S E o t) by unfold rsS; rw [hu, Int.toNat_natCast]; unfold bd; omega)
      have RG := hide rg
      have ng1 : ¬ (w3.heap.size = g) := by omega
      have ng2 : ¬ (gp = g) := by omega
      have N0I : (0 : Int) < N := by omega
      have N0N : 0 < N := by omega
      clear rg sr hu b1 b2
      go_wp2_with fail
      go_region_held3 (fun w' => w'.cell? ⟨w3.heap.size, 1, none⟩ = some (.slice (some ⟨g, 0, none⟩) q td) ∧ w'.cell? ⟨gp, u, none⟩ = some (.int .i64 (plcN D S s o u)) ∧ w'.cell? ⟨gp, 0, none⟩ = some (.int .i64 (plcN D S s o 0)))
        ((try dsimp only) <;> (repeat' apply And.intro) <;> (repeat (first | with_reducible assumption | with_reducible apply drew_old | (with_reducible apply se_old; (focus (first | (dsimp only; omega) | (simp; done) | (simp; omega)))) | assumption))) (fail)
      all_goals (go_wp2_with fail)
      all_goals go_roundw
      all_goals first
        | (simp only [intOf]; omega)
        | (simp [intOf]; omega)
        | exact ⟨t + 1, by omega, by go_num, .inr ⟨g, rfl, hg, ((show Rw X.drew g q _ from RG.out).set t _ BR.out).same (fun j hj => by
            by_cases c : j = t
            · subst c; simp
            · by_cases c2 : j < t
              · simp [c, c2]; omega
              · simp [c, c2]; omega)⟩, (HKP.out.trans (Kept.of_below (Below.refl _ X).drew)).trans ((Kept.setCell _ ⟨g, t, none⟩ _).mono (fun k _ e => by have e : k = g := e; subst e; exact ⟨by omega, _, rfl, rfl⟩))⟩
    · obtain rfl : t = q := by omega
      have OWT := hide (HOW.out.same (E := rsS s t D S E o) (fun j hj => by simp [hj]))
      have OWA := hide (VOX.out.d.kept HKP.out (fun k h1 h2 => VOX.out.ne k h1 h2))
      have MXX := hide (MX.out.kept HKP.out (by omega) (fun h => by have := (NB.out _ h).1; omega))
      have GXX := hide (GX.out.kept HKP.out (by omega) (fun h => by have := (NB.out _ h).1; omega))
      have BXX := hide (BX.out.trans (HKP.out.below BX.out.size (fun j h => by have := (NB.out _ h).1; omega)))
      go_wp2_with fail
      refine (placesS X.heap.size ta tb t t tc td E (rsS s t D S E o) o n X (Nat.le_refl _) OWA.out.ints OWT.out.ints hq hq).mono ?_
      rintro e X1 ⟨pa, pc2, rfl, op, b1⟩
      obtain ⟨M, hM⟩ : ∃ M, cntS t t E (rsS s t D S E o) o n = M := ⟨_, rfl⟩
      have M4 : (M : Int) ≤ 4096 := by rw [← hM]; exact cntS_le _ _ _ _ _ _
      rw [hM] at op ⊢
      have HM := hide hM
      have OP := hide op.ints
      have sX1 : X.heap.size ≤ X1.heap.size := b1.size
      have RP1 := hide (RPXX.out.below b1 (by omega))
      have MX1 := hide (MXX.out.below b1 (by omega))
      have GX1 := hide (GXX.out.below b1 (by omega))
      have PX1 := hide (PXX.out.below b1 (by omega))
      have BX1 := hide (BXX.out.trans (b1.mono BXX.out.size))
      have OA1' := hide (OWA.out.below b1)
      have OT1 := hide (OWT.out.below b1)
      clear b1 op hM p0 p1 p2 p3
      go_wp2_with fail
      refine (equalI X1.heap.size pa (some ⟨gp, 0, none⟩) M N pc2 pc (plcN E (rsS s t D S E o) t o) (plcN D S s o) X1 (Nat.le_refl _) OP.out (RP1.out.ints (by omega)) (by omega) (by omega)).mono ?_
      rintro e X2 ⟨⟨z, rfl, hz⟩, b1⟩
      have MX2 := hide (MX1.out.below b1 (by omega))
      have GX2 := hide (GX1.out.below b1 (by omega))
      have PX2 := hide (PX1.out.below b1 (by omega))
      have B1 := hide (BX1.out.trans (b1.mono BX1.out.size))
      have OA2 := hide (OA1'.out.below b1)
      have OT2 := hide (OT1.out.below b1)
      have HZ := hide hz
      have sX2 : X1.heap.size ≤ X2.heap.size := b1.size
      clear b1 hz
      obtain ⟨y0, y1, y2, y3⟩ := MX2.out
      have gg := GX2.out
      unfold Free at gg
      cases z with
      | false =>
        have ez := hide (rshV_no (r := s) (q := t) (D := D) (S := S) (E := E) (o := o) (n := n) (fun h => by
          have := HZ.out.2 ⟨by
            have e1 := cntS_yes (vok_iff.2 h.2.1)
            have := HM.out; have := HN.out; have := HSZ.out
            omega, fun k hk => h.2.2 k (by
              have e1 := cntS_yes (vok_iff.2 h.2.1)
              have := HM.out; have := HN.out; have := HSZ.out
              omega)⟩
          cases this))
        go_wp2_with fail
        refine bodyPost_ret (v := .agg #[.slice none 0 0, .slice none 0 0, .int .i64 0, .int .i64 0]) (by simp [results, Try.results74, go_sem, y0, y1, y2, y3]) rfl (by
          rw [ez.out]
          refine turnR_zero (Kept.of_below ?_)
          repeat (refine Below.setCell ?_ (by simp) _)
          exact B1.out)
      | true =>
        have hz := HZ.out.1 rfl
        have hvw : vok t t E (rsS s t D S E o) o n = true := by
          cases hv : vok t t E (rsS s t D S E o) o n with
          | true => rfl
          | false => have := cntS_no hv; have := HM.out; omega
        have ez := hide (rshV_yes (r := s) (q := t) (D := D) (S := S) (E := E) (o := o) (n := n) ⟨⟨HD.out, HSZ.out⟩, vok_iff.1 hvw, fun k hk => hz.2 k (by have := hz.1; have := HN.out; omega)⟩)
        obtain ⟨p0, p1, p2, p3⟩ := PX2.out
        clear hz hvw
        go_wp2_with fail
        refine bodyPost_ret (v := .agg #[.slice ta t tc, .slice tb t td, .int .i64 o, .int .i64 n]) (by simp [results, Try.results74, go_sem, y0, y1, y2, y3]) rfl ?_
        have k4 := kept_sets4 X2 (W.heap.size + 1) (.slice ta t tc) (.slice tb t td) (.int .i64 o) (.int .i64 n)
        show TurnR C (rshV s t D S E o n) _ _ W _ _
        rw [ez.out]
        refine ⟨ta, tb, tc, td, rfl, ⟨(OA2.out.kept k4 (fun k h e => by have := (VB.out k (.inl h)).1; have e : k = W.heap.size + 1 := e; omega)).mono (by omega), (OT2.out.kept k4 (fun k h e => by have := (VB.out k (.inr h)).1; have e : k = W.heap.size + 1 := e; omega)).mono (by omega), VOX.out.ne⟩, Kept.of_below (B1.out.trans (k4.below B1.out.size (fun j e => by have e : j = W.heap.size + 1 := e; omega)))⟩
theorem reshapeF (B : Nat) (a b : Option Addr) (c : Addr) (r s q cap dap : Nat) (D S E : Nat → Int) (o n : Int) (w : World) (hB : B ≤ w.heap.size) (h : Ints B w a r D) (h' : Ints B w b s S) (hI : Ints B w (some c) q E) (hr : (r : Int) ≤ 1048576) (hs : (s : Int) ≤ 1048576) (hq : (q : Int) ≤ 1048576) (hna : a = none → r = 0 ∧ cap = 0) (hnb : b = none → s = 0 ∧ dap = 0) :
    Calls Try.prog 9 #[.agg #[.slice a r cap, .slice b s dap, .int .i64 o, .int .i64 n], .slice (some c) q q] w fun e w' => ViewR w.heap.size (turnedV r s D S o n (rshV r q D S E o n)) w e w' := by
  obtain ⟨W0, hW0⟩ : ∃ W0, (w.alloc (.cells #[.slice a r cap, .slice b s dap, .int .i64 o, .int .i64 n] 26)).alloc (.cells #[.slice none 0 0, .slice none 0 0, .int .i64 0, .int .i64 0] 26) = W0 := ⟨_, rfl⟩
  have hs0 : W0.heap.size = w.heap.size + 1 + 1 := by rw [← hW0]; simp
  have bl : Below w.heap.size w W0 := by rw [← hW0]; exact ((Below.refl _ _).alloc (Nat.le_refl _) _).alloc (by simp) _
  have n0 : Box W0 w.heap.size (.slice a r cap) (.slice b s dap) (.int .i64 o) (.int .i64 n) := by
    rw [← hW0]; exact (box_new w (.slice a r cap) (.slice b s dap) (.int .i64 o) (.int .i64 n) 26).below ((Below.refl (w.heap.size + 1) _).alloc (by simp) _) (by omega)
  obtain ⟨x0, x1, x2, x3⟩ := n0
  have m0 : Box W0 (w.heap.size + 1) (.slice none 0 0) (.slice none 0 0) (.int .i64 0) (.int .i64 0) := by
    have q := box_new (w.alloc (.cells #[.slice a r cap, .slice b s dap, .int .i64 o, .int .i64 n] 26)) (.slice none 0 0) (.slice none 0 0) (.int .i64 0) (.int .i64 0) 26
    rw [World.size_alloc] at q
    rw [← hW0]; exact q
  have g0 : Free W0 (w.heap.size + 1) := by
    have q := free_new (w.alloc (.cells #[.slice a r cap, .slice b s dap, .int .i64 o, .int .i64 n] 26)) #[.slice none 0 0, .slice none 0 0, .int .i64 0, .int .i64 0] 26
    rw [World.size_alloc] at q
    rw [← hW0]; exact q
  have H := hide (h.below (bl.mono hB))
  have H' := hide (h'.below (bl.mono hB))
  have HI := hide (hI.below (bl.mono hB))
  have l1 := (rshV_le r q D S E o n).1
  have l2 := (rshV_le r q D S E o n).2
  have CT := hide (turned ⟨#[114, 101, 115, 104, 97, 112, 101]⟩ 74 (rshV r q D S E o n) (enters_of Try.func74 (by kernel_rfl) rfl) reshapeNamed W0.heap.size a b (some c) r s q cap dap q D S E o n W0 (Nat.le_refl _) (H.out.mono (by omega)) (H'.out.mono (by omega)) (HI.out.mono (by omega)) hr hs hna hnb (by omega) (by omega)
    (fun va vb W v ra rb hne hi hsz => reshapeTurn r s q D S E o n _ _ c va vb W v ra rb hi hsz hr hq))
  have BL := hide bl
  have M0 := hide m0
  have G0 := hide g0
  have HS0 := hide hs0
  clear h h' hI m0 g0 bl hs0 l1 l2
  go_enter Try.func9, Try.ntmps9
  go_wp2_with fail
  refine CT.out.mono ?_
  rintro e w1 ⟨ta, tb, tc, td, rfl, hvo, b1⟩
  obtain ⟨T, hTT⟩ : ∃ T, turnedV r s D S o n (rshV r q D S E o n) = T := ⟨_, rfl⟩
  rw [hTT] at hvo ⊢
  have zz := HS0.out
  have M1 := hide (M0.out.below b1 (by omega))
  have G1 := hide (G0.out.below b1 (by omega))
  have B1 := hide (BL.out.trans (b1.mono BL.out.size))
  have VO := hide hvo
  have HTT := hide hTT
  clear hvo b1 zz hW0 CT hTT x0 x1 x2 x3
  obtain ⟨y0, y1, y2, y3⟩ := M1.out
  have gg := G1.out
  unfold Free at gg
  go_wp2_with fail
  refine bodyPost_ret (v := .agg #[.slice ta T.r tc, .slice tb T.s td, .int .i64 T.o, .int .i64 T.n]) (by simp [results, Try.results9, go_sem, y0, y1, y2, y3]) rfl ?_
  have zz := HS0.out
  have k4 := kept_sets4 w1 (w.heap.size + 1) (.slice ta T.r tc) (.slice tb T.s td) (.int .i64 T.o) (.int .i64 T.n)
  show ViewR w.heap.size (turnedV r s D S o n (rshV r q D S E o n)) w _ _
  rw [HTT.out]
  exact ⟨ta, tb, tc, td, rfl, (VO.out.kept k4 (fun k q e => by have := (VO.out.blk q).1; have e : k = w.heap.size + 1 := e; omega)).mono (B' := w.heap.size) (by omega), B1.out.trans (k4.below B1.out.size (fun j e => by have e : j = w.heap.size + 1 := e; omega))⟩
end Vo
end Go.Proofs.Ytejfodkobfdelaa
