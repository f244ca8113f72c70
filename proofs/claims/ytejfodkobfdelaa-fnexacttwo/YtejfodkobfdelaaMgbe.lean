/- Lemmas for the proof of the law. -/
import Derived.Test.YtejfodkobfdelaaMgbd
import Derived.Test.YtejfodkobfdelaaMgat
/- spreadTo. -/
namespace Go.Proofs.Ytejfodkobfdelaa
namespace Vo
open Go.ChangeShapes Go.WideShapes Go.ChangeAt Go.RowKit Go.Joins Go.Sort
open Vl Vp Vr
set_option linter.unusedVariables false
set_option linter.unusedSimpArgs false
set_option maxRecDepth 100000 in
set_option maxHeartbeats 2000000 in
theorem spreadTo (B : Nat) (a : Addr) (b c : Option Addr) (r s q dap cap' : Nat) (D S E : Nat → Int) (w : World) (hB : B ≤ w.heap.size) (h : Ints B w (some a) r D) (h' : Ints B w b s S) (hI : Ints B w c q E) (hr : (r : Int) ≤ 1048576) (hs : (s : Int) ≤ 1048576) (hq : (q : Int) ≤ 1048576) (hnc : c = none → q = 0) :
    Calls Try.prog 39 #[.agg #[.slice (some a) r r, .slice b s dap], .slice c q cap'] w fun e w' => TensR w.heap.size (let v := turnedV (wholeV r D).r (wholeV r D).s (wholeV r D).D (wholeV r D).S (wholeV r D).o (wholeV r D).n (sprV (wholeV r D).r q (wholeV r D).D (wholeV r D).S E (wholeV r D).o (wholeV r D).n); lookP r s D S v.r v.s v.D v.S v.o v.n) w e w' := by
  obtain ⟨W0, hW0⟩ : ∃ W0, (w.alloc (.cells #[.slice (some a) r r, .slice b s dap] 38)).alloc (.cells #[.slice none 0 0, .slice none 0 0] 38) = W0 := ⟨_, rfl⟩
  have hs0 : W0.heap.size = w.heap.size + 1 + 1 := by rw [← hW0]; simp
  have bl : Below w.heap.size w W0 := by rw [← hW0]; exact ((Below.refl _ _).alloc (Nat.le_refl _) _).alloc (by simp) _
  have n0 : Bx W0 w.heap.size (.slice (some a) r r) (.slice b s dap) := by
    rw [← hW0]; exact (bx_new w (.slice (some a) r r) (.slice b s dap) 38).below ((Below.refl (w.heap.size + 1) _).alloc (by simp) _) (by omega)
  have m0 : Bx W0 (w.heap.size + 1) (.slice none 0 0) (.slice none 0 0) := by
    have q := bx_new (w.alloc (.cells #[.slice (some a) r r, .slice b s dap] 38)) (.slice none 0 0) (.slice none 0 0) 38
    rw [World.size_alloc] at q
    rw [← hW0]; exact q
  have g0 : Free W0 (w.heap.size + 1) := by
    have q := free_new (w.alloc (.cells #[.slice (some a) r r, .slice b s dap] 38)) #[.slice none 0 0, .slice none 0 0] 38
    rw [World.size_alloc] at q
    rw [← hW0]; exact q
  have lw1 := (wholeV_le r D).1
  have lw2 := (wholeV_le r D).2
  obtain ⟨V, hV⟩ : ∃ V, wholeV r D = V := ⟨_, rfl⟩
  have CW := hide (whole W0.heap.size a r D W0.drew ((h.below (bl.mono hB)).mono (by omega)) (Nat.le_refl _) hr)
  rw [hV] at CW lw1 lw2
  have lt1 := (turned_le2 V.r V.s V.D V.S V.o V.n (sprV V.r q V.D V.S E V.o V.n)).1
  have lt2 := (turned_le2 V.r V.s V.D V.S V.o V.n (sprV V.r q V.D V.S E V.o V.n)).2
  have lt3 := (sprV_le V.r q V.D V.S E V.o V.n).1
  have lt4 := (sprV_le V.r q V.D V.S E V.o V.n).2
  have CSp := hide (fun (W : World) (ta tb : Option Addr) (tc td : Nat) (hW : Below W0.heap.size W0 W) (vo : VOwn W0.heap.size W ta tb V.r V.s V.D V.S) => spreadG W.heap.size ta tb c V.r V.s q tc td cap' V.D V.S E V.o V.n W (Nat.le_refl _) vo.d.ints vo.t.ints (((hI.below (bl.mono hB)).below (hW.mono (by omega))).mono (by have := hW.size; omega)) (by omega) (by omega) hq (fun e => by rcases vo.d with h0 | ⟨g, e', _⟩; exact h0; rw [e] at e'; cases e') (fun e => by rcases vo.t with h0 | ⟨g, e', _⟩; exact h0; rw [e] at e'; cases e') hnc)
  obtain ⟨T, hT⟩ : ∃ T, turnedV V.r V.s V.D V.S V.o V.n (sprV V.r q V.D V.S E V.o V.n) = T := ⟨_, rfl⟩
  rw [hT] at CSp lt1 lt2
  have CLk := hide (fun (W : World) (ta tb : Option Addr) (tc td : Nat) (hW : Below W0.heap.size W0 W) (vo : VOwn W0.heap.size W ta tb T.r T.s T.D T.S) => lookG W.heap.size (some a) b ta tb r s r dap T.r T.s tc td D S T.D T.S T.o T.n W (Nat.le_refl _) (((h.below (bl.mono hB)).below (hW.mono (by omega))).mono (by have := hW.size; omega)) (((h'.below (bl.mono hB)).below (hW.mono (by omega))).mono (by have := hW.size; omega)) vo.d.ints vo.t.ints hr hs (by omega) (by omega) (fun e => by rcases vo.d with h0 | ⟨g, e', _⟩; exact h0; rw [e] at e'; cases e'))
  have EZ := hide (show (let v := turnedV (wholeV r D).r (wholeV r D).s (wholeV r D).D (wholeV r D).S (wholeV r D).o (wholeV r D).n (sprV (wholeV r D).r q (wholeV r D).D (wholeV r D).S E (wholeV r D).o (wholeV r D).n); lookP r s D S v.r v.s v.D v.S v.o v.n) = lookP r s D S T.r T.s T.D T.S T.o T.n by rw [hV]; simp only [hT])
  obtain ⟨L, hL⟩ : ∃ L, lookP r s D S T.r T.s T.D T.S T.o T.n = L := ⟨_, rfl⟩
  rw [hL] at CLk EZ
  have BL := hide bl
  have HS0 := hide hs0
  have N0 := hide n0
  have M0 := hide m0
  have G0 := hide g0
  have F0 := hide (fun (W : World) (hW : Below W0.heap.size W0 W) => N0.out.below hW (by have := HS0.out; omega))
  have F1 := hide (fun (W : World) (hW : Below W0.heap.size W0 W) => M0.out.below hW (by have := HS0.out; omega))
  have F2 := hide (fun (W : World) (hW : Below W0.heap.size W0 W) => G0.out.below hW (by have := HS0.out; omega))
  have F3 := hide (fun (W : World) (hW : Below W0.drew.heap.size W0.drew W) => show Below W0.heap.size W0 W from (Below.refl _ _).drew.trans hW)
  have F4 := hide (fun (W W' : World) (h1 : Below W0.heap.size W0 W) (h2 : Below W.heap.size W W') => h1.trans (h2.mono h1.size))
  have F5 := hide (fun (W W' : World) (ta tb : Option Addr) (h1 : Below W0.heap.size W0 W) (h2 : Below W.heap.size W W') (vo : VOwn W.heap.size W' ta tb T.r T.s T.D T.S) => vo.mono h1.size)
  have F6 := hide (fun (W W' : World) (v : Option Addr × Option Addr) (h1 : Below W0.heap.size W0 W) (h2 : Below W.heap.size W W') (vo : VOwn W.heap.size W' v.1 v.2 L.r L.s L.D L.S) => vo.mono h1.size)
  obtain ⟨x0, x1⟩ := n0
  clear h h' hI bl hs0 m0 g0 lw1 lw2 lt1 lt2 lt3 lt4 hV hT hL
  go_enter Try.func39, Try.ntmps39
  go_wp2_with fail
  clear hW0
  go_region_held3 (fun w' => w'.cell? ⟨w.heap.size, 0, none⟩ = some (.slice (some a) r r) ∧ w'.cell? ⟨w.heap.size, 1, none⟩ = some (.slice b s dap))
    ((try dsimp only) <;> (repeat' apply And.intro) <;> (repeat (first | with_reducible assumption | with_reducible apply drew_old | (with_reducible apply se_old; (focus (first | (dsimp only; omega) | (simp; done) | (simp; omega)))) | assumption)))
    (first
    | (go_at_call 68
       refine CW.out.mono ?_
       rintro e w1 ⟨ta, tb, tc, td, rfl, vo, b1⟩
       have bb1 := hide (F3.out w1 b1)
       obtain ⟨u0, u1⟩ := F0.out w1 bb1.out
       have VO1 := hide vo
       clear b1 vo)
    | (go_at_call 67
       refine (CSp.out _ ta tb tc td bb1.out VO1.out).mono ?_
       rintro e w2 ⟨pa, pb, pc, pd, rfl, vo, b2⟩
       have bb2 := hide (F4.out _ w2 bb1.out b2)
       obtain ⟨r0, r1⟩ := F0.out w2 bb2.out
       have VO2 := hide (F5.out _ _ _ _ bb1.out b2 vo)
       clear b2 vo)
    | (go_at_call 66
       refine (CLk.out _ pa pb pc pd bb2.out VO2.out).mono ?_
       rintro e w3 ⟨qa, qb, qc, qd, rfl, tz, b3⟩
       have bb3 := hide (F4.out _ w3 bb2.out b3)
       obtain ⟨m0, m1⟩ := F0.out w3 bb3.out
       obtain ⟨y0, y1⟩ := F1.out w3 bb3.out
       have gg := F2.out w3 bb3.out
       unfold Free at gg
       have TZ := hide (F6.out _ _ (qa, qb) bb2.out b3 tz)
       clear b3 tz))
  all_goals (go_wp2_with fail)
  all_goals (refine bodyPost_ret (v := .agg #[.slice qa L.r qc, .slice qb L.s qd]) (by simp [results, Try.results39, go_sem, y0, y1]) rfl ?_)
  all_goals (rw [EZ.out])
  all_goals (exact tens_end TZ.out (P := w.heap.size + 1) (by have := HS0.out; omega) (by omega) (BL.out.trans (bb3.out.mono BL.out.size)))
end Vo
end Go.Proofs.Ytejfodkobfdelaa

/- Two: what spreadTo answers, plain. -/
namespace Go.Proofs.Ytejfodkobfdelaa
namespace Vo
open Go.ChangeShapes Go.WideShapes Go.ChangeAt Go.RowKit Go.Joins
open Vl Vp Vr
set_option linter.unusedVariables false
set_option linter.unusedSimpArgs false

/-- a tensor spread to these dims -/
def sprT (r s : Nat) (D S : Nat → Int) (q : Nat) (E : Nat → Int) : PT := if tok r s D S = true ∧ SprOk r q D E then ⟨q, cntT q E, E, sprN r q D S E⟩ else PT.zero
theorem sprV_vok {r q : Nat} {D E : Nat → Int} (hD : dok r D = true) (h : SprOk r q D E) : vok q q E (sprS r q D (stW D r) E r) 0 (szR D r) = true := by
  have hd := fun i (hi : i < r) => (dok_len hD hi).1
  have hE := fun i (hi : i < q) => (dok_len h.1 hi).1
  have pl := fun k => spr_place h hd k hE
  have rg := fun k => od_rng D (sprI r q D (dg E q k)) r (sprI_rng h hd (dg_rng E q hE k))
  have dp := dok_pr hD
  obtain ⟨k1, _, _, e1⟩ := lo_at (S := sprS r q D (stW D r) E r) q hE
  obtain ⟨k2, _, _, e2⟩ := hi_at (S := sprS r q D (stW D r) E r) q hE
  have a1 := rg k1
  have a2 := rg k2
  rw [← pl, e1] at a1
  rw [← pl, e2] at a2
  have p1 := pr_pos hd
  have sz := szR_rng D r
  rw [vok_iff]
  refine ⟨h.1, rfl, by omega, by omega, by omega, by omega, fun j hj => ?_, by omega, by omega⟩
  unfold sprS
  split
  · unfold stW
    split
    · omega
    · have := bh_le hd (r - 1 - (j - (q - r))) (by omega)
      omega
  · omega
theorem wholeV_vok {r : Nat} {D : Nat → Int} (hD : dok r D = true) : vok r r D (stW D r) 0 (szR D r) = true := by
  have := sprV_vok (E := D) hD ⟨hD, Nat.le_refl _, fun i hi => .inl (by rw [show r - r + i = i by omega])⟩
  rw [← this]
  refine vok_same (fun j hj => rfl) (fun j hj => ?_)
  unfold sprS
  rw [if_pos ⟨by omega, by omega, by rw [show j - (r - r) = j by omega]⟩, show j - (r - r) = j by omega]
theorem spreadP (r s : Nat) (D S : Nat → Int) (q : Nat) (E : Nat → Int) : (let v := turnedV (wholeV r D).r (wholeV r D).s (wholeV r D).D (wholeV r D).S (wholeV r D).o (wholeV r D).n (sprV (wholeV r D).r q (wholeV r D).D (wholeV r D).S E (wholeV r D).o (wholeV r D).n); lookP r s D S v.r v.s v.D v.S v.o v.n) = sprT r s D S q E := by
  by_cases ht : tok r s D S = true
  rotate_left
  · unfold sprT
    rw [if_neg (fun q => ht q.1)]
    exact lookP_no (fun q => ht q.1)
  have tp := tok_parts ht
  rw [wholeV_yes tp.1]
  dsimp only
  by_cases hs : SprOk r q D E
  · rw [sprV_yes hs]
    have hv := sprV_vok tp.1 hs
    have e : turnedV r r D (stW D r) 0 (szR D r) ⟨q, q, E, sprS r q D (stW D r) E r, 0, szR D r⟩ = ⟨q, q, E, sprS r q D (stW D r) E r, 0, szR D r⟩ := by
      unfold turnedV
      rw [if_pos (wholeV_vok tp.1)]
      unfold PV.orZero PV.ok
      rw [if_pos hv]
    rw [e]
    dsimp only
    rw [lookP_yes ⟨ht, hv, tp.2.1⟩]
    unfold sprT
    rw [if_pos ⟨ht, hs⟩]
    have e1 : cntS q q E (sprS r q D (stW D r) E r) 0 (szR D r) = cntT q E := by unfold cntS cntT; rw [if_pos hv]
    have e2 : (fun j : Nat => S (plcN E (sprS r q D (stW D r) E r) q 0 j).toNat) = sprN r q D S E := by
      funext j
      unfold plcN sprN
      rw [spr_place hs (fun i hi => (dok_len tp.1 hi).1) j (fun i hi => (dok_len hs.1 hi).1), Int.zero_add]
    rw [e1, e2]
  · have ez : turnedV r r D (stW D r) 0 (szR D r) PV.zero = PV.zero := by
      unfold turnedV PV.orZero
      split <;> first | rfl | (split <;> rfl)
    rw [sprV_no hs, ez]
    unfold sprT
    rw [if_neg (fun q => hs q.2)]
    exact lookP_no (fun q => by have := (vok_iff.1 q.2.1).2.2.1; exact absurd this (by decide))
theorem sprT_le (r s : Nat) (D S : Nat → Int) (q : Nat) (E : Nat → Int) : (sprT r s D S q E).r ≤ q ∧ (((sprT r s D S q E).s : Nat) : Int) ≤ 4096 := by
  unfold sprT
  split
  · exact ⟨Nat.le_refl _, cntT_le _ _⟩
  · exact ⟨Nat.zero_le _, by simp [PT.zero]⟩
theorem sprT_no {r s : Nat} {D S : Nat → Int} {q : Nat} {E : Nat → Int} (h : ¬ (tok r s D S = true ∧ SprOk r q D E)) : tok (sprT r s D S q E).r (sprT r s D S q E).s (sprT r s D S q E).D (sprT r s D S q E).S = false := by
  unfold sprT
  rw [if_neg h]
  exact tok_no2 (by simp [PT.zero, szR, dok, pr])
theorem sprT_yes {r s : Nat} {D S : Nat → Int} {q : Nat} {E : Nat → Int} (h : tok r s D S = true ∧ SprOk r q D E) : sprT r s D S q E = ⟨q, cntT q E, E, sprN r q D S E⟩ := by unfold sprT; rw [if_pos h]
theorem sprN_isN {r s : Nat} {D S : Nat → Int} {q : Nat} {E : Nat → Int} (h : tok r s D S = true) (h' : SprOk r q D E) (k : Nat) : isN (sprN r q D S E k) := by
  have tp := tok_parts h
  have hd := fun i (hi : i < r) => (dok_len tp.1 hi).1
  have hE := fun i (hi : i < q) => (dok_len h'.1 hi).1
  have o := od_rng D (sprI r q D (dg E q k)) r (sprI_rng h' hd (dg_rng E q hE k))
  have := tp.2.2 (od D (sprI r q D (dg E q k)) r).toNat (by have := (dok_pr tp.1).1; have := tp.2.1; omega)
  exact this
theorem sprT_tok {r s : Nat} {D S : Nat → Int} {q : Nat} {E : Nat → Int} (h : tok r s D S = true) (h' : SprOk r q D E) : tok q (cntT q E) E (sprN r q D S E) = true :=
  tok_yes h'.1 (cntT_cast _ _) (fun k _ => sprN_isN h h' k)
end Vo
end Go.Proofs.Ytejfodkobfdelaa
