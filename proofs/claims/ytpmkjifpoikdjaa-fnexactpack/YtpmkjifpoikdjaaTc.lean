/- elementwise; Fill on both sides. -/
import Derived.Test.YtpmkjifpoikdjaaTb
import Derived.Test.YtpmkjifpoikdjaaVag
import Derived.Test.YtpmkjifpoikdjaaBase
namespace Go.Proofs.Ytpmkjifpoikdjaa
namespace Vo
open Go.ChangeShapes Go.WideShapes Go.ChangeAt Go.RowKit Go.Joins
open Vl Vp Vr
set_option linter.unusedVariables false
set_option linter.unusedSimpArgs false

/-- a tensor, plain -/
structure PT where
  r : Nat
  s : Nat
  D : Nat → Int
  S : Nat → Int
def PT.zero : PT := ⟨0, 0, fun _ => 0, fun _ => 0⟩
/-- a tensor that is answered: of one's own, from B on -/
def TensR (B : Nat) (v : PT) (w : World) (e : Ending) (w' : World) : Prop :=
  ∃ a b c d, e = .returned (.agg #[.slice a v.r c, .slice b v.s d]) ∧ VOwn B w' a b v.r v.s v.D v.S ∧ Below w.heap.size w w'
theorem tensR_zero {B : Nat} {w w' : World} (hb : Below w.heap.size w w') : TensR B PT.zero w (.returned (.agg #[.slice none 0 0, .slice none 0 0])) w' :=
  ⟨none, none, 0, 0, rfl, ⟨.inl rfl, .inl rfl, fun k h => absurd rfl h.1⟩, hb⟩
theorem kept_sets2 (w : World) (p : Nat) (u0 u1 : Value) : Kept (· = p) w ((w.setCell ⟨p, 0, none⟩ u0).setCell ⟨p, 1, none⟩ u1) :=
  (Kept.setCell w ⟨p, 0, none⟩ u0).trans (Kept.setCell _ ⟨p, 1, none⟩ u1)
theorem kept_drew {S : Nat → Prop} {a b : World} (h : Kept S a b) : Kept S a b.drew := ⟨h.os, h.tape, h.output, h.size, h.block⟩
/-- how many numbers -/
def cntT (r : Nat) (D : Nat → Int) : Nat := (szR D r).toNat
theorem cntT_cast (r : Nat) (D : Nat → Int) : ((cntT r D : Nat) : Int) = szR D r := by unfold cntT; have := szR_rng D r; omega
theorem cntT_le (r : Nat) (D : Nat → Int) : ((cntT r D : Nat) : Int) ≤ 4096 := by rw [cntT_cast]; exact (szR_rng D r).2
def fillP (r : Nat) (D : Nat → Int) (x : Int) : PT := if dok r D = true then ⟨r, cntT r D, D, fun _ => x % 2147483647⟩ else PT.zero
theorem fillP_le (r : Nat) (D : Nat → Int) (x : Int) : (fillP r D x).r ≤ r ∧ (((fillP r D x).s : Nat) : Int) ≤ 4096 := by
  unfold fillP
  split
  · exact ⟨Nat.le_refl _, cntT_le r D⟩
  · exact ⟨Nat.zero_le _, by simp [PT.zero]⟩
set_option maxHeartbeats 1000000 in
theorem elementwise1 (N : Nat) (F : Nat) (c : Value) (G : Nat → Int) (w : World) (hN : (N : Int) ≤ 4194304) (hG : ∀ k, k < N → bd (G k)) (eF : ∀ args w, (callFunc F args).run Try.prog w = .ok (.enter F args) w)
    (hf : ∀ (k : Nat) (W : World), k < N → Below w.heap.size w W → Calls Try.prog F #[.int .i64 k, c] W fun e W' => e = .returned (.int .i64 (G k)) ∧ Below W.heap.size W W') :
    Calls Try.prog 51 #[.int .i64 N, .func (.func F) #[] #[c]] w fun e w' => e = .returned (.slice (some ⟨w.heap.size, 0, none⟩) N N) ∧ Rw w' w.heap.size N G ∧ w.heap.size < w'.heap.size ∧ Below w.heap.size w w' := by
  have hmk := make_int N (by omega)
  have HF := hide hf
  have HG := hide hG
  clear hf hG
  go_enter Try.func51, Try.ntmps51
  go_wp2_with fail
  go_loopw [11] (fun i wx => ∃ k : Nat, k ≤ N ∧ i = .int .i64 k ∧ Rw wx w.heap.size N (fun t => if t < k then G t else 0) ∧ w.heap.size < wx.heap.size ∧ Below w.heap.size w wx) (fun i _ => N - (intOf i).toNat)
  case atStart => exact ⟨0, Nat.zero_le _, rfl, (rw_new w N _).same (fun t ht => by simp), by simp, (Below.refl _ _).alloc (Nat.le_refl _) _⟩
  case round =>
    obtain ⟨k, hk, rfl, hw, hs, hb⟩ := hrel
    have HW := hide hw
    have HB := hide hb
    clear hw hb
    by_cases hlt : k < N
    · have hkI : (k : Int) < N := by omega
      go_wp2_with fail
      refine (HF.out k _ hlt HB.out).mono ?_
      rintro e w1 ⟨rfl, b1⟩
      have HW1 := hide (HW.out.below b1 hs)
      have HB1 := hide (HB.out.trans (b1.mono HB.out.size))
      have hs1 : w.heap.size < w1.heap.size := Nat.lt_of_lt_of_le hs b1.size
      obtain ⟨c2, f2, _⟩ := HW1.out k hlt
      clear b1
      go_wp2_with fail
      go_roundw
      case rel => exact ⟨k + 1, by omega, by go_num, (HW1.out.set k (G k) (HG.out k hlt)).same (fun t ht => by by_cases c : t = k <;> by_cases c2 : t < k <;> simp [c, c2] <;> omega), by simpa [World.setCell] using hs1, HB1.out.setCell (p := ⟨w.heap.size, k, none⟩) (Nat.le_refl _) _⟩
      case measure => simp [intOf]; omega
    · have e : k = N := by omega
      go_wp2_with fail
      go_ret
      exact ⟨rfl, HW.out.same (fun t ht => by simp; intro; omega), hs, HB.out⟩
theorem fill1 (k : Int) (P : Nat) (y : Int) (w : World) (h : w.cell? ⟨P, 0, none⟩ = some (.int .i64 y)) :
    Calls Try.prog 81 #[.int .i64 k, .pointer (some ⟨P, 0, none⟩)] w fun e w' => e = .returned (.int .i64 y) ∧ w' = w := by
  go_enter Try.func81, Try.ntmps81
  go_wp2_with fail
  go_ret
  exact ⟨rfl, rfl⟩
set_option maxRecDepth 100000 in
set_option maxHeartbeats 1000000 in
theorem fillF (B : Nat) (a : Addr) (r cap : Nat) (D : Nat → Int) (x : Int) (w : World) (hB : B ≤ w.heap.size) (h : Ints B w (some a) r D) (hr : (r : Int) ≤ 1048576) (hx : bd x) :
    Calls Try.prog 66 #[.slice (some a) r cap, .int .i64 x] w fun e w' => TensR w.heap.size (fillP r D x) w e w' := by
  obtain ⟨W0, hW0⟩ : ∃ W0, (w.alloc (.cells #[.int .i64 x] 3)).alloc (.cells #[.slice none 0 0, .slice none 0 0] 37) = W0 := ⟨_, rfl⟩
  have hs0 : W0.heap.size = w.heap.size + 1 + 1 := by rw [← hW0]; simp
  have bl : Below w.heap.size w W0 := by rw [← hW0]; exact ((Below.refl _ _).alloc (Nat.le_refl _) _).alloc (by simp) _
  have x0 : W0.cell? ⟨w.heap.size, 0, none⟩ = some (.int .i64 x) := by rw [← hW0]; simp [go_sem]
  have x1 : W0.frozen? ⟨w.heap.size, 0, none⟩ = false := by rw [← hW0]; simp [go_sem]
  have m0 : Bx W0 (w.heap.size + 1) (.slice none 0 0) (.slice none 0 0) := by
    have q := bx_new (w.alloc (.cells #[.int .i64 x] 3)) (.slice none 0 0) (.slice none 0 0) 37
    rw [World.size_alloc] at q
    rw [← hW0]; exact q
  have g0 : Free W0 (w.heap.size + 1) := by
    have q := free_new (w.alloc (.cells #[.int .i64 x] 3)) #[.slice none 0 0, .slice none 0 0] 37
    rw [World.size_alloc] at q
    rw [← hW0]; exact q
  have H := hide (h.below (bl.mono hB))
  have BL := hide bl
  have HS0 := hide hs0
  have M0 := hide m0
  have G0 := hide g0
  obtain ⟨y0, y1⟩ := M0.out
  have gg := G0.out
  unfold Free at gg
  clear h bl m0 g0 hs0
  go_enter Try.func66, Try.ntmps66
  go_wp2_with fail
  clear hW0
  refine (Vs.dimsOk B (some a) r cap D _ H.out hr).mono ?_
  rintro e w1 ⟨rfl, hq⟩
  have hq := hq.symm
  subst hq
  cases hd : dok r D with
  | false =>
    have ez := hide (show fillP r D x = PT.zero by unfold fillP; rw [hd]; simp)
    clear hd
    go_wp2_with fail
    refine bodyPost_ret (v := .agg #[.slice none 0 0, .slice none 0 0]) (by simp [results, Try.results66, go_sem, y0, y1]) rfl (by
      rw [ez.out]
      refine tensR_zero ?_
      repeat (refine Below.setCell ?_ (by simp) _)
      exact BL.out)
  | true =>
    have ez := hide (show fillP r D x = ⟨r, cntT r D, D, fun _ => x % 2147483647⟩ by unfold fillP; rw [hd]; simp)
    have HD := hide hd
    obtain ⟨N, hN⟩ : ∃ N, cntT r D = N := ⟨_, rfl⟩
    have eN := hide (show sz r D = (N : Int) by rw [sz_dok hd, ← hN, cntT_cast])
    have lN : (N : Int) ≤ 4096 := by rw [← hN]; exact cntT_le r D
    rw [hN] at ez
    clear hd hN
    go_wp2_with fail
    refine (Base.implMod x _ hx.1 hx.2).mono ?_
    rintro e w1 ⟨rfl, hq⟩
    have hq := hq.symm
    subst hq
    obtain ⟨y, hy⟩ : ∃ y, x % 2147483647 = y := ⟨_, rfl⟩
    have by' : bd y := by unfold bd; omega
    rw [hy] at ez ⊢
    clear hy
    obtain ⟨W1, hW1⟩ : ∃ W1, W0.setCell ⟨w.heap.size, 0, none⟩ (.int .i64 y) = W1 := ⟨_, rfl⟩
    have s1 : W1.heap.size = w.heap.size + 1 + 1 := by rw [← hW1, show (W0.setCell ⟨w.heap.size, 0, none⟩ (.int .i64 y)).heap.size = W0.heap.size by simp [World.setCell]]; exact HS0.out
    have B1 := hide (show Below w.heap.size w W1 by rw [← hW1]; exact BL.out.setCell (p := ⟨w.heap.size, 0, none⟩) (Nat.le_refl _) _)
    have c1 : W1.cell? ⟨w.heap.size, 0, none⟩ = some (.int .i64 y) := by rw [← hW1]; exact World.cell?_setCell_same _ _ _ x0
    have K1 := Kept.setCell W0 ⟨w.heap.size, 0, none⟩ (.int .i64 y)
    rw [hW1] at K1
    have M1 := hide (M0.out.kept K1 (by have := HS0.out; omega) (by show ¬ w.heap.size + 1 = w.heap.size; omega))
    have G1 := hide (G0.out.kept K1 (by have := HS0.out; omega) (by show ¬ w.heap.size + 1 = w.heap.size; omega))
    have H1 := hide (H.out.kept (by have := HS0.out; omega) K1 (fun b q e => by have e : b = w.heap.size := e; omega))
    have HC1 := hide c1
    clear K1
    go_wp2_with fail
    refine (Vs.sizeOf B (some a) r cap D _ H1.out hr).mono ?_
    rintro e w1 ⟨rfl, hq⟩
    have hq := hq.symm
    subst hq
    rw [eN.out]
    clear hW1 x0 x1 y0 y1 gg
    go_wp2_with fail
    refine (elementwise1 N 81 (.pointer (some ⟨w.heap.size, 0, none⟩)) (fun _ => y) _ (by omega) (fun _ _ => by') (enters_of Try.func81 (by kernel_rfl) rfl) (fun k W _ hW => (fill1 k w.heap.size y W ((hW.cell (p := ⟨w.heap.size, 0, none⟩) (by show w.heap.size < W1.heap.size; omega)).trans HC1.out)).mono (fun e w' q => ⟨q.1, q.2 ▸ Below.refl _ _⟩))).mono ?_
    rintro e w2 ⟨rfl, r2, s2, b2⟩
    have R2 := hide r2
    have M2 := hide (M1.out.below b2 (by omega))
    have G2 := hide (G1.out.below b2 (by omega))
    have B2 := hide (B1.out.trans (b2.mono B1.out.size))
    have H2 := hide (H1.out.below (b2.mono (by omega)))
    clear r2 b2 c1
    go_wp2_with fail
    refine (clone B (some a) r cap D _ H2.out (by omega) hr (fun e => by cases e)).mono ?_
    rintro e w3 ⟨v, rfl, rv, b3⟩
    obtain ⟨va, vc, rfl, ov⟩ := rv.own
    have M3 := hide (M2.out.below b3 (by omega))
    have G3 := hide (G2.out.below b3 (by omega))
    have B3 := hide (B2.out.trans (b3.mono B2.out.size))
    have R3 := hide (R2.out.below b3 s2)
    have OV := hide ov
    have s3 := b3.size
    clear rv b3 ov
    obtain ⟨y0, y1⟩ := M3.out
    have gg := G3.out
    unfold Free at gg
    go_wp2_with fail
    refine bodyPost_ret (v := .agg #[.slice va r vc, .slice (some ⟨w.heap.size + 1 + 1, 0, none⟩) N N]) (by simp [results, Try.results66, go_sem, y0, y1]) rfl ?_
    have k2 := kept_sets2 w3 (w.heap.size + 1) (.slice va r vc) (.slice (some ⟨w.heap.size + 1 + 1, 0, none⟩) N N)
    show TensR w.heap.size (fillP r D x) w _ _
    rw [ez.out]
    have R4 := R3.out
    rw [s1] at R4
    refine ⟨va, _, vc, N, rfl, ⟨(OV.out.kept k2 (fun b q e => ?_)).mono (by omega), .inr ⟨_, rfl, by omega, R4.kept k2 (by omega)⟩, fun j q1 q2 => ?_⟩, B3.out.trans (k2.below B3.out.size (fun j e => by have e : j = w.heap.size + 1 := e; omega))⟩
    · have := (OV.out.blk q).1
      have e : b = w.heap.size + 1 := e
      omega
    · have := (OV.out.blk q1).1
      obtain ⟨_, ad, e', e''⟩ := q2
      injection e' with e'
      subst e'
      have e'' : w.heap.size + 1 + 1 = j := e''
      omega
set_option maxRecDepth 100000 in
set_option maxHeartbeats 1000000 in
theorem l4New (B : Nat) (a : Addr) (r cap N : Nat) (D : Nat → Int) (w : World) (hB : B ≤ w.heap.size) (h : Ints B w (some a) r D) (hr : (r : Int) ≤ 1048576) (hN : szR D r = (N : Int)) (lN : (N : Int) ≤ 4096) :
    Calls Try.prog 36 #[.slice (some a) r cap] w fun e w' => ∃ va vc g, e = .returned (.agg #[.slice va r vc, .slice (some ⟨g, 0, none⟩) N N]) ∧ OwnL (w.heap.size + 1) w' va r D ∧ Rw w' g N (fun _ => 0) ∧ w.heap.size + 1 ≤ g ∧ g < w'.heap.size ∧ (∀ k, Blk va r k → k ≠ g) ∧ Below w.heap.size w w' := by
  have hmk := make_int N (by omega)
  obtain ⟨W0, hW0⟩ : ∃ W0, w.alloc (.cells #[.slice none 0 0, .slice none 0 0] 37) = W0 := ⟨_, rfl⟩
  have hs0 : W0.heap.size = w.heap.size + 1 := by rw [← hW0]; simp
  have bl : Below w.heap.size w W0 := by rw [← hW0]; exact (Below.refl _ _).alloc (Nat.le_refl _) _
  have M0 := hide (show Bx W0 w.heap.size (.slice none 0 0) (.slice none 0 0) by rw [← hW0]; exact bx_new w _ _ _)
  have G0 := hide (show Free W0 w.heap.size by rw [← hW0]; exact free_new w _ _)
  have H := hide (h.below (bl.mono hB))
  have BL := hide bl
  have HS0 := hide hs0
  have EN := hide hN
  clear h bl hs0 hN
  go_enter Try.func36, Try.ntmps36
  go_wp2_with fail
  clear hW0
  refine (l3Ints B a r cap D _ H.out (by have := HS0.out; omega) hr).mono ?_
  rintro e w1 ⟨v, rfl, rv, b1⟩
  obtain ⟨va, vc, rfl, ov⟩ := rv.own
  have zz := HS0.out
  have M1 := hide (M0.out.below b1 (by omega))
  have G1 := hide (G0.out.below b1 (by omega))
  have B1 := hide (BL.out.trans (b1.mono BL.out.size))
  have H1 := hide (H.out.below (b1.mono (by omega)))
  have OV := hide ov
  have s1 : w.heap.size < w1.heap.size := by have := b1.size; omega
  clear rv b1 ov zz
  go_wp2_with fail
  refine (Vs.l3Size B (some a) r cap D _ H1.out hr).mono ?_
  rintro e w2 ⟨rfl, hq⟩
  have hq := hq.symm
  subst hq
  rw [EN.out]
  obtain ⟨W2, hW2⟩ : ∃ W2, w1.alloc (.cells (madeCells #[.int .i64 0] N) 3) = W2 := ⟨_, rfl⟩
  have b2 : Below w1.heap.size w1 W2 := by rw [← hW2]; exact (Below.refl _ _).alloc (Nat.le_refl _) _
  have R2 := hide (show Rw W2 w1.heap.size N (fun _ => 0) by rw [← hW2]; exact rw_new w1 N _)
  have z2 : w1.heap.size < W2.heap.size := by rw [← hW2]; simp
  have M2 := hide (M1.out.below b2 s1)
  have G2 := hide (G1.out.below b2 s1)
  have B2 := hide (B1.out.trans (b2.mono B1.out.size))
  have OV2 := hide (OV.out.below b2)
  clear b2
  obtain ⟨y0, y1⟩ := M2.out
  have gg := G2.out
  unfold Free at gg
  go_wp2_with fail
  refine bodyPost_ret (v := .agg #[.slice va r vc, .slice (some ⟨w1.heap.size, 0, none⟩) N N]) (by simp [results, Try.results36, go_sem, y0, y1]) rfl ?_
  have k2 := kept_sets2 W2 w.heap.size (.slice va r vc) (.slice (some ⟨w1.heap.size, 0, none⟩) N N)
  have zz := HS0.out
  refine ⟨va, vc, w1.heap.size, rfl, (OV2.out.kept k2 (fun b q e => ?_)).mono (by omega), R2.out.kept k2 (by omega), by omega, by exact Nat.lt_of_lt_of_le z2 k2.size, fun k q e => ?_, B2.out.trans (k2.below B2.out.size (fun j e => by have e : j = w.heap.size := e; omega))⟩
  · have := (OV2.out.blk q).1
    have e : b = w.heap.size := e
    omega
  · have := (OV.out.blk q).2
    omega
end Vo
end Go.Proofs.Ytpmkjifpoikdjaa
