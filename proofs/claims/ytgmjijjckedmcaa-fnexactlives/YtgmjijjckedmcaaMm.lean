/- Lives of a nest in the model. -/
import Derived.Test.YtgmjijjckedmcaaMl
namespace Go.Proofs.Ytgmjijjckedmcaa
namespace Vo
open Go.ChangeShapes Go.WideShapes Go.ChangeAt Go.RowKit Go.Joins Go.Sort
open Vl Vp
set_option linter.unusedVariables false
set_option linter.unusedSimpArgs false
def mvl (x : MV) : List Value := [.int .i64 x.b, .int .i64 x.s, .int .i64 x.f, .int .i64 x.t]
def mvs (C : Nat → MV) : Nat → List Value | 0 => [] | n + 1 => mvs C n ++ mvl (C n)
theorem mvs_len (C : Nat → MV) : ∀ n, (mvs C n).length = n * 4
  | 0 => rfl
  | n + 1 => by unfold mvs; rw [List.length_append, mvs_len C n]; simp [mvl]; omega
theorem mvs_get (C : Nat → MV) {d : Nat} (hd : d < 4) : ∀ (n i : Nat), i < n → (mvs C n)[i * 4 + d]? = (mvl (C i))[d]?
  | 0, i, h => by omega
  | n + 1, i, h => by
    unfold mvs
    by_cases c : i = n
    · subst c
      rw [List.getElem?_append_right (by rw [mvs_len]; omega), mvs_len]
      congr 1
      omega
    · rw [List.getElem?_append_left (by rw [mvs_len]; omega)]
      exact mvs_get C hd n i (by omega)
theorem mvs_same {C D : Nat → MV} : ∀ n, (∀ i, i < n → D i = C i) → mvs D n = mvs C n
  | 0, _ => rfl
  | n + 1, h => by unfold mvs; rw [mvs_same n (fun i hi => h i (by omega)), h n (by omega)]
/-- a list of lives that may grow -/
def RowM (B : Nat) (w : World) (v : Value) (n : Nat) (C : Nat → MV) : Prop := w.ownsRow B 54 4 v n (mvs C n) ∧ ∀ i, i < n → bd (C i).b ∧ bd (C i).s ∧ bd (C i).f ∧ bd (C i).t
theorem RowM.slice {B : Nat} {w : World} {v : Value} {n : Nat} {C : Nat → MV} (h : RowM B w v n C) : ∃ a c, v = .slice a n c ∧ LM w.heap.size w a n C := by
  obtain ⟨h, hb⟩ := h
  have h0 := h
  obtain ⟨_, ⟨rfl, rfl⟩ | ⟨g, cap, cur, rfl, hg, hh, rest⟩⟩ := h
  · exact ⟨none, 0, rfl, .inl rfl⟩
  · refine ⟨_, _, rfl, ?_⟩
    by_cases n0 : n = 0
    · exact .inl n0
    · have cell : ∀ i, i < n → ∀ d, d < 4 → w.cell? ⟨g, 0 + i * 4 + d, none⟩ = (mvl (C i))[d]? := by
        intro i hi d hd
        have q := mvs_get C hd n i hi
        have e : ∃ u, (mvl (C i))[d]? = some u := ⟨_, List.getElem?_eq_getElem (by simpa [mvl] using hd)⟩
        obtain ⟨u, hu⟩ := e
        rw [hu] at q ⊢
        have r := h0.cells (g := g) rfl (i * 4 + d) u q
        rw [Go.WideShapes.add_plain] at r
        rw [show 0 + i * 4 + d = 0 + (i * 4 + d) by omega]
        exact r
      refine .inr ⟨g, 0, rfl, World.block_lt_of_cell? (u := .int .i64 (C 0).b) _ ⟨g, 0 + 0 * 4 + 0, none⟩ (cell 0 (by omega) 0 (by omega)), fun i hi => ⟨⟨cell i hi 0 (by omega), cell i hi 1 (by omega), cell i hi 2 (by omega), cell i hi 3 (by omega)⟩, hb i hi⟩⟩
theorem RowM.below {B : Nat} {w w' : World} {v : Value} {n : Nat} {C : Nat → MV} (h : RowM B w v n C) (hb : Below w.heap.size w w') : RowM B w' v n C := ⟨own_below h.1 hb, h.2⟩
theorem growM {base : Nat} {W1 X X3 : World} {v : Value} {m : Nat} {C : Nat → MV} (R : RowM base X v m C) (o : Obj) (os : X3.os = (X.alloc o).os) (tape : X3.tape = (X.alloc o).tape) (output : X3.output = (X.alloc o).output) (size : (X.alloc o).heap.size ≤ X3.heap.size) (blk : ∀ b, b < (X.alloc o).heap.size → ¬ v.ownBlock = some b → X3.heap[b]? = (X.alloc o).heap[b]?) (hb : Below base W1 X) (hB : base ≤ X.heap.size) : Below base W1 X3 := by
  have KA : Kept (fun b => v.ownBlock = some b) X X3 := (Kept.of_below ((Below.refl _ X).alloc (Nat.le_refl _) o)).trans ⟨os, tape, output, size, blk⟩
  exact hb.trans (KA.below hB (fun b hj => (R.1.lt b hj).1))
theorem life_bd {v : NV} {b : Nat} (hs : bd (v.SD b)) (hb : (b : Int) ≤ 1048576) (hk : (v.kn : Int) ≤ 1048576) : bd (lifeV v b).b ∧ bd (lifeV v b).s ∧ bd (lifeV v b).f ∧ bd (lifeV v b).t := by
  have f1 := fs_lt v.KK b v.kn
  have l1 := ls_rng v.KK b v.kn
  unfold lifeV
  refine ⟨by unfold bd; dsimp only; omega, hs, ?_, ?_⟩
  · unfold bd; dsimp only; split
    · omega
    · split <;> omega
  · unfold bd; dsimp only; split <;> omega
theorem infoLife : (Try.prog.info? 54).map (fun i => (i.zero, i.size, i.bytes)) = some (some (.agg #[.int .i64 0, .int .i64 0, .int .i64 0, .int .i64 0]), 4, 32) := by kernel_rfl
set_option maxRecDepth 100000 in
set_option maxHeartbeats 8000000 in
theorem specLives (B : Nat) (v : NV) (w : World) (hB : B ≤ w.heap.size) (h : v.read B w) (hl : v.len 1048576) (hok : NOk v) :
    Calls Try.prog 6 #[v.val] w fun e w' => ∃ a c, e = .returned (.slice a (lvn v) c) ∧ LM w'.heap.size w' a (lvn v) (LVS v) ∧ Below w.heap.size w w' := by
  obtain ⟨i0, hi0, hii⟩ := Option.map_eq_some_iff.1 infoLife
  simp only [Prod.mk.injEq] at hii
  obtain ⟨hz0, hz1, hz2⟩ := hii
  have SB := hide (fun (b : Nat) (hb : b < v.sn) => show bd (v.SD b) from by
    rcases h.1 with h0 | ⟨_, _, _, _, hc⟩
    · omega
    · exact (hc b hb).2)
  have HR := hide h
  have HL := hide hl
  have OK := hide hok
  obtain ⟨Z, hZ⟩ : ∃ Z, w.alloc (.cells #[.slice v.sa v.sn v.scap, .slice v.ia v.i v.icap, .slice v.fa v.fn v.fcap, .slice v.ka v.kn v.kcap, .slice v.oa v.on v.ocap] 33) = Z := ⟨_, rfl⟩
  have BL := hide (show Below w.heap.size w Z by rw [← hZ]; exact (Below.refl _ _).alloc (Nat.le_refl _) _)
  have p := Cells5.new w (.slice v.sa v.sn v.scap) (.slice v.ia v.i v.icap) (.slice v.fa v.fn v.fcap) (.slice v.ka v.kn v.kcap) (.slice v.oa v.on v.ocap) 33
  rw [hZ] at p
  have C1 := hide p
  have z1 : w.heap.size < Z.heap.size := World.block_lt_of_cell? _ _ p.1
  have hB1 : B ≤ Z.heap.size := by omega
  have sn200 : (v.sn : Int) ≤ 200 := by have := hok.1.1; omega
  have kn400 : (v.kn : Int) ≤ 400 := by have := hok.1.2.2.2; omega
  obtain ⟨Y, hY⟩ : ∃ Y, Z.alloc (.cells #[] 54) = Y := ⟨_, rfl⟩
  have bY : Below Z.heap.size Z Y := by rw [← hY]; exact (Below.refl _ _).alloc (Nat.le_refl _) _
  have R0 := hide (show RowM Z.heap.size Y (.slice (some ⟨Z.heap.size, 0, none⟩) 0 0) 0 (fun _ => ⟨0, 0, 0, 0⟩) by rw [← hY]; exact ⟨⟨rfl, .inr ⟨Z.heap.size, 0, #[], rfl, Nat.le_refl _, heap_alloc_new Z _, Nat.le_refl _, by simp [maxLen], rfl, rfl⟩⟩, fun m hm => by omega⟩)
  have BY := hide bY
  have CN := hide (specNestOk B v Y (Nat.le_trans hB1 bY.size) (h.below ((BL.out.trans (bY.mono BL.out.size)).mono hB)) hl)
  rw [decide_eq_true hok] at CN
  have CLF := hide (fun (W : World) (hW : Below Z.heap.size Z W) (b : Nat) (hb : b < v.sn) => lifeF B v b W (Nat.le_trans hB1 hW.size) (HR.out.below ((BL.out.trans (hW.mono BL.out.size)).mono hB)) HL.out hb)
  unfold NV.val at CN CLF ⊢
  obtain ⟨p0, p1, p2, p3, p4⟩ := C1.out.below bY z1
  clear h hl hok p bY
  go_enter Try.func6, Try.ntmps6
  go_wp2_with fail
  refine CN.out.mono ?_
  rintro e1 W2 ⟨rfl, b2⟩
  have B2 := hide (BY.out.trans (b2.mono BY.out.size))
  have R2 := hide (R0.out.below b2)
  clear b2 CN p0 p1 p2 p3 p4 R0 hY hZ
  obtain ⟨p0, p1, p2, p3, p4⟩ := C1.out.below B2.out z1
  go_wp2_with fail
  clear p0 p1 p2 p3 p4
  go_loopw [3, 4] (fun g t wx => ∃ (k : Nat) (a : Option Addr) (c : Nat) (C : Nat → MV), k ≤ v.sn ∧ t = .int .i64 k ∧ g = .slice a (lvs v k).length c ∧ RowM Z.heap.size wx (.slice a (lvs v k).length c) (lvs v k).length C ∧ (∀ q, q < (lvs v k).length → C q = lifeV v ((lvs v k).getD q 0)) ∧ Below Z.heap.size Z wx) (fun _ t _ => v.sn - (intOf t).toNat)
  case atStart => exact ⟨0, _, _, _, Nat.zero_le _, rfl, rfl, R2.out, fun q hq => by have : (lvs v 0).length = 0 := rfl; omega, B2.out⟩
  case round =>
    obtain ⟨X, rfl⟩ : ∃ X, X = wr := ⟨_, rfl⟩
    obtain ⟨k, a, c, C, hk, rfl, rfl, hrv, he, hby⟩ := hrel
    have RV := hide hrv
    have HE := hide he
    have HBY := hide hby
    have zX := hby.size
    obtain ⟨p0, p1, p2, p3, p4⟩ := C1.out.below hby z1
    clear hrv he hby
    by_cases hlt : k < v.sn
    case neg =>
      obtain rfl : k = v.sn := by omega
      go_wp2_with fail
      go_ret
      obtain ⟨a', c', e, r⟩ := RV.out.slice
      cases e
      refine ⟨a, c, rfl, ?_, BL.out.trans (HBY.out.mono BL.out.size)⟩
      rcases r with r | ⟨blk, off, e1, e2, e3⟩
      · exact .inl r
      · exact .inr ⟨blk, off, e1, e2, fun i hi => by have := e3 i hi; rw [HE.out i hi] at this; exact this⟩
    have kI : (k : Int) < v.sn := by omega
    have CL := hide (CLF.out X HBY.out k hlt)
    have LS := hide (lvs_succ v k)
    have LB := hide (life_bd (SB.out k hlt) (by omega) (by omega))
    have ll := lvs_len v k
    obtain ⟨n, hn⟩ : ∃ n, (lvs v k).length = n := ⟨_, rfl⟩
    rw [hn] at ll
    have EN := hide hn
    rw [hn] at RV ⊢
    obtain ⟨x, hx⟩ : ∃ x, lifeV v k = x := ⟨_, rfl⟩
    rw [hx] at CL LB
    have EX := hide hx
    clear hn hx
    cases hb : lifeB v k with
    | false =>
      rw [hb] at CL LS
      rw [if_neg (by simp)] at LS
      clear hb
      go_wp2_with fail
      refine CL.out.mono ?_
      rintro e1 X1 ⟨rfl, b1⟩
      have B1 := hide ((b1.trans ((Below.refl X1.heap.size X1).alloc (Nat.le_refl _) (.cells #[.int .i64 x.b, .int .i64 x.s, .int .i64 x.f, .int .i64 x.t] 54) |>.mono b1.size)))
      clear b1 CL
      go_wp2_with fail
      go_roundw
      all_goals first
        | (simp only [intOf]; omega)
        | (simp [intOf]; omega)
        | exact ⟨k + 1, a, c, C, by omega, by go_num, by rw [LS.out, EN.out], by rw [LS.out, EN.out]; exact RV.out.below B1.out, fun q hq => by rw [LS.out] at hq ⊢; exact HE.out q hq, HBY.out.trans (B1.out.mono zX)⟩
    | true =>
      rw [hb] at CL LS
      rw [if_pos rfl] at LS
      clear hb
      go_wp2_with fail
      refine CL.out.mono ?_
      rintro e1 X1 ⟨rfl, b1⟩
      obtain ⟨U, hU⟩ : ∃ U, X1.alloc (.cells #[.int .i64 x.b, .int .i64 x.s, .int .i64 x.f, .int .i64 x.t] 54) = U := ⟨_, rfl⟩
      have bU : Below X1.heap.size X1 U := by rw [← hU]; exact (Below.refl _ _).alloc (Nat.le_refl _) _
      have mx := MX.new X1 x 54
      rw [hU] at mx
      obtain ⟨⟨m0, m1, m2, m3⟩, _⟩ := mx
      have BU := hide (b1.trans (bU.mono b1.size))
      have RU := hide (RV.out.below BU.out)
      have HU := hide (HBY.out.trans (BU.out.mono zX))
      have zU := HU.out.size
      have MS := hide (show mvs C n ++ [.int .i64 x.b, .int .i64 x.s, .int .i64 x.f, .int .i64 x.t] = mvs (fun q => if q = n then x else C q) (n + 1) by
        show _ = mvs (fun q => if q = n then x else C q) n ++ mvl (if n = n then x else C n)
        rw [mvs_same n (C := C) (D := fun q => if q = n then x else C q) (fun i hi => if_neg (by omega)), if_pos rfl]
        rfl)
      clear b1 bU CL
      go_wp2_with (at_builtin; refine wpList_append_own _ rfl _ _ 28 rfl Z.heap.size 54 i0 (.agg #[.int .i64 0, .int .i64 0, .int .i64 0, .int .i64 0]) 4 32 Try.underlying28 hi0 hz0 hz1 hz2 rfl (by decide) _ _ _ rfl (RU.out.1.alloc _) ⟨U.heap.size, 0, none⟩ 1 1 [.int .i64 x.b, .int .i64 x.s, .int .i64 x.f, .int .i64 x.t] rfl rfl (World.news_of_block (cs := #[.int .i64 x.b, .int .i64 x.s, .int .i64 x.f, .int .i64 x.t]) (t := 54) (fr := (0, 0)) (heap_alloc_new U _)) (by simp [Value.oneCell']) (by unfold maxLen; omega) (by omega) (by simp; omega) ?_; intro v' X3 hown1 hgrow1 _)
      go_roundw
      case rel =>
        rw [MS.out] at hown1
        have rv : RowM Z.heap.size X3 v' (n + 1) (fun q => if q = n then x else C q) := ⟨hown1, fun q hq => by
          dsimp only
          split
          · exact LB.out
          · exact RV.out.2 q (by omega)⟩
        obtain ⟨a', c', rfl, _⟩ := RowM.slice rv
        refine ⟨k + 1, a', c', (fun q => if q = n then x else C q), by omega, by go_num, ?_, ?_, ?_, growM RU.out _ hgrow1.os hgrow1.tape hgrow1.output hgrow1.size (fun b hb hn => hgrow1.block b hb (fun q => hn q.symm)) HU.out zU⟩
        · rw [LS.out, List.length_append, EN.out]; rfl
        · rw [LS.out, List.length_append, EN.out]; exact rv
        · intro q hq
          rw [LS.out, getD_app, EN.out]
          rw [LS.out, List.length_append, EN.out] at hq
          have hq : q < n + 1 := hq
          show (if q = n then x else C q) = _
          by_cases c : q = n
          · rw [if_pos c, if_pos c, EX.out]
          · rw [if_neg c, if_neg c]; exact HE.out q (by rw [EN.out]; omega)
      case measure => simp [intOf]; omega
end Vo
end Go.Proofs.Ytgmjijjckedmcaa
