/- Gradients that a law draws. -/
import Derived.Test.YtflbhlepmjiejaaEs
import Derived.Test.YtflbhlepmjiejaaVc
namespace Go.Proofs.Ytflbhlepmjiejaa
namespace Vo
open Go.ChangeShapes Go.WideShapes Go.ChangeAt Go.RowKit Go.Joins Go.Sort
open Vl
set_option linter.unusedVariables false
set_option linter.unusedSimpArgs false
theorem cur_kept {B p : Nat} {a : Option Addr} {len cap : Nat} {X Y : World} {T : Nat → Prop} (h : Base.Cur B X p a len cap) (k : Kept T X Y) (hp : ¬ T p) (hT : ∀ i, T i → B ≤ i) : Base.Cur B Y p a len cap := by
  have hl := h.lt
  obtain ⟨hB, hcode, c0, ⟨i, g, c1, c2, z⟩, f1, f2⟩ := h
  have o : ∀ j, Y.cell? ⟨p, j, none⟩ = X.cell? ⟨p, j, none⟩ := fun j => World.cell?_of_block (w := X) (a := ⟨p, j, none⟩) (k.block p hl hp)
  have q : ∀ j, Y.frozen? ⟨p, j, none⟩ = X.frozen? ⟨p, j, none⟩ := fun j => World.frozen?_of_block (w := X) (a := ⟨p, j, none⟩) (k.block p hl hp)
  exact ⟨hB, hcode.below (k.below (by omega) hT), (o 0).trans c0, ⟨i, g, (o 1).trans c1, (o 2).trans c2, z⟩, (q 1).trans f1, (q 2).trans f2⟩
theorem grown_kept {w X Y : World} {p : Nat} {T : Nat → Prop} (h : w.grownBy X (some p)) (k : Kept T X Y) (hT : ∀ i, T i → w.heap.size ≤ i) : w.grownBy Y (some p) :=
  ⟨k.os.trans h.os, k.tape.trans h.tape, k.output.trans h.output, Nat.le_trans h.size k.size, fun j hj hn => (k.block j (Nat.lt_of_lt_of_le hj h.size) (fun e => by have := hT j e; omega)).trans (h.block j hj hn)⟩
theorem keptP {w w' : World} {p : Nat} (h : w.grownBy w' (some p)) : Kept (· = p) w w' := ⟨h.os, h.tape, h.output, h.size, fun k hk hn => h.block k hk (fun e => hn (Option.some.inj e))⟩
theorem keptO {w w' : World} {o : Option Nat} (h : w.grownBy w' o) : Kept (fun k => o = some k) w w' := ⟨h.os, h.tape, h.output, h.size, fun k hk hn => h.block k hk (fun e => hn e.symm)⟩
theorem row_kept {T : Nat → Prop} {B : Nat} {w w' : World} {v : Value} {r : Nat} {D : Nat → Int} (h : RowV B w v r D) (hk : Kept T w w') (hn : ∀ k, v.ownBlock = some k → ¬ T k) : RowV B w' v r D := by
  obtain ⟨⟨h1, h2⟩, hb⟩ := h
  refine ⟨⟨h1, ?_⟩, hb⟩
  rcases h2 with h2 | ⟨g, cap, cur, e, hg, hh, rest⟩
  · exact .inl h2
  · refine .inr ⟨g, cap, cur, e, hg, ?_, rest⟩
    rw [hk.block g (Array.getElem?_eq_some_iff.1 hh).1 (hn g (by rw [e]; rfl))]; exact hh
theorem ints_up (k : Nat) (D : Nat → Int) (x : Int) : ints k D ++ [.int .i64 x] = ints (k + 1) (upI D k x) := by
  rw [← ints_succ]
  have e : ints k D = ints k (upI D k x) := by
    unfold ints
    refine List.map_congr_left fun t ht => ?_
    rw [List.mem_range] at ht
    unfold upI; rw [if_neg (by omega)]
  rw [e]
  unfold upI
  rw [if_pos rfl]
theorem bd_up {k : Nat} {D : Nat → Int} {x : Int} (h : ∀ j, j < k → bd (D j)) (hx : bd x) : ∀ j, j < k + 1 → bd (upI D k x j) := fun j hj => by
  unfold upI
  split
  · exact hx
  · exact h j (by omega)
/-- a list that is being drawn -/
structure GDr (w X : World) (B p : Nat) (a : Option Addr) (len cap : Nat) (o : Value) (k : Nat) (D : Nat → Int) : Prop where
  cur : Base.Cur B X p a len cap
  gr : w.grownBy X (some p)
  row : RowV w.heap.size X o k D
section
variable {w X X' : World} {B p : Nat} {a : Option Addr} {len cap k : Nat} {o : Value} {D : Nat → Int}
theorem GDr.draw (h : GDr w X B p a len cap o k D) (pw : p < w.heap.size) (g : X.grownBy X' (some p)) (d : Base.Cur B X' p a len cap) : GDr w X' B p a len cap o k D :=
  ⟨d, h.gr.trans g, row_kept h.row (keptP g) (fun i hi e => by have := (h.row.1.lt i hi).1; have e : i = p := e; omega)⟩
theorem GDr.alloc (h : GDr w X B p a len cap o k D) (pw : p < w.heap.size) (q : Obj) : GDr w (X.alloc q) B p a len cap o k D :=
  h.draw pw (Lib.grownBy_allocR (Base.grown_refl X p) q) (h.cur.alloc q)
theorem GDr.push {o' : Value} {x : Int} {q : Obj} (h : GDr w X B p a len cap o k D) (pw : p < w.heap.size) (hB : B ≤ w.heap.size) (hx : bd x) (hown : X'.ownsRow w.heap.size 3 1 o' (k + 1) (ints k D ++ [.int .i64 x])) (hg : (X.alloc q).grownBy X' o.ownBlock) : GDr w X' B p a len cap o' (k + 1) (upI D k x) := by
  have h1 := h.alloc pw q
  have kk := keptO hg
  have lo : ∀ i, o.ownBlock = some i → w.heap.size ≤ i := fun i hi => (h.row.1.lt i hi).1
  exact ⟨cur_kept h1.cur kk (fun e => by have := lo p e; omega) (fun i e => Nat.le_trans hB (lo i e)), grown_kept h1.gr kk lo, ⟨by rw [← ints_up]; exact hown, bd_up h.row.2 hx⟩⟩
end
/-- a list was drawn -/
def GDE (w : World) (B p : Nat) (a : Option Addr) (len cap N : Nat) (e : Ending) (w' : World) : Prop :=
  ∃ (b : Option Addr) (k c : Nat) (D : Nat → Int), e = .returned (.slice b k c) ∧ k ≤ N ∧ (b = none → k = 0 ∧ c = 0) ∧ OwnL w.heap.size w' b k D ∧ Base.Cur B w' p a len cap ∧ w.grownBy w' (some p)
set_option maxHeartbeats 2000000 in
set_option maxRecDepth 100000 in
theorem drawGrad (B p : Nat) (a : Option Addr) (len cap N : Nat) (w : World) (hc : Base.Cur B w p a len cap) (hB : B ≤ w.heap.size) (hN : (N : Int) ≤ 4096) :
    Calls Try.prog 21 #[.pointer (some ⟨p, 0, none⟩), .int .i64 (N : Int)] w (GDE w B p a len cap N) := by
  obtain ⟨i0, hi0, hz0, hz1, hz2⟩ := info_parts infoInt
  have PW := Base.hide hc.lt
  have H0 := Base.hide (show GDr w (w.alloc (.cells #[] 3)) B p a len cap (.slice (some ⟨w.heap.size, 0, none⟩) 0 0) 0 (fun _ => 0) from
    ⟨hc.alloc _, Lib.grownBy_allocR (Base.grown_refl w p) _, ⟨⟨rfl, .inr ⟨w.heap.size, 0, #[], rfl, Nat.le_refl _, heap_alloc_new w _, Nat.le_refl _, by simp [maxLen], rfl, rfl⟩⟩, fun j hj => by omega⟩⟩)
  clear hc
  go_enter Try.func21, Try.ntmps21
  go_wp2_with fail
  go_loopw [1, 5] (fun n o wx => ∃ (m k : Nat) (D : Nat → Int), k + m = N ∧ n = .int .i64 (m : Int) ∧ GDr w wx B p a len cap o k D) (fun n _ _ => (intOf n).toNat)
  case atStart => exact ⟨N, 0, _, by omega, rfl, H0.out⟩
  case round =>
    obtain ⟨m, k, D, hmk, rfl, hG⟩ := hrel
    have HG := Base.hide hG
    clear hG H0
    by_cases hm : 0 < (m : Int)
    · have kI : (k : Int) ≤ 4096 := by omega
      have mN : 0 < m := by omega
      have PUSH : ∀ (Y : World) (x : Int), bd x → GDr w Y B p a len cap u5 k D → ∀ v' Y', Y'.ownsRow w.heap.size 3 1 v' (k + 1) (ints k D ++ [.int .i64 x]) → (Y.alloc (.cells #[.int .i64 x] 3)).grownBy Y' u5.ownBlock → GDr w Y' B p a len cap v' (k + 1) (upI D k x) := fun Y x hx h v' Y' h1 h2 => h.push PW.out hB hx h1 h2
      have PU := Base.hide PUSH
      clear PUSH
      go_wp2_with fail
      refine (Base.l1Below B p a len cap 200000 _ HG.out.cur (by decide) (by decide)).mono ?_; rintro e w1 ⟨x, x0, x1, rfl, d1, g1⟩
      have H1 := Base.hide (HG.out.draw PW.out g1 d1)
      clear d1 g1 HG
      go_wp2_with fail
      refine (Nef.l1Once B p a len cap 20 _ H1.out.cur (by decide) (by decide)).mono ?_; rintro e w2 ⟨b, rfl, d2, g2⟩
      have H2 := Base.hide (H1.out.draw PW.out g2 d2)
      clear d2 g2 H1
      cases b
      · have bx : Hid (bd (x - 100000)) := Base.hide ⟨by omega, by omega⟩
        obtain ⟨y, hy⟩ : ∃ y, x - 100000 = y := ⟨_, rfl⟩
        have wy : IntKind.i64.wrap (x - 100000) = y := by rw [← hy]; exact wid (by omega)
        rw [hy] at bx
        have sz := H2.out.gr.size
        go_wp2_with (at_builtin; refine wpList_append_own _ rfl _ _ 28 rfl w.heap.size 3 i0 (.int .i64 0) 1 8 Try.underlying28 hi0 hz0 hz1 hz2 rfl (by decide) _ _ _ rfl (H2.out.row.1.alloc _) ⟨w2.heap.size, 0, none⟩ 1 1 [.int .i64 y] rfl rfl (World.news_of_block (cs := #[.int .i64 y]) (t := 3) (fr := (0, 0)) (heap_alloc_new w2 _)) (by simp [Value.oneCell']) (by unfold maxLen; omega) (by omega) (by simp; omega) ?_; intro v' w5 hown1 hgrow1 _)
        go_roundw
        case rel => exact ⟨m - 1, k + 1, _, by omega, by go_num, PU.out w2 y bx.out H2.out v' w5 hown1 hgrow1⟩
        case measure => simp [intOf]; omega
      · have hl := Base.laid_ints w2 [16777216, -16777216, 0] 3 (-9223372036854775808) 9223372036854775807 (by intro q hq; simp at hq; omega)
        have H3 := Base.hide (H2.out.alloc PW.out (.cells (([16777216, -16777216, 0] : List Int).map (Value.int .i64)).toArray 3))
        have vp := H2.out.cur.lt
        go_wp2_with fail
        refine (Base.l1PickInt B p a len cap w2.heap.size 3 (-9223372036854775808) 9223372036854775807 _ H3.out.cur (by omega) (by omega) (by omega) hl).mono ?_; rintro e w3 ⟨y, y0, y1, rfl, d3, g3⟩
        have H4 := Base.hide (H3.out.draw PW.out g3 d3)
        have sz := H4.out.gr.size
        clear d3 g3 H3 H2 hl vp
        go_wp2_with (at_builtin; refine wpList_append_own _ rfl _ _ 28 rfl w.heap.size 3 i0 (.int .i64 0) 1 8 Try.underlying28 hi0 hz0 hz1 hz2 rfl (by decide) _ _ _ rfl (H4.out.row.1.alloc _) ⟨w3.heap.size, 0, none⟩ 1 1 [.int .i64 y] rfl rfl (World.news_of_block (cs := #[.int .i64 y]) (t := 3) (fr := (0, 0)) (heap_alloc_new w3 _)) (by simp [Value.oneCell']) (by unfold maxLen; omega) (by omega) (by simp; omega) ?_; intro v' w5 hown1 hgrow1 _)
        go_roundw
        case rel => exact ⟨m - 1, k + 1, _, by omega, by go_num, PU.out w3 y ⟨y0, y1⟩ H4.out v' w5 hown1 hgrow1⟩
        case measure => simp [intOf]; omega
    · have hm' : decide (0 < (m : Int)) = false := decide_eq_false hm
      have hm'' : decide (0 < m) = false := decide_eq_false (by omega)
      have kN : k ≤ N := by omega
      clear hm
      go_wp2_with fail
      refine (Nef.l1Once B p a len cap 12 _ HG.out.cur (by decide) (by decide)).mono ?_; rintro e w1 ⟨b, rfl, d1, g1⟩
      have H1 := Base.hide (HG.out.draw PW.out g1 d1)
      clear d1 g1 HG
      obtain ⟨⟨r1, r2⟩, r3⟩ := H1.out.row
      obtain ⟨b', c', ev, hO, hnn⟩ : ∃ (b' : Option Addr) (c' : Nat), u5 = .slice b' k c' ∧ OwnL w.heap.size w1 b' k D ∧ (b' = none → k = 0 ∧ c' = 0) := by
        rcases r2 with ⟨e1, e2⟩ | ⟨g, gc, cur, e1, hg, rest⟩
        · subst e2
          exact ⟨none, 0, e1, .inl rfl, fun _ => ⟨rfl, rfl⟩⟩
        · obtain ⟨a', c', e3, hO⟩ := H1.out.row.own
          rw [e1] at e3
          injection e3 with e3 e4 e5
          exact ⟨a', c', by rw [e1, e3, e5], hO, fun e => by rw [e] at e3; cases e3⟩
      subst ev
      clear r2
      cases b
      · go_wp2_with fail
        go_ret
        exact ⟨b', k, c', D, rfl, kN, hnn, hO, H1.out.cur, H1.out.gr⟩
      · by_cases k0 : k = 0
        · subst k0
          go_wp2_with fail
          go_ret
          exact ⟨b', 0, c', D, rfl, kN, fun e => ⟨rfl, (hnn e).2⟩, hO, H1.out.cur, H1.out.gr⟩
        · have kd : decide ((0 : Int) < (k : Int)) = true := decide_eq_true (by omega)
          have kd' : decide (0 < k) = true := decide_eq_true (by omega)
          rcases hO with h | ⟨g, rfl, hg, hR⟩
          · exact absurd h k0
          have HR := Base.hide hR
          have gl := hR.lt k0
          have gp : ¬ g = p := by have := PW.out; omega
          have hl := Base.laid_ints w1 [16777217, -16777217, 4611686018427387904] 3 (-9223372036854775808) 9223372036854775807 (by intro q hq; simp at hq; omega)
          have H3 := Base.hide (H1.out.alloc PW.out (.cells (([16777217, -16777217, 4611686018427387904] : List Int).map (Value.int .i64)).toArray 3))
          have HR3 := Base.hide (HR.out.below ((Below.refl w1.heap.size w1).alloc (Nat.le_refl _) (.cells (([16777217, -16777217, 4611686018427387904] : List Int).map (Value.int .i64)).toArray 3)) gl)
          have vp := H1.out.cur.lt
          have KK := Base.hide (show 0 < k by omega)
          have GL := Base.hide gl
          have GP := Base.hide gp
          have HN := Base.hide (show w.heap.size ≤ g from hg)
          clear hR hg gl gp hnn k0 HR
          go_wp2_with fail
          refine (Base.l1PickInt B p a len cap w1.heap.size 3 (-9223372036854775808) 9223372036854775807 _ H3.out.cur (by omega) (by omega) (by omega) hl).mono ?_; rintro e w3 ⟨y, y0, y1, rfl, d3, g3⟩
          have HR4 := Base.hide (HR3.out.kept (keptP g3) (by have := GP.out; exact this))
          have H4 := Base.hide (H3.out.draw PW.out g3 d3)
          have c0 := (HR4.out 0 KK.out).1
          have f0 := (HR4.out 0 KK.out).2.1
          have YB := Base.hide (show bd y from ⟨y0, y1⟩)
          clear d3 g3 H3 H1 hl vp HR3 y0 y1
          go_wp2_with fail
          go_ret
          have h4 := H4.out
          exact ⟨some ⟨g, 0, none⟩, k, c', _, rfl, kN, (fun e => nomatch e), .inr ⟨g, rfl, HN.out, HR4.out.set 0 y YB.out⟩, cur_other h4.cur g 0 _ (fun e => GP.out e.symm) (by have := HN.out; omega), grown_stE h4.gr HN.out⟩
end Vo
end Go.Proofs.Ytflbhlepmjiejaa
