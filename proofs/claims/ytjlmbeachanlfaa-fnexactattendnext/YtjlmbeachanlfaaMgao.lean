/- Lemmas for the proof of the law. -/
import Derived.Test.YtjlmbeachanlfaaMgan
import Derived.Test.YtjlmbeachanlfaaMgak
import Derived.Deep.RegionLaw
import Derived.Test.YtjlmbeachanlfaaMgam
import Derived.Deep.RegionHeld3
/- The model's rows: one more behind, the last ones; stacked. -/
namespace Go.Proofs.Ytjlmbeachanlfaa
namespace Vo
open Go.ChangeShapes Go.WideShapes Go.ChangeAt Go.RowKit Go.Joins Go.Sort
open Vl Vp
set_option linter.unusedVariables false
set_option linter.unusedSimpArgs false
/-- the heads of rows -/
def hdr (M : Nat → LV) (n : Nat) : List Value := (List.range n).map (fun i => .slice (M i).a (M i).r (M i).cap)
theorem hdr_len (M : Nat → LV) (n : Nat) : (hdr M n).length = n := by simp [hdr]
theorem hdr_more {M M' : Nat → LV} {n : Nat} {a : Option Addr} {r c : Nat} {D : Nat → Int} (h : ∀ i, i < n → M' i = M i) (e : M' n = ⟨a, r, c, D⟩) : hdr M n ++ [.slice a r c] = hdr M' (n + 1) := by
  unfold hdr
  rw [List.range_succ, List.map_append]
  congr 1
  · apply List.map_congr_left
    intro i hi
    rw [h i (List.mem_range.1 hi)]
  · simp [e]
/-- rows of one's own under way: their heads in a row that grows -/
structure RowsU (E : Nat) (w : World) (v : Value) (k : Nat) (M : Nat → LV) : Prop where
  heads : w.ownsRow E 25 1 v k (hdr M k)
  own : ∀ i, i < k → OwnL E w (M i).a (M i).r (M i).D
  ne : ∀ i, i < k → ∀ b, Blk (M i).a (M i).r b → v.ownBlock ≠ some b
theorem RowsU.below {E : Nat} {w w' : World} {v : Value} {k : Nat} {M : Nat → LV} (h : RowsU E w v k M) (hb : Below w.heap.size w w') : RowsU E w' v k M := ⟨own_below h.heads hb, fun i hi => (h.own i hi).below hb, h.ne⟩
/-- a row is put behind -/
theorem RowsU.put {E : Nat} {w w2 : World} {v : Value} {k g c r cp : Nat} {a : Option Addr} {D : Nat → Int} {M : Nat → LV} (h : RowsU E w v k M) (ro : OwnL E w a r D) (rn : ∀ b, Blk a r b → v.ownBlock ≠ some b)
    (ho : w2.ownsRow E 25 1 (.slice (some ⟨g, 0, none⟩) (k + 1) c) (k + 1) (hdr M k ++ [.slice a r cp])) (hk : Kept (fun b => v.ownBlock = some b) w w2) (hat : v.ownBlock = some g ∨ w.heap.size ≤ g) :
    RowsU E w2 (.slice (some ⟨g, 0, none⟩) (k + 1) c) (k + 1) (fun i => if i = k then ⟨a, r, cp, D⟩ else M i) := by
  have far : ∀ {x : Option Addr} {n : Nat} {F : Nat → Int}, OwnL E w x n F → (∀ b, Blk x n b → v.ownBlock ≠ some b) → ∀ b, Blk x n b → (Value.slice (some ⟨g, 0, none⟩) (k + 1) c).ownBlock ≠ some b := fun {x n F} o q b hb e => by
    have e : g = b := Option.some.inj e
    rcases hat with u | u
    · exact q b hb (by rw [u, e])
    · have := (o.blk hb).2
      omega
  refine ⟨?_, fun i hi => ?_, fun i hi b hb => ?_⟩
  · rw [← hdr_more (M := M) (a := a) (r := r) (c := cp) (D := D) (fun i hi => by simp [show ¬ i = k by omega]) (by simp)]
    exact ho
  · by_cases e : i = k
    · subst e
      simp only [if_true]
      exact ro.kept hk (fun b hb q => rn b hb q)
    · simp only [e, if_false]
      exact (h.own i (by omega)).kept hk (fun b hb q => h.ne i (by omega) b hb q)
  · by_cases e : i = k
    · subst e
      simp only [if_true] at hb
      exact far ro rn b hb
    · simp only [e, if_false] at hb
      exact far (h.own i (by omega)) (h.ne i (by omega)) b hb
theorem RowsU.read {E : Nat} {w : World} {k g c : Nat} {M : Nat → LV} (h : RowsU E w (.slice (some ⟨g, 0, none⟩) k c) k M) : LL w.heap.size w (some ⟨g, 0, none⟩) k M := by
  by_cases hk : k = 0
  · exact .inl hk
  · refine .inr ⟨g, 0, rfl, (h.heads.lt g rfl).2, fun i hi => ⟨?_, (h.own i hi).ints⟩⟩
    rw [Nat.zero_add, h.heads.cellAt i (by omega)]
    simp [hdr, hi]
/-- rows with one more -/
def appR (L : Nat → LV) (n : Nat) (x : LV) : Nat → LV := fun i => if i = n then x else L i
set_option maxRecDepth 100000 in
set_option maxHeartbeats 2000000 in
theorem behindF (B : Nat) (a : Option Addr) (n cap : Nat) (L : Nat → LV) (ra : Addr) (rr rc : Nat) (D : Nat → Int) (win : Int) (w : World) (hB : B ≤ w.heap.size) (h : LL B w a n L) (hx : Ints B w (some ra) rr D) (hn : (n : Int) ≤ 1048576) (hl : LLen n L 1048576) (hr1 : ∀ i, i < n → 1 ≤ (L i).r) (hrr : (rr : Int) ≤ 1048576) (w0 : 0 ≤ win) (w1 : win ≤ 4096) :
    Calls Try.prog 19 #[.slice a n cap, .slice (some ra) rr rc, .int .i64 win] w fun e w' => ∃ g c M, e = .returned (.slice (some ⟨g, stN (n + 1) win, none⟩) (n + 1 - stN (n + 1) win) c) ∧ LL w'.heap.size w' (some ⟨g, stN (n + 1) win, none⟩) (n + 1 - stN (n + 1) win) (fun i => M (stN (n + 1) win + i)) ∧ LSame (n + 1) (appR L n ⟨some ra, rr, rc, D⟩) M ∧ Below w.heap.size w w' := by
  obtain ⟨i0, hi0, hz0, hz1, hz2⟩ := info_parts infoRow
  have HO0 := hide (show (w.alloc (.cells #[] 25)).ownsRow w.heap.size 25 1 (.slice (some ⟨w.heap.size, 0, none⟩) 0 0) 0 [] from
    ⟨rfl, .inr ⟨w.heap.size, 0, #[], rfl, Nat.le_refl _, heap_alloc_new w _, Nat.le_refl _, by simp [maxLen], rfl, rfl⟩⟩)
  have B0 := hide (show Below w.heap.size w (w.alloc (.cells #[] 25)) from (Below.refl _ _).alloc (Nat.le_refl _) _)
  have H := hide h
  have HX := hide hx
  have HL := hide hl
  have HR := hide hr1
  clear h hx hl hr1
  go_enter Try.func19, Try.ntmps19
  go_wp2_with fail
  go_loopw [7, 8] (fun v i wx => ∃ (k : Nat) (M : Nat → LV) (g c : Nat), k ≤ n ∧ i = .int .i64 (k : Int) ∧ v = .slice (some ⟨g, 0, none⟩) k c ∧ RowsU w.heap.size wx v k M ∧ LSame k L M ∧ Below w.heap.size w wx) (fun _ i _ => n - (intOf i).toNat)
  case atStart => exact ⟨0, fun _ => ⟨none, 0, 0, fun _ => 0⟩, w.heap.size, 0, Nat.zero_le _, rfl, rfl, ⟨HO0.out, fun i hi => by omega, fun i hi => by omega⟩, fun i hi => by omega, B0.out⟩
  case round =>
    obtain ⟨X, rfl⟩ : ∃ X, X = wr := ⟨_, rfl⟩
    obtain ⟨k, M, g, c, hk, rfl, rfl, hu, hs, hb⟩ := hrel
    have U := hide hu
    have S := hide hs
    have BB := hide hb
    have zX := hb.size
    clear hu hs hb
    by_cases hlt : k < n
    · have kI : (k : Int) < (n : Int) := by omega
      rcases (H.out.below (BB.out.mono hB)) with q | ⟨blk, off, rfl, hb, hc⟩
      · omega
      have c1 := (hc k hlt).1
      have I1 := (hc k hlt).2
      obtain ⟨ad, had⟩ : ∃ ad, (L k).a = some ad := by
        rcases I1 with q | ⟨b, o, q, _⟩
        · have := HR.out k hlt; omega
        · exact ⟨_, q⟩
      rw [had] at c1 I1
      have CI := hide (l3Ints B ad (L k).r (L k).cap (L k).D X I1 (by omega) (HL.out k hlt))
      clear hc I1 had
      obtain ⟨r, hr⟩ : ∃ r, (L k).r = r := ⟨_, rfl⟩
      obtain ⟨F, hF⟩ : ∃ F, (L k).D = F := ⟨_, rfl⟩
      have HRr := hide hr
      have HFf := hide hF
      rw [hr] at c1 CI
      rw [hF] at CI
      clear hr hF
      generalize (L k).cap = lc at c1 CI
      go_wp2_with fail
      refine CI.out.mono ?_
      rintro e X1 ⟨v, rfl, rv, b1⟩
      have z1 := b1.size
      obtain ⟨va, vc, rfl, ov⟩ := rv.own
      have U1 := hide (U.out.below b1)
      have OV := hide (ov.mono (B' := w.heap.size) (by omega))
      have NE := hide (show ∀ b, Blk va r b → (Value.slice (some ⟨g, 0, none⟩) k c).ownBlock ≠ some b from fun b hb e => by
        have e : g = b := Option.some.inj e
        have q1 := (ov.blk hb).1
        have q2 := (U.out.heads.lt g rfl).2
        omega)
      have BB1 := hide (BB.out.trans (b1.mono BB.out.size))
      clear rv ov b1 U BB CI
      go_wp2_with (at_builtin; refine wpList_append_lies _ rfl _ _ 22 rfl w.heap.size 25 i0 (.slice none 0 0) 1 24 Try.underlying22 hi0 hz0 hz1 hz2 rfl (by decide) _ _ _ rfl (U1.out.heads.alloc _) ⟨X1.heap.size, 0, none⟩ 1 1 [.slice va r vc] rfl rfl (World.news_of_block (cs := #[.slice va r vc]) (t := 25) (fr := (0, 0)) (heap_alloc_new X1 _)) (by simp [Value.oneCell']) (by omega) (by unfold maxLen; omega) (by omega) (by simp; omega) (X1.heap.size + 1) (by simp) ?_; intro g' c' X2 hown1 hgrow1 hat hlt3)
      go_roundw
      case rel =>
        have KA : Kept (fun b => (Value.slice (some ⟨g, 0, none⟩) k c).ownBlock = some b) X1 X2 := (Kept.of_below ((Below.refl _ X1).alloc (Nat.le_refl _) (.cells #[.slice va r vc] 25))).trans ⟨hgrow1.os, hgrow1.tape, hgrow1.output, hgrow1.size, fun b hb hn => hgrow1.block b hb (fun q => hn q.symm)⟩
        refine ⟨k + 1, _, g', c', by omega, by go_num, rfl, U1.out.put OV.out NE.out hown1 KA (by rcases hat with q | q; exact .inl q; exact .inr (by omega)), fun i hi => ?_, BB1.out.trans (KA.below BB1.out.size (fun b hb => (U1.out.heads.lt b hb).1))⟩
        by_cases e : i = k
        · subst e; simp [HRr.out, HFf.out]
        · simp only [e, if_false]; exact S.out i (by omega)
      case measure => simp [intOf]; omega
    · have ek : k = n := by omega
      subst ek
      have kI : decide ((k : Int) < (k : Int)) = false := decide_eq_false (by omega)
      have IX := HX.out.below (BB.out.mono hB)
      have CI := hide (l3Ints B ra rr rc D X IX (by omega) hrr)
      clear IX
      go_wp2_with fail
      refine CI.out.mono ?_
      rintro e X1 ⟨v, rfl, rv, b1⟩
      have z1 := b1.size
      obtain ⟨va, vc, rfl, ov⟩ := rv.own
      have U1 := hide (U.out.below b1)
      have OV := hide (ov.mono (B' := w.heap.size) (by omega))
      have NE := hide (show ∀ b, Blk va rr b → (Value.slice (some ⟨g, 0, none⟩) k c).ownBlock ≠ some b from fun b hb e => by
        have e : g = b := Option.some.inj e
        have q1 := (ov.blk hb).1
        have q2 := (U.out.heads.lt g rfl).2
        omega)
      have BB1 := hide (BB.out.trans (b1.mono BB.out.size))
      clear rv ov b1 U BB CI
      have TAIL := hide (show ∀ (g' c' : Nat) (X2 : World), X2.ownsRow w.heap.size 25 1 (.slice (some ⟨g', 0, none⟩) (k + 1) c') (k + 1) (hdr M k ++ [.slice va rr vc]) → (X1.alloc (.cells #[.slice va rr vc] 25)).grownBy X2 (Value.slice (some ⟨g, 0, none⟩) k c).ownBlock → ((Value.slice (some ⟨g, 0, none⟩) k c).ownBlock = some g' ∨ g' = X1.heap.size + 1) → ∃ M', LL X2.heap.size X2 (some ⟨g', 0, none⟩) (k + 1) M' ∧ LSame (k + 1) (appR L k ⟨some ra, rr, rc, D⟩) M' ∧ Below w.heap.size w X2 from fun g' c' X2 hown1 hgrow1 hat => by
        have KA : Kept (fun b => (Value.slice (some ⟨g, 0, none⟩) k c).ownBlock = some b) X1 X2 := (Kept.of_below ((Below.refl _ X1).alloc (Nat.le_refl _) (.cells #[.slice va rr vc] 25))).trans ⟨hgrow1.os, hgrow1.tape, hgrow1.output, hgrow1.size, fun b hb hn => hgrow1.block b hb (fun q => hn q.symm)⟩
        have P := U1.out.put (D := D) OV.out NE.out hown1 KA (by rcases hat with q | q; exact .inl q; exact .inr (by omega))
        refine ⟨_, P.read, fun i hi => ?_, BB1.out.trans (KA.below BB1.out.size (fun b hb => (U1.out.heads.lt b hb).1))⟩
        unfold appR
        by_cases e : i = k
        · subst e; simp
        · simp only [e, if_false]; exact S.out i (by omega))
      have rm := hide (fun (X2 : World) (g' c' : Nat) (ho : X2.ownsRow w.heap.size 25 1 (.slice (some ⟨g', 0, none⟩) (k + 1) c') (k + 1) (hdr M k ++ [.slice va rr vc])) => (show k + 1 ≤ c' by
        obtain ⟨x, y, e, q⟩ := own_room ho
        cases e
        exact q))
      by_cases hz : win = 0
      · have z0 : decide ((0 : Int) < win) = false := decide_eq_false (by omega)
        have E := hide (show stN (k + 1) win = 0 by unfold stN; rw [if_pos hz])
        clear hz
        go_wp2_with (at_builtin; refine wpList_append_lies _ rfl _ _ 22 rfl w.heap.size 25 i0 (.slice none 0 0) 1 24 Try.underlying22 hi0 hz0 hz1 hz2 rfl (by decide) _ _ _ rfl (U1.out.heads.alloc _) ⟨X1.heap.size, 0, none⟩ 1 1 [.slice va rr vc] rfl rfl (World.news_of_block (cs := #[.slice va rr vc]) (t := 25) (fr := (0, 0)) (heap_alloc_new X1 _)) (by simp [Value.oneCell']) (by omega) (by unfold maxLen; omega) (by omega) (by simp; omega) (X1.heap.size + 1) (by simp) ?_; intro g' c' X2 hown1 hgrow1 hat hlt3)
        go_ret
        obtain ⟨M', l', s', b'⟩ := TAIL.out g' c' X2 hown1 hgrow1 hat
        refine ⟨g', c', M', by rw [E.out]; rfl, ?_, s', b'⟩
        rw [E.out]
        simpa using l'
      · obtain ⟨q, rfl⟩ := Int.eq_ofNat_of_zero_le w0
        have z0 : (0 : Int) < (q : Int) := by omega
        have E := hide (show stN (k + 1) (q : Int) = k + 1 - q by unfold stN; rw [if_neg hz, Int.toNat_natCast])
        have q1 : 1 ≤ q := by omega
        by_cases hq : q < k + 1
        · have a1 : (q : Int) < (k : Int) + 1 := by omega
          have a2 : (0 : Int) ≤ (k : Int) + 1 - (q : Int) := by omega
          have a3 : (k : Int) + 1 - (q : Int) ≤ (k : Int) + 1 := by omega
          have a4 : (q : Int) ≤ (k : Int) := by omega
          have CR := hide (fun (c' : Nat) (h : k + 1 ≤ c') => (show (k : Int) + 1 ≤ (c' : Int) by omega))
          go_wp2_with (at_builtin; refine wpList_append_lies _ rfl _ _ 22 rfl w.heap.size 25 i0 (.slice none 0 0) 1 24 Try.underlying22 hi0 hz0 hz1 hz2 rfl (by decide) _ _ _ rfl (U1.out.heads.alloc _) ⟨X1.heap.size, 0, none⟩ 1 1 [.slice va rr vc] rfl rfl (World.news_of_block (cs := #[.slice va rr vc]) (t := 25) (fr := (0, 0)) (heap_alloc_new X1 _)) (by simp [Value.oneCell']) (by omega) (by unfold maxLen; omega) (by omega) (by simp; omega) (X1.heap.size + 1) (by simp) ?_; intro g' c' X2 hown1 hgrow1 hat hlt3; have room := rm.out X2 g' c' hown1; have roomI := CR.out c' room)
          go_ret
          obtain ⟨M', l', s', b'⟩ := TAIL.out g' c' X2 hown1 hgrow1 hat
          refine ⟨g', _, M', by rw [E.out]; rfl, ?_, s', b'⟩
          rw [E.out]
          have := l'.from (k + 1 - q) (by omega)
          simpa using this
        · have a1 : decide ((q : Int) < (k : Int) + 1) = false := decide_eq_false (by omega)
          have a4 : decide ((q : Int) ≤ (k : Int)) = false := decide_eq_false (by omega)
          have e0 : k + 1 - q = 0 := by omega
          rw [e0] at E
          clear e0
          go_wp2_with (at_builtin; refine wpList_append_lies _ rfl _ _ 22 rfl w.heap.size 25 i0 (.slice none 0 0) 1 24 Try.underlying22 hi0 hz0 hz1 hz2 rfl (by decide) _ _ _ rfl (U1.out.heads.alloc _) ⟨X1.heap.size, 0, none⟩ 1 1 [.slice va rr vc] rfl rfl (World.news_of_block (cs := #[.slice va rr vc]) (t := 25) (fr := (0, 0)) (heap_alloc_new X1 _)) (by simp [Value.oneCell']) (by omega) (by unfold maxLen; omega) (by omega) (by simp; omega) (X1.heap.size + 1) (by simp) ?_; intro g' c' X2 hown1 hgrow1 hat hlt3)
          go_ret
          obtain ⟨M', l', s', b'⟩ := TAIL.out g' c' X2 hown1 hgrow1 hat
          refine ⟨g', c', M', by rw [E.out]; rfl, ?_, s', b'⟩
          rw [E.out]
          simpa using l'
end Vo
end Go.Proofs.Ytjlmbeachanlfaa

/- CacheOk: the program, the model. -/
namespace Go.Proofs.Ytjlmbeachanlfaa
namespace Vo
open Go.ChangeShapes Go.WideShapes Go.ChangeAt Go.RowKit Go.Joins Go.Sort
open Vl Vp
set_option linter.unusedVariables false
set_option linter.unusedSimpArgs false
theorem rowsA_no {n : Nat} {L : Nat → LV} {k : Nat} (hk : k < n) (h : (L k).r = (L 0).r → rowB (L k).r (L k).D = false) : decide (RowsA n L) = false :=
  decide_eq_false (fun q => by have := h (q k hk).1; rw [(q k hk).2] at this; exact Bool.noConfusion this)
theorem rowsA_up {k : Nat} {L : Nat → LV} (h : RowsA k L) (h1 : (L k).r = (L 0).r) (h2 : rowB (L k).r (L k).D = true) : RowsA (k + 1) L := fun i hi => by
  by_cases c : i = k
  · subst c; exact ⟨h1, h2⟩
  · exact h i (by omega)
set_option maxHeartbeats 1000000 in
theorem l5RowsOk (B : Nat) (a : Option Addr) (n cap : Nat) (L : Nat → LV) (w : World) (hB : B ≤ w.heap.size) (h : LL B w a n L) (hn : (n : Int) ≤ 1048576) (hl : LLen n L 1048576) :
    Calls Try.prog 35 #[.slice a n cap] w fun e w' => e = .returned (.bool (decide (RowsA n L) && decide ((n : Int) ≤ 4096))) ∧ Below w.heap.size w w' := by
  have H := hide h
  have HL := hide hl
  clear h hl
  go_enter Try.func35, Try.ntmps35
  go_wp2_with fail
  go_loopw [3] (fun i wx => ∃ k : Nat, k ≤ n ∧ i = .int .i64 k ∧ RowsA k L ∧ Below w.heap.size w wx) (fun i _ => n - (intOf i).toNat)
  case atStart => exact ⟨0, Nat.zero_le _, rfl, fun j hj => by omega, Below.refl _ _⟩
  case round =>
    obtain ⟨X, rfl⟩ : ∃ X, X = wr := ⟨_, rfl⟩
    obtain ⟨k, hk, rfl, hall, hby⟩ := hrel
    have HA := hide hall
    have HBY := hide hby
    clear hall hby
    by_cases hlt : k < n
    · have kI : (k : Int) < n := by omega
      have nI : (0 : Int) < n := by omega
      rcases H.out.below (HBY.out.mono hB) with q0 | ⟨blk, off, rfl, hbk, hc⟩
      · omega
      obtain ⟨c0, i0⟩ := hc k hlt
      have c1 := (hc 0 (by omega)).1
      rw [Nat.add_zero] at c1
      have lk := HL.out k hlt
      have CR := hide (fun q => l5RowOk B (L k).a (L k).r (L k).cap (L k).D (X.drewN q) (i0.below (below_draws _ _ _)) lk)
      clear hc i0 lk
      by_cases e0 : (L k).r = (L 0).r
      rotate_left
      · have ez := hide (rowsA_no hlt (fun e => absurd e e0))
        have e0' : (((L k).r : Int) != ((L 0).r : Int)) = true := bne_iff_ne.2 (by omega)
        clear e0
        go_wp2_with fail
        go_quiet (fail)
        go_wp2_with fail
        go_ret
        exact ⟨by rw [ez.out]; rfl, HBY.out.trans (below_draws _ _ _)⟩
      have E0 := hide e0
      have e0' : (((L k).r : Int) != ((L 0).r : Int)) = false := by rw [e0]; simp
      clear e0
      cases eB : rowB (L k).r (L k).D with
      | false =>
        have ez := hide (rowsA_no hlt (fun _ => eB))
        have CR2 := hide (show ∀ q, Calls Try.prog 17 #[.slice (L k).a (L k).r (L k).cap] (X.drewN q) fun e w' => e = .returned (.bool false) ∧ w' = X.drewN q from fun q => by have := CR.out q; rwa [eB] at this)
        clear eB CR
        go_wp2_with fail
        go_quiet (first | (go_at_call 17; exact Calls.quiet_of_same (CR2.out _)))
        go_wp2_with fail
        go_ret
        exact ⟨by rw [ez.out]; rfl, HBY.out.trans (below_draws _ _ _)⟩
      | true =>
        have ez := hide (rowsA_up HA.out E0.out eB)
        have CR2 := hide (show ∀ q, Calls Try.prog 17 #[.slice (L k).a (L k).r (L k).cap] (X.drewN q) fun e w' => e = .returned (.bool true) ∧ w' = X.drewN q from fun q => by have := CR.out q; rwa [eB] at this)
        clear eB CR
        go_wp2_with fail
        go_quiet (first | (go_at_call 17; exact Calls.quiet_of_same (CR2.out _)))
        go_wp2_with fail
        go_roundw
        all_goals first
          | (simp only [intOf]; omega)
          | (simp [intOf]; omega)
          | exact ⟨k + 1, by omega, by go_num, ez.out, HBY.out.trans (below_draws _ _ _)⟩
    · obtain rfl : k = n := by omega
      have ez := hide (show decide (RowsA k L) = true from decide_eq_true HA.out)
      go_wp2_with fail
      go_ret
      exact ⟨by rw [ez.out]; simp, HBY.out⟩
end Vo
end Go.Proofs.Ytjlmbeachanlfaa
