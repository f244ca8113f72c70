/- Lemmas for the proof of the law. -/
import Derived.Test.YtjlmbeachanlfaaMgad
import Derived.Test.YtjlmbeachanlfaaMgae
import Derived.Lib.AppendZeros
import Derived.Deep.AppendLies
import Derived.BigQuiet
import Derived.Test.YtjlmbeachanlfaaMgac
/- slices.Grow of nothing, slices.Concat of lists of ints and of lists of rows. -/
namespace Go.Proofs.Ytjlmbeachanlfaa
namespace Vo
open Go.ChangeShapes Go.WideShapes Go.ChangeAt Go.RowKit Go.Joins Go.Sort
open Vl Vp
set_option linter.unusedVariables false
set_option linter.unusedSimpArgs false
theorem infoRow : (Try.prog.info? 25).map (fun i => (i.zero, i.size, i.bytes)) = some (some (.slice none 0 0), 1, 24) := by kernel_rfl
/-- a new row of noughts, none of them taken -/
theorem own_zeros (w : World) (e : TypeId) (z : Value) (n : Nat) (hz : z.cells.size = 1) (hn : n ≤ maxLen) : (w.drew.alloc (.cells (Builtin.zeroCells z.cells n ++ Builtin.zeroCells z.cells (grownCap w n 0 e - n)) e)).ownsRow w.heap.size e 1 (.slice (some ⟨w.heap.size, 0, none⟩) 0 (grownCap w n 0 e)) 0 [] := by
  have hge := grownCap_ge w n 0 e
  refine ⟨rfl, .inr ⟨w.heap.size, _, _, rfl, Nat.le_refl _, heap_alloc_new w.drew _, Nat.zero_le _, grownCap_le_maxLen w n 0 e hn, ?_, rfl⟩⟩
  have q : ∀ m, (Builtin.zeroCells z.cells m).size = m := fun m => by simp [Builtin.zeroCells, hz]
  rw [Array.size_append, q, q]
  omega
set_option maxRecDepth 100000 in
theorem growI (n : Nat) (hn : (n : Int) ≤ 4294967296) (w : World) : Calls Try.prog 68 #[.slice none 0 0, .int .i64 (n : Int)] w fun e w' => ∃ v, e = .returned v ∧ w'.ownsRow w.heap.size 3 1 v 0 [] ∧ Below w.heap.size w w' := by
  obtain ⟨i0, hi0, hz0, hz1, hz2⟩ := info_parts infoInt
  have n0 : decide ((n : Int) < 0) = false := decide_eq_false (by omega)
  by_cases h : n = 0
  · subst h
    go_enter Try.func68, Try.ntmps68
    go_wp2_with fail
    go_ret
    exact ⟨_, rfl, ⟨rfl, .inl ⟨rfl, rfl⟩⟩, Below.refl _ _⟩
  · have n1 : (0 : Int) < (n : Int) := by omega
    have n2 : 0 < n := by omega
    have hr := Lib.run_append_nil_zeros (P := Try.prog) w 25 3 25 3 i0 (.int .i64 0) .i64 .i64 Try.underlying25 Try.underlying3 hi0 hz0 n n2 (by omega) (by omega) (by rw [hz2]; omega)
    have OW := hide (own_zeros w 3 (.int .i64 0) n rfl (by unfold maxLen; omega))
    have hge := grownCap_ge w n 0 3
    clear h
    generalize grownCap w n 0 3 = cp at *
    go_enter Try.func68, Try.ntmps68
    go_wp2_with (at_builtin; refine Lib.wpList_append_run _ rfl _ _ 25 3 rfl _ _ rfl rfl _ _ hr ?_)
    go_ret
    exact ⟨_, rfl, OW.out, ⟨rfl, rfl, rfl, by simp, fun k hk => heap_alloc_old w.drew _ (by show k < w.heap.size; omega)⟩⟩
set_option maxRecDepth 100000 in
theorem growL (n : Nat) (hn : (n : Int) ≤ 4294967296) (w : World) : Calls Try.prog 45 #[.slice none 0 0, .int .i64 (n : Int)] w fun e w' => ∃ v, e = .returned v ∧ w'.ownsRow w.heap.size 25 1 v 0 [] ∧ Below w.heap.size w w' := by
  obtain ⟨i0, hi0, hz0, hz1, hz2⟩ := info_parts infoRow
  have n0 : decide ((n : Int) < 0) = false := decide_eq_false (by omega)
  by_cases h : n = 0
  · subst h
    go_enter Try.func45, Try.ntmps45
    go_wp2_with fail
    go_ret
    exact ⟨_, rfl, ⟨rfl, .inl ⟨rfl, rfl⟩⟩, Below.refl _ _⟩
  · have n1 : (0 : Int) < (n : Int) := by omega
    have n2 : 0 < n := by omega
    have hr := Lib.run_append_nil_zeros (P := Try.prog) w 22 3 22 25 i0 (.slice none 0 0) .i64 .i64 Try.underlying22 Try.underlying3 hi0 hz0 n n2 (by omega) (by omega) (by rw [hz2]; omega)
    have OW := hide (own_zeros w 25 (.slice none 0 0) n rfl (by unfold maxLen; omega))
    have hge := grownCap_ge w n 0 25
    clear h
    generalize grownCap w n 0 25 = cp at *
    go_enter Try.func45, Try.ntmps45
    go_wp2_with (at_builtin; refine Lib.wpList_append_run _ rfl _ _ 22 3 rfl _ _ rfl rfl _ _ hr ?_)
    go_ret
    exact ⟨_, rfl, OW.out, ⟨rfl, rfl, rfl, by simp, fun k hk => heap_alloc_old w.drew _ (by show k < w.heap.size; omega)⟩⟩
/-- the numbers of lists, one behind the other -/
def cats (L : Nat → LV) : Nat → List Value
  | 0 => []
  | n + 1 => cats L n ++ ints (L n).r (L n).D
theorem cats_len (L : Nat → LV) (n : Nat) : (cats L n).length = lsum L n := by
  induction n with
  | zero => rfl
  | succ n ih => simp [cats, lsum, ih, ints]
theorem intsOne (r : Nat) (D : Nat → Int) : ∀ u ∈ ints r D, u.oneCell' = true := by
  intro u hu
  unfold ints at hu
  obtain ⟨t, _, rfl⟩ := List.mem_map.1 hu
  rfl
theorem lsum_mono {L : Nat → LV} {k n : Nat} (h : k ≤ n) : lsum L k ≤ lsum L n := by
  induction n with
  | zero => have : k = 0 := by omega
            subst this; exact Nat.le_refl _
  | succ n ih =>
    by_cases e : k = n + 1
    · subst e; exact Nat.le_refl _
    · have := ih (by omega)
      show _ ≤ lsum L n + (L n).r
      omega
set_option maxRecDepth 100000 in
set_option maxHeartbeats 1000000 in
theorem concatI (B : Nat) (a : Option Addr) (n cap : Nat) (L : Nat → LV) (w : World) (hB : B ≤ w.heap.size) (h : LL B w a n L) (hn : (n : Int) ≤ 1048576) (hr : ∀ i, i < n → 1 ≤ (L i).r) (hs : (lsum L n : Int) ≤ 16777216) :
    Calls Try.prog 53 #[.slice a n cap] w fun e w' => ∃ v, e = .returned v ∧ w'.ownsRow w.heap.size 3 1 v (lsum L n) (cats L n) ∧ Below w.heap.size w w' := by
  obtain ⟨i0, hi0, hz0, hz1, hz2⟩ := info_parts infoInt
  have H := hide h
  have HR := hide hr
  have MO := hide (fun k (hk : k ≤ n) => lsum_mono (L := L) hk)
  have HS := hide (fun k => (show lsum L (k + 1) = lsum L k + (L k).r from rfl))
  clear h hr
  go_enter Try.func53, Try.ntmps53
  go_wp2_with fail
  go_loop [3, 11] (fun z i => ∃ k : Nat, k ≤ n ∧ i = .int .i64 (k : Int) ∧ z = .int .i64 (lsum L k : Nat)) (fun _ i => n - (intOf i).toNat)
  case atStart => exact ⟨0, Nat.zero_le _, rfl, rfl⟩
  case round =>
    obtain ⟨k, hk, rfl, rfl⟩ := hrel
    by_cases hlt : k < n
    · have kI : (k : Int) < (n : Int) := by omega
      have m1 := MO.out (k + 1) (by omega)
      have m2 := HS.out k
      rcases H.out with q | ⟨blk, off, rfl, hb, hc⟩
      · omega
      have c1 := (hc k hlt).1
      clear hc
      have nn : decide (((lsum L k : Nat) : Int) + ((L k).r : Int) < 0) = false := decide_eq_false (by omega)
      have bnd : ((lsum L k : Nat) : Int) + ((L k).r : Int) ≤ 16777216 := by omega
      have E := hide m2
      clear m1 m2
      generalize lsum L k = s at *
      generalize (L k).r = r at *
      go_wp2_with fail
      go_round
      case rel => exact ⟨k + 1, by omega, by go_num, by rw [E.out]; go_num⟩
      case measure => simp [intOf]; omega
    · have ek : k = n := by omega
      subst ek
      have kI : decide ((k : Int) < (k : Int)) = false := decide_eq_false (by omega)
      go_wp2_with fail
      refine (growI (lsum L k) (by omega) w).mono ?_
      rintro e w1 ⟨v, rfl, o1, b1⟩
      have O1 := hide o1
      have B1 := hide b1
      clear o1 b1
      go_wp2_with fail
      go_loopw [6, 27] (fun v i wx => ∃ t : Nat, t ≤ k ∧ i = .int .i64 (t : Int) ∧ wx.ownsRow w.heap.size 3 1 v (lsum L t) (cats L t) ∧ Below w.heap.size w wx) (fun _ i _ => k - (intOf i).toNat)
      case atStart => exact ⟨0, Nat.zero_le _, rfl, O1.out, B1.out⟩
      case round =>
        obtain ⟨X, rfl⟩ : ∃ X, X = wr := ⟨_, rfl⟩
        obtain ⟨t, ht, rfl, hown, hbb⟩ := hrel
        have OW := hide hown
        have BB := hide hbb
        have zX := hbb.size
        clear hown hbb
        by_cases htl : t < k
        · have tI : (t : Int) < (k : Int) := by omega
          have r1 := HR.out t htl
          have m1 := MO.out (t + 1) (by omega)
          have E := hide (HS.out t)
          have E2 := hide (show cats L (t + 1) = cats L t ++ ints (L t).r (L t).D from rfl)
          have e0 := HS.out t
          rcases (H.out.below (BB.out.mono hB)) with q | ⟨blk, off, rfl, hb, hc⟩
          · omega
          have c1 := (hc t htl).1
          rcases (hc t htl).2 with q | ⟨rb, ro, hra, hrb, hrc⟩
          · omega
          rw [hra] at c1
          have NEWS := hide (show ∀ j u, (ints (L t).r (L t).D)[j]? = some u → X.cell? ((⟨rb, ro, none⟩ : Addr).add j) = some u from fun j u hu => by
            by_cases hj : j < (L t).r
            · have := (hrc j hj).1
              have ea : (⟨rb, ro, none⟩ : Addr).add j = ⟨rb, ro + j, none⟩ := by unfold Addr.add; split <;> simp_all
              rw [ea, this]
              simpa [ints, hj] using hu
            · rw [List.getElem?_eq_none (by simp [ints]; omega)] at hu; cases hu)
          have bnd : lsum L t + (L t).r ≤ 16777216 := by omega
          have LEN := hide (show (ints (L t).r (L t).D).length = (L t).r * 1 by simp [ints])
          have ONE := hide (intsOne (L t).r (L t).D)
          clear hc hrc hra m1 e0
          obtain ⟨news, hnw⟩ : ∃ nw, ints (L t).r (L t).D = nw := ⟨_, rfl⟩
          rw [hnw] at NEWS LEN ONE E2
          clear hnw
          generalize (L t).cap = lc at *
          obtain ⟨r, hrr⟩ : ∃ r, (L t).r = r := ⟨_, rfl⟩
          rw [hrr] at r1 E bnd LEN c1
          clear hrr
          obtain ⟨s, hss⟩ : ∃ s, lsum L t = s := ⟨_, rfl⟩
          rw [hss] at OW E bnd
          clear hss
          go_wp2_with (at_builtin; refine wpList_append_own _ rfl _ _ 25 rfl w.heap.size 3 i0 (.int .i64 0) 1 8 Try.underlying25 hi0 hz0 hz1 hz2 rfl (by decide) _ _ _ rfl OW.out ⟨rb, ro, none⟩ r lc news rfl LEN.out NEWS.out ONE.out (by unfold maxLen; omega) (by omega) (by omega) ?_; intro v' X1 hown1 hgrow1 _)
          go_roundw
          case rel =>
            refine ⟨t + 1, by omega, by go_num, by rw [E.out, E2.out]; exact hown1, BB.out.grown hgrow1 (by omega) (fun b hb => (OW.out.lt b hb).1)⟩
          case measure => simp [intOf]; omega
        · have ek2 : t = k := by omega
          subst ek2
          have tI : decide ((t : Int) < (t : Int)) = false := decide_eq_false (by omega)
          go_wp2_with fail
          go_ret
          exact ⟨_, rfl, OW.out, BB.out⟩
/-- rows, list behind list -/
def nsum (N : Nat → Nat) : Nat → Nat
  | 0 => 0
  | n + 1 => nsum N n + N n
def vcat (V : Nat → List Value) : Nat → List Value
  | 0 => []
  | n + 1 => vcat V n ++ V n
theorem nsum_mono {N : Nat → Nat} {k n : Nat} (h : k ≤ n) : nsum N k ≤ nsum N n := by
  induction n with
  | zero => have : k = 0 := by omega
            subst this; exact Nat.le_refl _
  | succ n ih =>
    by_cases e : k = n + 1
    · subst e; exact Nat.le_refl _
    · have := ih (by omega)
      show _ ≤ nsum N n + N n
      omega
/-- lists of rows that are read: their heads stand at block q -/
structure HL (B : Nat) (w : World) (q m : Nat) (A : Nat → Addr) (N K : Nat → Nat) (V : Nat → List Value) : Prop where
  hq : q < B
  head : ∀ i, i < m → w.cell? ⟨q, i, none⟩ = some (.slice (some (A i)) (N i) (K i))
  len : ∀ i, i < m → (V i).length = N i
  one : ∀ i, i < m → ∀ u ∈ V i, u.oneCell' = true
  lt : ∀ i, i < m → N i ≠ 0 → (A i).block < B
  row : ∀ i, i < m → ∀ j u, (V i)[j]? = some u → w.cell? ((A i).add j) = some u
theorem HL.below {B : Nat} {w w' : World} {q m : Nat} {A : Nat → Addr} {N K : Nat → Nat} {V : Nat → List Value} (h : HL B w q m A N K V) (hb : Below B w w') : HL B w' q m A N K V :=
  ⟨h.hq, fun i hi => (hb.cell (p := ⟨q, i, none⟩) h.hq).trans (h.head i hi), h.len, h.one, h.lt, fun i hi j u hu => by
    have hN : N i ≠ 0 := by
      intro e
      have := h.len i hi
      rw [e] at this
      rw [List.length_eq_zero_iff.1 this] at hu
      simp at hu
    have hbk : ((A i).add j).block = (A i).block := by unfold Addr.add; split <;> rfl
    rw [hb.cell (p := (A i).add j) (by rw [hbk]; exact h.lt i hi hN)]
    exact h.row i hi j u hu⟩
set_option maxRecDepth 100000 in
set_option maxHeartbeats 1000000 in
theorem concatL (B : Nat) (q m cap : Nat) (A : Nat → Addr) (N K : Nat → Nat) (V : Nat → List Value) (w : World) (hB : B ≤ w.heap.size) (h : HL B w q m A N K V) (hm : (m : Int) ≤ 100) (hs : (nsum N m : Int) ≤ 16777216) :
    Calls Try.prog 24 #[.slice (some ⟨q, 0, none⟩) m cap] w fun e w' => ∃ v, e = .returned v ∧ w'.ownsRow w.heap.size 25 1 v (nsum N m) (vcat V m) ∧ Below w.heap.size w w' := by
  obtain ⟨i0, hi0, hz0, hz1, hz2⟩ := info_parts infoRow
  have H := hide h
  have MO := hide (fun k (hk : k ≤ m) => nsum_mono (N := N) hk)
  have HS := hide (fun k => (show nsum N (k + 1) = nsum N k + N k from rfl))
  clear h
  go_enter Try.func24, Try.ntmps24
  go_wp2_with fail
  go_loop [3, 11] (fun z i => ∃ k : Nat, k ≤ m ∧ i = .int .i64 (k : Int) ∧ z = .int .i64 (nsum N k : Nat)) (fun _ i => m - (intOf i).toNat)
  case atStart => exact ⟨0, Nat.zero_le _, rfl, rfl⟩
  case round =>
    obtain ⟨k, hk, rfl, rfl⟩ := hrel
    by_cases hlt : k < m
    · have kI : (k : Int) < (m : Int) := by omega
      have m1 := MO.out (k + 1) (by omega)
      have m2 := HS.out k
      have c1 := H.out.head k hlt
      have nn : decide (((nsum N k : Nat) : Int) + (N k : Int) < 0) = false := decide_eq_false (by omega)
      have bnd : ((nsum N k : Nat) : Int) + (N k : Int) ≤ 16777216 := by omega
      have E := hide m2
      clear m1 m2
      generalize nsum N k = s at *
      generalize N k = r at *
      go_wp2_with fail
      go_round
      case rel => exact ⟨k + 1, by omega, by go_num, by rw [E.out]; go_num⟩
      case measure => simp [intOf]; omega
    · have ek : k = m := by omega
      subst ek
      have kI : decide ((k : Int) < (k : Int)) = false := decide_eq_false (by omega)
      go_wp2_with fail
      refine (growL (nsum N k) (by omega) w).mono ?_
      rintro e w1 ⟨v, rfl, o1, b1⟩
      have O1 := hide o1
      have B1 := hide b1
      clear o1 b1
      go_wp2_with fail
      go_loopw [6, 27] (fun v i wx => ∃ t : Nat, t ≤ k ∧ i = .int .i64 (t : Int) ∧ wx.ownsRow w.heap.size 25 1 v (nsum N t) (vcat V t) ∧ Below w.heap.size w wx) (fun _ i _ => k - (intOf i).toNat)
      case atStart => exact ⟨0, Nat.zero_le _, rfl, O1.out, B1.out⟩
      case round =>
        obtain ⟨X, rfl⟩ : ∃ X, X = wr := ⟨_, rfl⟩
        obtain ⟨t, ht, rfl, hown, hbb⟩ := hrel
        have OW := hide hown
        have BB := hide hbb
        have zX := hbb.size
        clear hown hbb
        by_cases htl : t < k
        · have tI : (t : Int) < (k : Int) := by omega
          have m1 := MO.out (t + 1) (by omega)
          have E := hide (HS.out t)
          have E2 := hide (show vcat V (t + 1) = vcat V t ++ V t from rfl)
          have e0 := HS.out t
          have HX := H.out.below (BB.out.mono hB)
          have c1 := HX.head t htl
          have NEWS := hide (HX.row t htl)
          have LEN := hide (show (V t).length = N t * 1 by rw [HX.len t htl]; omega)
          have ONE := hide (HX.one t htl)
          have bnd : nsum N t + N t ≤ 16777216 := by omega
          clear HX m1 e0
          obtain ⟨news, hnw⟩ : ∃ nw, V t = nw := ⟨_, rfl⟩
          rw [hnw] at NEWS LEN ONE E2
          clear hnw
          generalize K t = lc at *
          generalize A t = ad at *
          obtain ⟨r, hrr⟩ : ∃ r, N t = r := ⟨_, rfl⟩
          rw [hrr] at E bnd LEN c1
          clear hrr
          obtain ⟨s, hss⟩ : ∃ s, nsum N t = s := ⟨_, rfl⟩
          rw [hss] at OW E bnd
          clear hss
          go_wp2_with (at_builtin; refine wpList_append_own _ rfl _ _ 22 rfl w.heap.size 25 i0 (.slice none 0 0) 1 24 Try.underlying22 hi0 hz0 hz1 hz2 rfl (by decide) _ _ _ rfl OW.out ad r lc news rfl LEN.out NEWS.out ONE.out (by unfold maxLen; omega) (by omega) (by omega) ?_; intro v' X1 hown1 hgrow1 _)
          go_roundw
          case rel =>
            refine ⟨t + 1, by omega, by go_num, by rw [E.out, E2.out]; exact hown1, BB.out.grown hgrow1 (by omega) (fun b hb => (OW.out.lt b hb).1)⟩
          case measure => simp [intOf]; omega
        · have ek2 : t = k := by omega
          subst ek2
          have tI : decide ((t : Int) < (t : Int)) = false := decide_eq_false (by omega)
          go_wp2_with fail
          go_ret
          exact ⟨_, rfl, OW.out, BB.out⟩
end Vo
end Go.Proofs.Ytjlmbeachanlfaa

/- Tensors in memory: two lists; what the laws make of them. -/
namespace Go.Proofs.Ytjlmbeachanlfaa
namespace Vo
open Go.ChangeShapes Go.WideShapes Go.ChangeAt Go.RowKit Go.Joins
open Vl Vp
set_option linter.unusedVariables false
set_option linter.unusedSimpArgs false

/-- a tensor in a variable -/
def Bx (wx : World) (p : Nat) (v0 v1 : Value) : Prop := wx.cell? ⟨p, 0, none⟩ = some v0 ∧ wx.cell? ⟨p, 1, none⟩ = some v1
theorem bx_new (w : World) (v0 v1 : Value) (t : TypeId) : Bx (w.alloc (.cells #[v0, v1] t)) w.heap.size v0 v1 := by
  unfold Bx
  simp [go_sem]
theorem Bx.below {B : Nat} {w w' : World} {p : Nat} {v0 v1 : Value} (h : Bx w p v0 v1) (hb : Below B w w') (hp : p < B) : Bx w' p v0 v1 := by
  unfold Bx at *
  rw [hb.cell (p := ⟨p, 0, none⟩) hp, hb.cell (p := ⟨p, 1, none⟩) hp]
  exact h
theorem Bx.kept {T : Nat → Prop} {w w' : World} {p : Nat} {v0 v1 : Value} (h : Bx w p v0 v1) (hb : Kept T w w') (hp : p < w.heap.size) (hn : ¬ T p) : Bx w' p v0 v1 := by
  unfold Bx at *
  have e := hb.block p hp hn
  rw [World.cell?_of_block (w := w) (a := ⟨p, 0, none⟩) e, World.cell?_of_block (w := w) (a := ⟨p, 1, none⟩) e]
  exact h
end Vo
end Go.Proofs.Ytjlmbeachanlfaa
