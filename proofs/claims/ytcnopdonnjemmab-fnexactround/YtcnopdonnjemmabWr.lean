/- Lists of lists of one's own: marked, held (out of Nj). -/
import Derived.Test.YtcnopdonnjemmabLza
import Derived.Test.YtcnopdonnjemmabVn
namespace Go.Proofs.Ytcnopdonnjemmab
namespace Vo
open Go.ChangeShapes Go.WideShapes Go.ChangeAt Go.RowKit Go.Joins Go.Sort
open Vl Vp
set_option linter.unusedVariables false
set_option linter.unusedSimpArgs false
theorem OLL.keptS {S : Nat → Prop} {w w' : World} {g n k : Nat} {M : Nat → LV} (h : OLL w g n k M) (hk : Kept S w w') (hg : ¬ S g) (hr : ∀ i, i < k → ∀ b, Blk (M i).a (M i).r b → ¬ S b) : OLL w' g n k M :=
  have eb := hk.block g h.lt hg
  ⟨Nat.lt_of_lt_of_le h.lt hk.size, fun i hi => (World.cell?_of_block (w := w) (a := ⟨g, i, none⟩) eb).trans (h.laid i hi), fun i h1 h2 => (World.cell?_of_block (w := w) (a := ⟨g, i, none⟩) eb).trans (h.rest i h1 h2), fun i => (World.frozen?_of_block (w := w) (a := ⟨g, i, none⟩) eb).trans (h.free i), fun i hi => (h.own i hi).kept hk (hr i hi), h.ord⟩
theorem lsum_mono {L : Nat → LV} {k n : Nat} (h : k ≤ n) : lsum L k ≤ lsum L n := by
  induction n with
  | zero => have : k = 0 := by omega
            subst this; exact Nat.le_refl _
  | succ n ih =>
    by_cases e : k = n + 1
    · subst e; exact Nat.le_refl _
    · have := ih (by omega)
      show _ ≤ lsum L n + (L n).r
      omega
theorem arg2_at {H : Type} {enc : TypeId × Value → H} {w : World} {base : Nat} {spare : Nat → Bool} {held : Bool} {a : Option Addr} {r cap : Nat} {d : DataW H} {p : List MemPlace}
    (h : DataW.Trod enc Try.prog w base spare held 30 (.slice a r cap) d p) : Arg2 w a r := by
  obtain ⟨fuel, hf⟩ := h
  obtain ⟨a', r', cap', e, h'⟩ := arg2_of (c := .slice a r cap) (by simpa [Value.cells] using hf)
  simp at e
  obtain ⟨rfl, rfl, rfl⟩ := e
  exact h'
/-- rows of one's own that lie from E up to below F -/
def RowsO (E F : Nat) (w : World) (a : Option Addr) (n : Nat) (M : Nat → LV) : Prop :=
  n = 0 ∨ ∃ g, a = some ⟨g, 0, none⟩ ∧ E ≤ g ∧ g < F ∧ OLL w g n n M ∧ ∀ i, i < n → ∀ b, Blk (M i).a (M i).r b → b < F
theorem RowsO.below {E F : Nat} {w w' : World} {a : Option Addr} {n : Nat} {M : Nat → LV} (h : RowsO E F w a n M) (hb : Below w.heap.size w w') : RowsO E F w' a n M := by
  rcases h with h | ⟨g, e, h1, h2, o, r⟩
  · exact .inl h
  · exact .inr ⟨g, e, h1, h2, o.below hb, r⟩
theorem RowsO.kept {S : Nat → Prop} {E F : Nat} {w w' : World} {a : Option Addr} {n : Nat} {M : Nat → LV} (h : RowsO E F w a n M) (hk : Kept S w w') (hs : ∀ b, E ≤ b → b < F → ¬ S b) : RowsO E F w' a n M := by
  rcases h with h | ⟨g, e, h1, h2, o, r⟩
  · exact .inl h
  · exact .inr ⟨g, e, h1, h2, o.keptS hk (hs g h1 h2) (fun i hi b hb => hs b (by have := ((o.own i hi).blk hb).1; omega) (r i hi b hb)), r⟩
theorem RowsO.read {E F : Nat} {w : World} {a : Option Addr} {n : Nat} {M : Nat → LV} (h : RowsO E F w a n M) : LL w.heap.size w a n M := by
  rcases h with h | ⟨g, rfl, h1, h2, o, r⟩
  · exact .inl h
  · exact o.read
def setD (M : Nat → LV) (i : Nat) (D : Nat → Int) : Nat → LV := fun t => if t = i then ⟨(M t).a, (M t).r, (M t).cap, D⟩ else M t
theorem setD_a (M : Nat → LV) (i : Nat) (D : Nat → Int) (t : Nat) : (setD M i D t).a = (M t).a ∧ (setD M i D t).r = (M t).r ∧ (setD M i D t).cap = (M t).cap := by
  unfold setD
  split <;> exact ⟨rfl, rfl, rfl⟩
theorem OLL.mark {w w' : World} {g n i : Nat} {M : Nat → LV} {D : Nat → Int} (h : OLL w g n n M) (hi : i < n) (ho : OwnL (g + 1) w' (M i).a (M i).r D) (hk : Kept (Blk (M i).a (M i).r) w w') : OLL w' g n n (setD M i D) := by
  have ng : ¬ Blk (M i).a (M i).r g := fun q => by have := ((h.own i hi).blk q).1; omega
  have eb := hk.block g h.lt ng
  refine ⟨Nat.lt_of_lt_of_le h.lt hk.size, fun t ht => ?_, fun t h1 h2 => by omega, fun t => (World.frozen?_of_block (w := w) (a := ⟨g, t, none⟩) eb).trans (h.free t), fun t ht => ?_, fun t u htu hu b b' h2 h3 => ?_⟩
  · obtain ⟨e1, e2, e3⟩ := setD_a M i D t
    rw [e1, e2, e3]
    exact (World.cell?_of_block (w := w) (a := ⟨g, t, none⟩) eb).trans (h.laid t ht)
  · by_cases c : t = i
    · subst c
      unfold setD
      simp only [if_true]
      exact ho
    · unfold setD
      simp only [c, if_false]
      refine (h.own t ht).kept hk (fun b q q' => ?_)
      rcases Nat.lt_or_ge t i with z | z
      · have := h.ord t i z hi b b q q'; omega
      · have := h.ord i t (by omega) ht b b q' q; omega
  · rw [(setD_a M i D t).1, (setD_a M i D t).2.1] at h2
    rw [(setD_a M i D u).1, (setD_a M i D u).2.1] at h3
    exact h.ord t u htu hu b b' h2 h3
/-- rows that are marked, up to the j-th -/
def mkd (M : Nat → LV) (k : Int) (j : Nat) : Nat → LV := fun t => if t < j then ⟨(M t).a, (M t).r, (M t).cap, fun x => k + lsum M t + x⟩ else M t
theorem mkd_zero (M : Nat → LV) (k : Int) : mkd M k 0 = M := by
  funext t
  unfold mkd
  rw [if_neg (by omega)]
theorem mkd_at (M : Nat → LV) (k : Int) (j : Nat) : mkd M k j j = M j := by
  unfold mkd
  rw [if_neg (by omega)]
theorem mkd_in (M : Nat → LV) (k : Int) {j t : Nat} (h : t < j) : mkd M k j t = ⟨(M t).a, (M t).r, (M t).cap, fun x => k + lsum M t + x⟩ := by
  unfold mkd
  rw [if_pos h]
theorem mkd_a (M : Nat → LV) (k : Int) (j t : Nat) : (mkd M k j t).a = (M t).a ∧ (mkd M k j t).r = (M t).r := by
  unfold mkd
  split <;> exact ⟨rfl, rfl⟩
theorem mkd_succ (M : Nat → LV) (k : Int) (j : Nat) : setD (mkd M k j) j (fun x => k + lsum M j + x) = mkd M k (j + 1) := by
  funext t
  unfold setD
  by_cases c : t = j
  · subst c
    rw [if_pos rfl, mkd_at, mkd_in M k (Nat.lt_succ_self t)]
  · rw [if_neg c]
    unfold mkd
    by_cases d : t < j
    · rw [if_pos d, if_pos (by omega)]
    · rw [if_neg d, if_neg (by omega)]
theorem lsum_succ (L : Nat → LV) (n : Nat) : ((lsum L (n + 1) : Nat) : Int) = (lsum L n : Int) + ((L n).r : Int) := by
  show ((lsum L n + (L n).r : Nat) : Int) = _
  omega
theorem RowsO.mark {E F : Nat} {w w' : World} {a : Option Addr} {n j : Nat} {M : Nat → LV} {k : Int} (h : RowsO E F w a n (mkd M k j)) (hj : j < n) {g : Nat} (hg : a = some ⟨g, 0, none⟩) (ho : OwnL (g + 1) w' (M j).a (M j).r (fun x => k + lsum M j + x)) (hk : Kept (Blk (M j).a (M j).r) w w') : RowsO E F w' a n (mkd M k (j + 1)) := by
  rcases h with h | ⟨g', e, h1, h2, o, r⟩
  · omega
  · rw [hg] at e
    cases e
    refine .inr ⟨g, hg, h1, h2, ?_, fun i hi b hb => ?_⟩
    · rw [← mkd_succ]
      exact o.mark hj (by rw [mkd_at]; exact ho) (by rw [mkd_at]; exact hk)
    · refine r i hi b ?_
      rw [(mkd_a _ _ _ _).1, (mkd_a _ _ _ _).2] at hb ⊢
      exact hb
set_option maxHeartbeats 1000000 in
theorem markIntSS (E F : Nat) (a : Option Addr) (n cap : Nat) (M : Nat → LV) (k : Int) (w : World) (h : RowsO E F w a n M) (hl : LLen n M 1048576) (hs : (lsum M n : Int) ≤ 33554432) (hn : (n : Int) ≤ 1048576) (k0 : 0 ≤ k) (k1 : k ≤ 33554432) :
    Calls Try.prog 16 #[.slice a n cap, .int .i64 k] w fun e w' => e = .returned (.int .i64 (k + lsum M n)) ∧ RowsO E F w' a n (mkd M k n) ∧ Kept (fun b => E ≤ b ∧ b < F) w w' := by
  have H := hide h
  have HL := hide hl
  have HS := hide hs
  clear h hl hs
  go_enter Try.func16, Try.ntmps16
  go_wp2_with fail
  go_loopw [1, 5] (fun c i wx => ∃ j : Nat, j ≤ n ∧ c = .int .i64 (k + lsum M j) ∧ i = .int .i64 j ∧ RowsO E F wx a n (mkd M k j) ∧ Kept (fun b => E ≤ b ∧ b < F) w wx) (fun _ i _ => n - (intOf i).toNat)
  case atStart => exact ⟨0, Nat.zero_le _, by show _ = Value.int IntKind.i64 (k + ((0 : Nat) : Int)); go_num, rfl, by rw [mkd_zero]; exact H.out, Kept.refl _ _⟩
  case round =>
    obtain ⟨X, rfl⟩ : ∃ X, X = wr := ⟨_, rfl⟩
    obtain ⟨j, hj, rfl, rfl, hw, hk⟩ := hrel
    have HW := hide hw
    have HK := hide hk
    clear hw hk
    by_cases hlt : j < n
    · have kI : (j : Int) < n := by omega
      obtain ⟨g, hg, o, rr⟩ : ∃ g, a = some ⟨g, 0, none⟩ ∧ OLL X g n n (mkd M k j) ∧ (E ≤ g ∧ ∀ b, Blk (M j).a (M j).r b → b < F) := by
        rcases HW.out with h0 | ⟨g, e, h1, h2, o, r⟩
        · omega
        · exact ⟨g, e, o, h1, fun b hb => r j hlt b (by rw [mkd_at]; exact hb)⟩
      have c0 := o.laid j hlt
      have ow := hide (o.own j hlt)
      rw [mkd_at] at c0 ow
      have RR := hide rr
      have HG := hide hg
      obtain ⟨S, hS⟩ : ∃ S : Int, S = lsum M j := ⟨_, rfl⟩
      have s0 : 0 ≤ S := by omega
      have s1 : S ≤ 33554432 := by have := lsum_mono (L := M) hj; have := HS.out; omega
      have CT := hide (markIntS (g + 1) (M j).a (M j).r (M j).cap (M j).D (k + S) X ow.out (HL.out j hlt) (by omega) (by omega))
      have ES := hide hS
      rw [← hS]
      clear o rr hS
      subst hg
      go_wp2_with fail
      refine CT.out.mono ?_
      rintro e X1 ⟨rfl, ho, hk⟩
      have HO := hide ho
      have HX := hide hk
      clear ho hk CT
      have lr := HL.out j hlt
      go_wp2_with fail
      go_roundw
      all_goals first
        | (simp only [intOf]; omega)
        | (simp [intOf]; omega)
        | exact ⟨j + 1, by omega, by rw [lsum_succ, ← ES.out]; go_num, by go_num, HW.out.mark hlt rfl (by rw [← ES.out]; exact HO.out) HX.out, HK.out.trans (HX.out.mono (fun b _ q => ⟨by have := (ow.out.blk q).1; have := RR.out.1; omega, RR.out.2 b q⟩))⟩
    · obtain rfl : j = n := by omega
      go_wp2_with fail
      go_ret
      exact ⟨rfl, HW.out, HK.out⟩
theorem heldIntB (B : Nat) (a : Option Addr) (r cap : Nat) (k : Int) (w : World) (h : Ints B w a r (fun j => k + j)) (hr : (r : Int) ≤ 1048576) (k0 : 0 ≤ k) (k1 : k ≤ 134217728) :
    Calls Try.prog 18 #[.slice a r cap, .int .i64 k] w fun e w' => e = .returned (.int .i64 (k + r)) ∧ w' = w := by
  have H := hide h
  clear h
  go_enter Try.func18, Try.ntmps18
  go_wp2_with fail
  go_loop [1, 5] (fun c i => ∃ j : Nat, j ≤ r ∧ c = .int .i64 (k + j) ∧ i = .int .i64 j) (fun _ i => r - (intOf i).toNat)
  case atStart => exact ⟨0, Nat.zero_le _, by go_num, rfl⟩
  case round =>
    obtain ⟨j, hj, rfl, rfl⟩ := hrel
    by_cases hlt : j < r
    · rcases H.out with h0 | ⟨b, off, rfl, hbB, hc⟩
      · omega
      have c1 := (hc j hlt).1
      clear hc
      go_wp2_with fail
      go_round
      case rel => exact ⟨j + 1, by omega, by go_num, by go_num⟩
      case measure => simp [intOf]; omega
    · have e : j = r := by omega
      subst e
      go_wp2_with fail
      go_ret
      exact ⟨rfl, rfl⟩
end Vo
end Go.Proofs.Ytcnopdonnjemmab
