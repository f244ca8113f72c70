/- Rows of texts of one's own, marked. -/
import Derived.Test.YtcmfglhjlifobaaPj
import Derived.Lib.QuietBelow
namespace Go.Proofs.Ytcmfglhjlifobaa
namespace Vo
open Go.ChangeShapes Go.WideShapes Go.ChangeAt Go.RowKit Go.Joins Go.Sort
open Vl Vp
set_option linter.unusedVariables false
set_option linter.unusedSimpArgs false
/-- a row of texts of one's own -/
def RwT (w : World) (g n : Nat) (T : Nat → ByteArray) : Prop := ∀ t, t < n → w.cell? ⟨g, t, none⟩ = some (.string (T t)) ∧ w.frozen? ⟨g, t, none⟩ = false
theorem RwT.lt {w : World} {g n : Nat} {T : Nat → ByteArray} (h : RwT w g n T) (hn : n ≠ 0) : g < w.heap.size := World.block_lt_of_cell? _ _ (h 0 (by omega)).1
theorem RwT.below {B : Nat} {w w' : World} {g n : Nat} {T : Nat → ByteArray} (h : RwT w g n T) (hb : Below B w w') (hg : g < B) : RwT w' g n T := fun t ht =>
  ⟨(hb.cell (p := ⟨g, t, none⟩) hg).trans (h t ht).1, (hb.frozen (p := ⟨g, t, none⟩) hg).trans (h t ht).2⟩
theorem RwT.same {w : World} {g n : Nat} {T U : Nat → ByteArray} (h : RwT w g n T) (e : ∀ t, t < n → U t = T t) : RwT w g n U := fun t ht => by rw [e t ht]; exact h t ht
theorem RwT.set {w : World} {g n : Nat} {T : Nat → ByteArray} (h : RwT w g n T) (j : Nat) (x : ByteArray) : RwT (w.setCell ⟨g, j, none⟩ (.string x)) g n (fun t => if t = j then x else T t) := by
  intro t ht
  rw [World.frozen?_setCell]
  by_cases c : t = j
  · subst c
    rw [World.cell?_setCell_same _ _ _ (h t ht).1]
    exact ⟨by simp, (h t ht).2⟩
  · rw [World.cell?_setCell_other _ _ _ _ (by intro e; cases e; exact c rfl)]
    simp only [c, if_false]
    exact h t ht
/-- .. as a list -/
def OwnT (B : Nat) (w : World) (a : Option Addr) (n : Nat) (T : Nat → ByteArray) : Prop := n = 0 ∨ ∃ g, a = some ⟨g, 0, none⟩ ∧ B ≤ g ∧ RwT w g n T
theorem OwnT.below {B : Nat} {w w' : World} {a : Option Addr} {n : Nat} {T : Nat → ByteArray} (h : OwnT B w a n T) (hb : Below w.heap.size w w') : OwnT B w' a n T := by
  by_cases hn : n = 0
  · exact .inl hn
  · rcases h with h | ⟨g, e, hB, hw⟩
    · exact .inl h
    · exact .inr ⟨g, e, hB, hw.below hb (hw.lt hn)⟩
theorem OwnT.same {B : Nat} {w : World} {a : Option Addr} {n : Nat} {T U : Nat → ByteArray} (h : OwnT B w a n T) (he : ∀ t, t < n → U t = T t) : OwnT B w a n U := by
  rcases h with h | ⟨g, e, hB, hw⟩
  · exact .inl h
  · exact .inr ⟨g, e, hB, hw.same he⟩
theorem OwnT.stL {B : Nat} {w : World} {a : Option Addr} {n : Nat} {T : Nat → ByteArray} (h : OwnT B w a n T) : StL w.heap.size w a n T := by
  by_cases hn : n = 0
  · exact .inl hn
  · rcases h with h | ⟨g, e, hB, hw⟩
    · exact .inl h
    · exact .inr ⟨g, 0, e, hw.lt hn, fun t ht => by rw [Nat.zero_add]; exact (hw t ht).1⟩
theorem ownT_of {w : World} {base cap : Nat} {a : Option Addr} {s : ByteArray} {L : List (Nat × Nat)} (h : w.ownsRow base 9 1 (.slice a L.length cap) L.length (grV s L)) : OwnT base w a L.length (grT s L) := by
  obtain ⟨a', c', e, h'⟩ := own_shape h
  injection e with e1 e2 e3
  subst e1
  rcases h' with h0 | ⟨g, rfl, hb, hg⟩
  · exact .inl h0
  · exact .inr ⟨g, rfl, hb, fun t ht => ⟨by rw [h.cellAt t (by omega)]; exact grV_at ht, h.frozenAt t⟩⟩
theorem OwnT.blk {B : Nat} {w : World} {a : Option Addr} {n : Nat} {T : Nat → ByteArray} (h : OwnT B w a n T) {b : Nat} (hb : Blk a n b) : B ≤ b := by
  obtain ⟨hr, ad, rfl, rfl⟩ := hb
  rcases h with h | ⟨g, e, hB, hw⟩
  · exact absurd h hr
  · obtain rfl : ad = _ := Option.some.inj e
    exact hB
theorem pL_len (s : ByteArray) : (pL s).length ≤ s.size + 1 := by
  unfold pL
  cases h : pA s with
  | none => exact Nat.zero_le _
  | some A =>
    have hA : A < s.size := by
      unfold pA at h
      exact List.mem_range.1 (List.mem_of_find?_eq_some h)
    show ((scanL s A).1 ++ [((scanL s A).2, A)]).length ≤ _
    have := scanL_len s A
    simp only [List.length_append, List.length_cons, List.length_nil]
    omega
theorem StL.more {B B' : Nat} {w : World} {a : Option Addr} {n : Nat} {T : Nat → ByteArray} (h : StL B w a n T) (hB : B ≤ B') : StL B' w a n T := by
  rcases h with h | ⟨b, o, e, hb, hc⟩
  · exact .inl h
  · exact .inr ⟨b, o, e, Nat.lt_of_lt_of_le hb hB, hc⟩
set_option maxRecDepth 100000 in
theorem markStrings (B : Nat) (a : Option Addr) (n cap : Nat) (T : Nat → ByteArray) (k : Nat) (w : World) (h : OwnT B w a n T) (hB : B ≤ w.heap.size) (hn : (n : Int) ≤ 1048577) (k0 : 1 ≤ k) (k1 : (k : Int) ≤ 67108864) :
    Calls Try.prog 8 #[.slice a n cap, .int .i64 (k : Int)] w fun e w' => e = .returned (.int .i64 ((k : Int) + n)) ∧ OwnT B w' a n (fun j => mtT (k + j)) ∧ Kept (Blk a n) w w' := by
  have H := hide h
  clear h
  go_enter Try.func8, Try.ntmps8
  go_wp2_with fail
  go_loopw [1, 5] (fun c i wx => ∃ j : Nat, j ≤ n ∧ c = .int .i64 ((k : Int) + j) ∧ i = .int .i64 j ∧ OwnT B wx a n (fun t => if t < j then mtT (k + t) else T t) ∧ Kept (Blk a n) w wx) (fun _ i _ => n - (intOf i).toNat)
  case atStart => exact ⟨0, Nat.zero_le _, by go_num, rfl, H.out.same (fun t ht => by simp), Kept.refl _ _⟩
  case round =>
    obtain ⟨j, hj, rfl, rfl, hw, hk⟩ := hrel
    by_cases hlt : j < n
    · rcases hw with h0 | ⟨g, rfl, hG, hw⟩
      · omega
      have HW := hide hw
      have HK := hide hk
      have C := hide (markText (k + j) wr (by omega) (by omega))
      rw [Int.natCast_add] at C
      clear hw hk
      go_wp2_with fail
      refine C.out.mono ?_
      rintro e w1 ⟨rfl, b1⟩
      have HW1 := hide (HW.out.below b1 (HW.out.lt (by omega)))
      obtain ⟨c2, f2⟩ := HW1.out j hlt
      have HK1 := hide (HK.out.trans (Kept.of_below (S := Blk (some ⟨g, 0, none⟩) n) b1))
      clear b1 HW HK C
      go_wp2_with fail
      go_roundw
      case rel =>
        refine ⟨j + 1, by omega, by go_num, by go_num, .inr ⟨g, rfl, hG, (HW1.out.set j (mtT (k + j))).same (fun t ht => ?_)⟩, HK1.out.trans ((Kept.setCell _ ⟨g, j, none⟩ _).mono ?_)⟩
        · by_cases c : t = j
          · subst c; simp
          · by_cases c2 : t < j <;> simp [c, c2] <;> omega
        · rintro b _ rfl
          exact ⟨by omega, _, rfl, rfl⟩
      case measure => simp [intOf]; omega
    · have e : j = n := by omega
      subst e
      have HW := hide hw
      have HK := hide hk
      clear hw hk
      go_wp2_with fail
      go_ret
      exact ⟨rfl, HW.out.same (fun t ht => by simp [ht]), HK.out⟩
set_option maxRecDepth 100000 in
theorem heldStrings (B : Nat) (a : Option Addr) (n cap : Nat) (k : Nat) (w : World) (h : StL B w a n (fun j => mtT (k + j))) (hB : B ≤ w.heap.size) (hn : (n : Int) ≤ 1048577) (k0 : 1 ≤ k) (k1 : (k : Int) ≤ 67108864) :
    Calls Try.prog 9 #[.slice a n cap, .int .i64 (k : Int)] w fun e w' => e = .returned (.int .i64 ((k : Int) + n)) ∧ Below w.heap.size w w' := by
  have H := hide h
  clear h
  go_enter Try.func9, Try.ntmps9
  go_wp2_with fail
  go_loopw [1, 5] (fun c i wx => ∃ j : Nat, j ≤ n ∧ c = .int .i64 ((k : Int) + j) ∧ i = .int .i64 j ∧ Below w.heap.size w wx) (fun _ i _ => n - (intOf i).toNat)
  case atStart => exact ⟨0, Nat.zero_le _, by go_num, rfl, Below.refl _ _⟩
  case round =>
    obtain ⟨j, hj, rfl, rfl, hw⟩ := hrel
    have HW := hide hw
    clear hw
    by_cases hlt : j < n
    · rcases (H.out.below (HW.out.mono hB)) with h0 | ⟨b, o, rfl, hb, hc⟩
      · omega
      have hcj : wr.cell? ⟨b, o + j, none⟩ = some (.string (mtT (k + j))) := hc j hlt
      have c1 := cell_regrown hcj
      have be : ((mtT (k + j)).toList == (mtT (k + j)).toList) = true := (Lib.bytes_beq_iff _ _).2 rfl
      have C : ∀ q os, Calls Try.prog 21 #[.int .i64 ((k : Int) + j)] (Sort.grow (redrawn wr q) os) fun e w'' => e = .returned (.string (mtT (k + j))) ∧ ∃ p : Regrown, w'' = Sort.grow (redrawn wr p.d) p.os := fun q os => Calls.regrown_of (by have := markText (k + j) (Sort.grow (redrawn wr q) os) (by omega) (by omega); rw [Int.natCast_add] at this; exact this)
      have HC := hide C
      clear hc C hcj
      generalize mtT (k + j) = x at c1 be HC
      go_wp2_with fail
      refine wp_region_quiet_below (by kernel_rfl) (by kernel_rfl) ?_
      repeat (quiet_step (first | (go_at_call 21; exact HC.out _ _)))
      refine wpQuiet_nil ?_
      intro _ hw'
      obtain ⟨⟨dq, osq⟩, hw''⟩ := hw'
      subst hw''
      go_wp2_with fail
      go_roundw
      case rel => exact ⟨j + 1, by omega, by go_num, by go_num, HW.out.trans ((below_regrown wr dq osq).mono HW.out.size)⟩
      case measure => simp [intOf]; omega
    · have e : j = n := by omega
      subst e
      go_wp2_with fail
      go_ret
      exact ⟨rfl, HW.out⟩
end Vo
end Go.Proofs.Ytcmfglhjlifobaa
