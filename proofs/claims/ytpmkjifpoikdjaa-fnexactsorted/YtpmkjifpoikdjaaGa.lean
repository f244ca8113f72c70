/- Sorted of the program. -/
import Derived.Test.YtpmkjifpoikdjaaTi
import Derived.Test.YtpmkjifpoikdjaaSz
import Derived.Laws.IdiomCopy
namespace Go.Proofs.Ytpmkjifpoikdjaa
namespace Vo
open Go.ChangeShapes Go.WideShapes Go.ChangeAt Go.RowKit Go.Joins Go.Sort
open Vl Vp Vr
set_option linter.unusedVariables false
set_option linter.unusedSimpArgs false
theorem infoSize' : (Try.prog.info? 3).map (·.size) = some 1 := by kernel_rfl
/-- the place that stands k-th in a line -/
def plG (len : Nat) (L : Nat → Int) (k : Nat) : Int := (So.ord (keyI L) len k : Nat)
/-- the number that stands k-th -/
def nuG (len : Nat) (L : Nat → Int) (k : Nat) : Int := L (So.ord (keyI L) len k)
theorem plG_rng {len : Nat} {L : Nat → Int} {k : Nat} (hk : k < len) : 0 ≤ plG len L k ∧ plG len L k < len := by
  have := (So.ord_is (K := keyI L) hk).1
  unfold plG
  omega
def vals (O : Nat → Int) (n : Nat) : List Value := (List.range n).map (fun t => Value.int .i64 (O t))
theorem vals_len (O : Nat → Int) (n : Nat) : (vals O n).length = n := by unfold vals; simp
theorem rw_copy {w : World} {g n : Nat} {D O : Nat → Int} (h : Rw w g n D) (hO : ∀ t, t < n → bd (O t)) : Rw (w.setCells g 0 (vals O n)) g n O := fun t ht => by
  obtain ⟨h1, h2, h3⟩ := h t ht
  refine ⟨?_, by rw [World.frozen?_setCells]; exact h2, hO t ht⟩
  have q := World.cell?_setCells_in g (vals O n) 0 w (fun j hj => by rw [vals_len] at hj; rw [Nat.zero_add, (h j hj).1]; rfl) t (by rw [vals_len]; exact ht)
  rw [Nat.zero_add] at q
  rw [q]
  simp [vals]
theorem copyRow {w : World} {m q n : Nat} {D O : Nat → Int} (h : Rw w m n D) (k : Rw w q n O) (ty : TypeId) :
    (Builtin.copy_ #[24, 24] ty #[.slice (some ⟨m, 0, none⟩) n n, .slice (some ⟨q, 0, none⟩) n n]).run Try.prog w = .ok (.int .i64 (n : Int)) (w.setCells m 0 (vals O n)) := by
  have r := run_copy_cells (P := Try.prog) w 24 24 ty 3 m 0 n n ⟨q, 0, none⟩ n n (vals O n) Try.underlying24 infoSize' (by rw [vals_len]; exact (Nat.min_self n).symm)
    (fun j v hj => by
      have hj' : j < n := by have := (List.getElem?_eq_some_iff.1 hj).1; rwa [vals_len] at this
      rw [Go.WideShapes.add_plain]
      rw [Nat.zero_add, (k j hj').1, ← hj]
      simp [vals, hj'])
    (fun j hj => by rw [vals_len] at hj; rw [Nat.zero_add, (h j hj).1]; rfl) (fun j hj => by rw [vals_len] at hj; rw [Nat.zero_add]; exact (h j hj).2.1) (fun v hv => by
      obtain ⟨t, _, rfl⟩ := List.mem_map.1 hv
      rfl)
  rw [vals_len] at r
  exact r
set_option maxHeartbeats 1000000 in
theorem srt1 (len : Nat) (l1 : 1 ≤ len) (hlen : (len : Int) ≤ 4096) (w : World) : LineF 45 #[] len len (nuG len) w := by
  intro W g m L hb hg hm hgm hL rl rm
  show Calls Try.prog 45 #[.slice (some ⟨g, 0, none⟩) len len, .slice (some ⟨m, 0, none⟩) len len] W _
  have lg := rl.lt (by omega)
  have lm := rm.lt (by omega)
  have CR := hide (rankedF W.heap.size len len _ L W (Nat.le_refl _) (rl.ints lg) (by omega))
  have RL := hide rl
  have RM := hide rm
  clear hL rl rm hb
  go_enter Try.func45, Try.ntmps45
  go_wp2_with fail
  refine CR.out.mono ?_
  rintro e W1 ⟨q, rfl, q1, q2, rq, b1⟩
  have RL1 := hide (RL.out.below b1 lg)
  have RM1 := hide (RM.out.below b1 lm)
  have RQ1 := hide rq
  have K1 := hide (show Kept (· = m) W W1 from Kept.of_below b1)
  clear rq b1 CR
  go_wp2_with fail
  go_loopw [9] (fun i wx => ∃ t : Nat, t ≤ len ∧ i = .int .i64 t ∧ Rw wx g len L ∧ Rw wx q len (fun k => (So.ord (keyI L) len k : Nat)) ∧ Rw wx m len (fun u => if u < t then nuG len L u else 0) ∧ Kept (· = m) W wx) (fun i _ => len - (intOf i).toNat)
  case atStart => exact ⟨0, Nat.zero_le _, rfl, RL1.out, RQ1.out, RM1.out.same (fun u hu => by simp), K1.out⟩
  case round =>
    obtain ⟨t, ht, rfl, hrl, hrq, hrm, hkp⟩ := hrel
    have HRL := hide hrl
    have HRQ := hide hrq
    have HRM := hide hrm
    have HKP := hide hkp
    clear hrl hrq hrm hkp
    by_cases hlt : t < len
    · have tI : (t : Int) < len := by omega
      obtain ⟨p, hp⟩ : ∃ p, So.ord (keyI L) len t = p := ⟨_, rfl⟩
      have pl := (So.ord_is (K := keyI L) hlt).1
      have EG := hide (show nuG len L t = L p by unfold nuG; rw [hp])
      obtain ⟨c1, f1, _⟩ := HRQ.out t hlt
      dsimp only at c1
      rw [hp] at c1 pl
      obtain ⟨c2, f2, d2⟩ := HRM.out t hlt
      obtain ⟨c3, f3, d3⟩ := HRL.out p pl
      have pI : (p : Int) < len := by omega
      clear hp d2
      go_wp2_with fail
      go_roundw
      case rel => exact ⟨t + 1, by omega, by go_num, HRL.out.kept (Kept.setCell _ ⟨m, t, none⟩ _) (by show ¬ g = m; exact hgm), HRQ.out.kept (Kept.setCell _ ⟨m, t, none⟩ _) (by show ¬ q = m; omega), (HRM.out.set t (L p) d3).same (fun u hu => by
        by_cases c : u = t
        · subst c; simp [EG.out]
        · by_cases c2 : u < t <;> simp [c, c2] <;> omega), HKP.out.trans (Kept.setCell _ ⟨m, t, none⟩ _)⟩
      case measure => simp [intOf]; omega
    · obtain rfl : t = len := by omega
      go_wp2_with fail
      exact bodyPost_end (results_none rfl _ _ _) rfl ⟨⟨_, rfl⟩, HRM.out.same (fun u hu => by simp [hu]), HKP.out⟩
set_option maxHeartbeats 1000000 in
theorem srt2 (len : Nat) (l1 : 1 ≤ len) (hlen : (len : Int) ≤ 4096) (w : World) : LineF 47 #[] len len (plG len) w := by
  intro W g m L hb hg hm hgm hL rl rm
  show Calls Try.prog 47 #[.slice (some ⟨g, 0, none⟩) len len, .slice (some ⟨m, 0, none⟩) len len] W _
  have lg := rl.lt (by omega)
  have lm := rm.lt (by omega)
  have CR := hide (rankedF W.heap.size len len _ L W (Nat.le_refl _) (rl.ints lg) (by omega))
  have RM := hide rm
  clear hL rl rm hb
  go_enter Try.func47, Try.ntmps47
  go_wp2_with fail
  refine CR.out.mono ?_
  rintro e W1 ⟨q, rfl, q1, q2, rq, b1⟩
  have RM1 := RM.out.below b1 lm
  have K1 := hide (show Kept (· = m) W W1 from Kept.of_below b1)
  have hcp := copyRow RM1 rq
  have R2 := hide (rw_copy RM1 (O := fun k => (So.ord (keyI L) len k : Nat)) (fun t ht => (rq t ht).2.2))
  have K2 := hide (K1.out.trans (kept_setCells m (vals (fun k => (So.ord (keyI L) len k : Nat)) len) 0 W1))
  obtain ⟨W2, hW2⟩ : ∃ W2, W1.setCells m 0 (vals (fun k => (So.ord (keyI L) len k : Nat)) len) = W2 := ⟨_, rfl⟩
  rw [hW2] at hcp R2 K2
  clear rq b1 CR RM1 hW2
  go_wp2_with fail
  exact bodyPost_end (results_none rfl _ _ _) rfl ⟨⟨_, rfl⟩, R2.out, K2.out⟩
end Vo
end Go.Proofs.Ytpmkjifpoikdjaa
