/- Lives of copies of one nest. -/
import Derived.Test.YtgmjijjckedmcaaMj
import Derived.Test.YtgmjijjckedmcaaJr
namespace Go.Proofs.Ytgmjijjckedmcaa
namespace Vo
open Go.ChangeShapes Go.WideShapes Go.ChangeAt Go.RowKit Go.Joins Go.Sort
open Vl Vp
set_option linter.unusedVariables false
set_option linter.unusedSimpArgs false
theorem hasB_congr2 {n : Nat} {G G' : Nat → Int} (h : ∀ j, j < n → G' j = G j) (x : Int) : hasB n G' x = hasB n G x := hasB_congr (fun j hj => h j hj) x
theorem touch_eq {k k' : KV} (h : KEq k k') (b : Int) : touchB k' b = touchB k b := by
  unfold touchB loadsB
  rw [h.2.2.2.2.1.1, h.2.2.1, hasB_congr2 (fun j hj => (h.2.2.2.1 j hj).1)]
theorem fs_eq {K K' : Nat → KV} (b : Int) : ∀ n, (∀ j, j < n → KEq (K j) (K' j)) → fs K' b n = fs K b n
  | 0, _ => rfl
  | n + 1, h => by unfold fs; rw [fs_eq b n (fun j hj => h j (by omega)), touch_eq (h n (by omega))]
theorem ls_eq {K K' : Nat → KV} (b : Int) : ∀ n, (∀ j, j < n → KEq (K j) (K' j)) → ls K' b n = ls K b n
  | 0, _ => rfl
  | n + 1, h => by unfold ls; rw [ls_eq b n (fun j hj => h j (by omega)), touch_eq (h n (by omega))]
theorem gv_eq {v u : NV} (h : NEq v u) (b : Int) : gvB u b = gvB v b := by
  unfold gvB
  rw [h.2.1.1, h.2.2.1.1]
  exact hasB_congr2 (fun j hj => gvn_eq h j hj) b
theorem lifeB_eq {v u : NV} (h : NEq v u) (b : Nat) : lifeB u b = lifeB v b := by
  unfold lifeB
  rw [gv_eq h, h.1.2, h.2.2.2.1.1, fs_eq _ _ h.2.2.2.1.2]
  unfold ouB
  rw [h.2.2.2.2.1, h.2.2.2.2.2]
theorem lifeV_eq {v u : NV} (h : NEq v u) (b : Nat) : lifeV u b = lifeV v b := by
  unfold lifeV
  rw [gv_eq h, h.1.2, h.2.2.2.1.1, fs_eq _ _ h.2.2.2.1.2, ls_eq _ _ h.2.2.2.1.2]
  unfold ouB
  rw [h.2.2.2.2.1, h.2.2.2.2.2]
theorem lvs_eq {v u : NV} (h : NEq v u) (j : Nat) : lvs u j = lvs v j := by
  unfold lvs
  exact List.filter_congr (fun q _ => lifeB_eq h q)
theorem LVS_eq {v u : NV} (h : NEq v u) : LVS u = LVS v := by
  funext q
  unfold LVS
  rw [h.1.1, lvs_eq h, lifeV_eq h]
theorem lvn_eq {v u : NV} (h : NEq v u) : lvn u = lvn v := by
  unfold lvn
  rw [h.1.1, lvs_eq h]
/-- how many lives there are; none where the nest cannot be -/
def lvq (v : NV) : Nat := if NOk v then lvn v else 0
theorem lvq_eq {v u : NV} (h : NSame v u) : lvq u = lvq v := by
  unfold lvq
  by_cases c : NOk v
  · rw [if_pos c, if_pos (nok_of h.eq c), lvn_eq h.eq]
  · rw [if_neg c, if_neg (fun q => c (nok_of h.eq.symm q))]
end Vo
end Go.Proofs.Ytgmjijjckedmcaa
