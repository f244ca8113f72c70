/- Tree's moves and steps: the model (written by tools/genfo.py). -/
import Derived.Test.YtkllbolamgmmaaaFj
namespace Go.Proofs.Ytkllbolamgmmaaa
namespace Vo
open Go.ChangeShapes Go.WideShapes Go.ChangeAt Go.RowKit Go.Joins Go.Sort
open Vl
set_option linter.unusedVariables false
set_option linter.unusedSimpArgs false
/-- how many pairs there are for d among m -/
def pc (d m : Nat) : Nat := (m + d - 1) / (2 * d)
theorem pc_lt {d m q : Nat} (hd : 1 ≤ d) : 2 * d * q + d < m ↔ q < pc d m := by
  unfold pc
  rw [Nat.lt_iff_add_one_le (m := q), Nat.le_div_iff_mul_le (by omega), Nat.add_mul, Nat.one_mul, Nat.mul_comm q]
  omega
/-- what i and i + d send each other -/
def pairM (base apart d : Nat) (add : Bool) (i : Nat) : Mov := if add = true then ⟨(base : Int) + ((i : Int) + d) * apart, (base : Int) + (i : Int) * apart, 0, true⟩ else ⟨(base : Int) + (i : Int) * apart, (base : Int) + ((i : Int) + d) * apart, 0, false⟩
def pairsL (d m base apart : Nat) (add : Bool) : List Mov := (List.range (pc d m)).map fun q => pairM base apart d add (2 * d * q)
theorem pairsL_len (d m base apart : Nat) (add : Bool) : (pairsL d m base apart add).length = pc d m := by simp [pairsL]
theorem pc_le {d m : Nat} (hd : 1 ≤ d) : pc d m ≤ m := by
  unfold pc
  rw [Nat.div_le_iff_le_mul_add_pred (by omega)]
  have : m * 1 ≤ m * (2 * d) := Nat.mul_le_mul_left m (by omega)
  rw [Nat.mul_comm (2 * d)]
  omega
theorem mul_small {a b : Nat} (ha : a ≤ 256) (hb : b ≤ 64) : ((a : Int) * b) ≤ 16384 ∧ 0 ≤ ((a : Int) * b) := by
  have : a * b ≤ 256 * 64 := Nat.mul_le_mul ha hb
  constructor
  · have h : ((a * b : Nat) : Int) ≤ 16384 := by omega
    simpa using h
  · have h : 0 ≤ ((a * b : Nat) : Int) := by omega
    simpa using h
/-- how many steps 1, 2, 4 .. there are below m -/
def scn (m : Nat) : Nat := if m ≤ 1 then 0 else Nat.log2 (m - 1) + 1
theorem scn_lt {m k : Nat} (hm : m ≤ 64) (hk : k ≤ 6) : 2 ^ k < m ↔ k < scn m := by
  have : ∀ m, m ≤ 64 → ∀ k, k ≤ 6 → (2 ^ k < m ↔ k < scn m) := by decide
  exact this m hm k hk
theorem scn_le {m : Nat} (hm : m ≤ 64) : scn m ≤ 6 := by
  have : ∀ m, m ≤ 64 → scn m ≤ 6 := by decide
  exact this m hm
theorem infoIntO : (Try.prog.info? 3).map (fun i => (i.zero, i.size, i.bytes)) = some (some (.int .i64 0), 1, 8) := by kernel_rfl
def stV (k : Nat) : List Value := (List.range k).map fun j => .int .i64 ((2 ^ j : Nat) : Int)
theorem stV_more (k : Nat) : stV (k + 1) = stV k ++ [.int .i64 ((2 ^ k : Nat) : Int)] := range_more _ k
set_option maxRecDepth 100000 in
set_option maxHeartbeats 1000000 in
theorem pairs_true (d m base apart : Nat) (w : World) (d1 : 1 ≤ d) (d64 : d ≤ 64) (m64 : m ≤ 64) (b64 : base ≤ 64) (a64 : apart ≤ 64) :
    Calls Try.prog 41 #[.int .i64 d, .int .i64 m, .int .i64 base, .int .i64 apart, .bool true] w fun e w' => ∃ g c, e = .returned (.slice (some ⟨g, 0, none⟩) (pairsL d m base apart true).length c) ∧ OM w.heap.size w' (some ⟨g, 0, none⟩) (pairsL d m base apart true) ∧ Below w.heap.size w w' := by
  obtain ⟨j0, hj0, hjj⟩ := Option.map_eq_some_iff.1 infoMove
  simp only [Prod.mk.injEq] at hjj
  obtain ⟨gz0, gz1, gz2⟩ := hjj
  obtain ⟨Z, hZ⟩ : ∃ Z, w.alloc (.cells #[] 33) = Z := ⟨_, rfl⟩
  have Q0 := hide (show RowMv w.heap.size Z (.slice (some ⟨w.heap.size, 0, none⟩) 0 0) [] by rw [← hZ]; exact rowMv_new w)
  have BZ := hide (show Below w.heap.size w Z by rw [← hZ]; exact (Below.refl _ _).alloc (Nat.le_refl _) _)
  have PL := hide (fun q => pc_lt (m := m) (q := q) d1)
  have PLE := hide (pc_le (m := m) d1)
  go_enter Try.func41, Try.ntmps41
  go_wp2_with fail
  clear hZ
  go_loopw [11, 12] (fun o h wx => ∃ (q i g c : Nat), q ≤ pc d m ∧ i = 2 * d * q ∧ i ≤ 192 ∧ h = .int .i64 i ∧ o = .slice (some ⟨g, 0, none⟩) q c ∧ RowMv w.heap.size wx (.slice (some ⟨g, 0, none⟩) q c) ((List.range q).map fun q => pairM base apart d true (2 * d * q)) ∧ Below w.heap.size w wx) (fun _ h _ => 200 - (intOf h).toNat)
  case atStart => exact ⟨0, 0, _, _, by omega, rfl, by omega, rfl, rfl, Q0.out, BZ.out⟩
  case round =>
    obtain ⟨U, rfl⟩ : ∃ U, U = wr := ⟨_, rfl⟩
    obtain ⟨q, i, g, c, hq, hi, hi2, rfl, rfl, hr, hby⟩ := hrel
    have HI := hide hi
    have HQ := hide hr
    have HU := hide hby
    have hp := (PL.out q)
    rw [← hi] at hp
    clear hr hby hi
    by_cases hql : i + d < m
    case neg =>
      obtain rfl : q = pc d m := by have := mt hp.2 hql; omega
      have qI : decide ((i : Int) + (d : Int) < (m : Int)) = false := decide_eq_false (by omega)
      have wi : IntKind.i64.wrap ((i : Int) + (d : Int)) = (i : Int) + d := by rw [IntKind.wrap_i64]; omega
      clear hp
      go_wp2_with fail
      go_ret
      obtain ⟨a1, k1, e1, o1⟩ := HQ.out.own
      injection e1 with e1 e2 e3
      subst e1
      exact ⟨g, c, by rw [pairsL_len]; rfl, o1, HU.out⟩
    have hql2 := hp.1 hql
    have qI : (i : Int) + (d : Int) < (m : Int) := by omega
    have wi : IntKind.i64.wrap ((i : Int) + (d : Int)) = (i : Int) + d := by rw [IntKind.wrap_i64]; omega
    obtain ⟨p1, p0⟩ := mul_small (a := i) (b := apart) (by omega) a64
    obtain ⟨r1, r0⟩ := mul_small (a := i + d) (b := apart) (by omega) a64
    have ec : ((i + d : Nat) : Int) * (apart : Int) = ((i : Int) + d) * apart := by rw [Int.natCast_add]
    rw [ec] at r0 r1
    have wp : IntKind.i64.wrap ((i : Int) * (apart : Int)) = (i : Int) * apart := by rw [IntKind.wrap_i64]; omega
    have wr' : IntKind.i64.wrap (((i : Int) + (d : Int)) * (apart : Int)) = ((i : Int) + d) * apart := by rw [IntKind.wrap_i64]; omega
    have wp2 : IntKind.i64.wrap ((base : Int) + (i : Int) * (apart : Int)) = (base : Int) + (i : Int) * apart := by rw [IntKind.wrap_i64]; omega
    have wr2 : IntKind.i64.wrap ((base : Int) + ((i : Int) + (d : Int)) * (apart : Int)) = (base : Int) + ((i : Int) + d) * apart := by rw [IntKind.wrap_i64]; omega
    have w2d : IntKind.i64.wrap (2 * (d : Int)) = 2 * d := by rw [IntKind.wrap_i64]; omega
    have wid2 : IntKind.i64.wrap ((i : Int) + 2 * (d : Int)) = (i : Int) + 2 * d := by rw [IntKind.wrap_i64]; omega
    have HS := hide (show i + 2 * d = 2 * d * (q + 1) by rw [Nat.mul_add, Nat.mul_one, HI.out])
    have QL := hide (show ((List.range q).map fun q => pairM base apart d true (2 * d * q)).length = q by simp)
    have QQ := hide (show U.ownsRow w.heap.size 33 4 (.slice (some ⟨g, 0, none⟩) q c) q (mvb ((List.range q).map fun q => pairM base apart d true (2 * d * q))) by have := HQ.out; unfold RowMv at this; rw [QL.out] at this; exact this)
    have zu := HU.out.size
    have MM := hide (show mcs (pairM base apart d true (2 * d * q)) = [.int .i64 ((base : Int) + ((i : Int) + d) * apart), .int .i64 ((base : Int) + (i : Int) * apart), .int .i64 0, .bool true] by rw [← HI.out]; rfl)
    have q200 : q ≤ 200 := by have := PLE.out; omega
    clear p1 p0 r1 r0 ec hp hql
    go_wp2_with (at_builtin; refine wpList_append_lies _ rfl _ _ 30 rfl w.heap.size 33 j0 (.agg #[.int .i64 0, .int .i64 0, .int .i64 0, .bool false]) 4 32 Try.underlying30 hj0 gz0 gz1 gz2 rfl (by decide) _ _ _ rfl (QQ.out.alloc _) ⟨U.heap.size, 0, none⟩ 1 1 [.int .i64 ((base : Int) + ((i : Int) + d) * apart), .int .i64 ((base : Int) + (i : Int) * apart), .int .i64 0, .bool true] rfl rfl (World.news_of_block (cs := #[.int .i64 ((base : Int) + ((i : Int) + d) * apart), .int .i64 ((base : Int) + (i : Int) * apart), .int .i64 0, .bool true]) (t := 33) (fr := (0, 0)) (heap_alloc_new U _)) (by simp [Value.oneCell']) (by omega) (by unfold maxLen; omega) (by omega) (by simp; omega) (U.heap.size + 1) (by simp) ?_; intro gN c2 X3 hown1 hgrow1 hat hlt3)
    rw [← MM.out] at hown1
    have RW := hide (show RowMv w.heap.size X3 (.slice (some ⟨gN, 0, none⟩) (q + 1) c2) ((List.range (q + 1)).map fun q => pairM base apart d true (2 * d * q)) from by rw [range_more]; exact RowMv.more QL.out hown1)
    have GB := hide ((HU.out.alloc zu _).grown hgrow1 (by simp; omega) (fun b hb => (QQ.out.lt b hb).1))
    clear hown1 hgrow1 hat hlt3 HQ HU QQ
    go_roundw
    case rel => exact ⟨q + 1, i + 2 * d, _, _, hql2, HS.out, by omega, by go_num, rfl, RW.out, GB.out⟩
    case measure => simp [intOf]; omega
set_option maxRecDepth 100000 in
set_option maxHeartbeats 1000000 in
theorem pairs_false (d m base apart : Nat) (w : World) (d1 : 1 ≤ d) (d64 : d ≤ 64) (m64 : m ≤ 64) (b64 : base ≤ 64) (a64 : apart ≤ 64) :
    Calls Try.prog 41 #[.int .i64 d, .int .i64 m, .int .i64 base, .int .i64 apart, .bool false] w fun e w' => ∃ g c, e = .returned (.slice (some ⟨g, 0, none⟩) (pairsL d m base apart false).length c) ∧ OM w.heap.size w' (some ⟨g, 0, none⟩) (pairsL d m base apart false) ∧ Below w.heap.size w w' := by
  obtain ⟨j0, hj0, hjj⟩ := Option.map_eq_some_iff.1 infoMove
  simp only [Prod.mk.injEq] at hjj
  obtain ⟨gz0, gz1, gz2⟩ := hjj
  obtain ⟨Z, hZ⟩ : ∃ Z, w.alloc (.cells #[] 33) = Z := ⟨_, rfl⟩
  have Q0 := hide (show RowMv w.heap.size Z (.slice (some ⟨w.heap.size, 0, none⟩) 0 0) [] by rw [← hZ]; exact rowMv_new w)
  have BZ := hide (show Below w.heap.size w Z by rw [← hZ]; exact (Below.refl _ _).alloc (Nat.le_refl _) _)
  have PL := hide (fun q => pc_lt (m := m) (q := q) d1)
  have PLE := hide (pc_le (m := m) d1)
  go_enter Try.func41, Try.ntmps41
  go_wp2_with fail
  clear hZ
  go_loopw [11, 12] (fun o h wx => ∃ (q i g c : Nat), q ≤ pc d m ∧ i = 2 * d * q ∧ i ≤ 192 ∧ h = .int .i64 i ∧ o = .slice (some ⟨g, 0, none⟩) q c ∧ RowMv w.heap.size wx (.slice (some ⟨g, 0, none⟩) q c) ((List.range q).map fun q => pairM base apart d false (2 * d * q)) ∧ Below w.heap.size w wx) (fun _ h _ => 200 - (intOf h).toNat)
  case atStart => exact ⟨0, 0, _, _, by omega, rfl, by omega, rfl, rfl, Q0.out, BZ.out⟩
  case round =>
    obtain ⟨U, rfl⟩ : ∃ U, U = wr := ⟨_, rfl⟩
    obtain ⟨q, i, g, c, hq, hi, hi2, rfl, rfl, hr, hby⟩ := hrel
    have HI := hide hi
    have HQ := hide hr
    have HU := hide hby
    have hp := (PL.out q)
    rw [← hi] at hp
    clear hr hby hi
    by_cases hql : i + d < m
    case neg =>
      obtain rfl : q = pc d m := by have := mt hp.2 hql; omega
      have qI : decide ((i : Int) + (d : Int) < (m : Int)) = false := decide_eq_false (by omega)
      have wi : IntKind.i64.wrap ((i : Int) + (d : Int)) = (i : Int) + d := by rw [IntKind.wrap_i64]; omega
      clear hp
      go_wp2_with fail
      go_ret
      obtain ⟨a1, k1, e1, o1⟩ := HQ.out.own
      injection e1 with e1 e2 e3
      subst e1
      exact ⟨g, c, by rw [pairsL_len]; rfl, o1, HU.out⟩
    have hql2 := hp.1 hql
    have qI : (i : Int) + (d : Int) < (m : Int) := by omega
    have wi : IntKind.i64.wrap ((i : Int) + (d : Int)) = (i : Int) + d := by rw [IntKind.wrap_i64]; omega
    obtain ⟨p1, p0⟩ := mul_small (a := i) (b := apart) (by omega) a64
    obtain ⟨r1, r0⟩ := mul_small (a := i + d) (b := apart) (by omega) a64
    have ec : ((i + d : Nat) : Int) * (apart : Int) = ((i : Int) + d) * apart := by rw [Int.natCast_add]
    rw [ec] at r0 r1
    have wp : IntKind.i64.wrap ((i : Int) * (apart : Int)) = (i : Int) * apart := by rw [IntKind.wrap_i64]; omega
    have wr' : IntKind.i64.wrap (((i : Int) + (d : Int)) * (apart : Int)) = ((i : Int) + d) * apart := by rw [IntKind.wrap_i64]; omega
    have wp2 : IntKind.i64.wrap ((base : Int) + (i : Int) * (apart : Int)) = (base : Int) + (i : Int) * apart := by rw [IntKind.wrap_i64]; omega
    have wr2 : IntKind.i64.wrap ((base : Int) + ((i : Int) + (d : Int)) * (apart : Int)) = (base : Int) + ((i : Int) + d) * apart := by rw [IntKind.wrap_i64]; omega
    have w2d : IntKind.i64.wrap (2 * (d : Int)) = 2 * d := by rw [IntKind.wrap_i64]; omega
    have wid2 : IntKind.i64.wrap ((i : Int) + 2 * (d : Int)) = (i : Int) + 2 * d := by rw [IntKind.wrap_i64]; omega
    have HS := hide (show i + 2 * d = 2 * d * (q + 1) by rw [Nat.mul_add, Nat.mul_one, HI.out])
    have QL := hide (show ((List.range q).map fun q => pairM base apart d false (2 * d * q)).length = q by simp)
    have QQ := hide (show U.ownsRow w.heap.size 33 4 (.slice (some ⟨g, 0, none⟩) q c) q (mvb ((List.range q).map fun q => pairM base apart d false (2 * d * q))) by have := HQ.out; unfold RowMv at this; rw [QL.out] at this; exact this)
    have zu := HU.out.size
    have MM := hide (show mcs (pairM base apart d false (2 * d * q)) = [.int .i64 ((base : Int) + (i : Int) * apart), .int .i64 ((base : Int) + ((i : Int) + d) * apart), .int .i64 0, .bool false] by rw [← HI.out]; rfl)
    have q200 : q ≤ 200 := by have := PLE.out; omega
    clear p1 p0 r1 r0 ec hp hql
    go_wp2_with (at_builtin; refine wpList_append_lies _ rfl _ _ 30 rfl w.heap.size 33 j0 (.agg #[.int .i64 0, .int .i64 0, .int .i64 0, .bool false]) 4 32 Try.underlying30 hj0 gz0 gz1 gz2 rfl (by decide) _ _ _ rfl (QQ.out.alloc _) ⟨U.heap.size, 0, none⟩ 1 1 [.int .i64 ((base : Int) + (i : Int) * apart), .int .i64 ((base : Int) + ((i : Int) + d) * apart), .int .i64 0, .bool false] rfl rfl (World.news_of_block (cs := #[.int .i64 ((base : Int) + (i : Int) * apart), .int .i64 ((base : Int) + ((i : Int) + d) * apart), .int .i64 0, .bool false]) (t := 33) (fr := (0, 0)) (heap_alloc_new U _)) (by simp [Value.oneCell']) (by omega) (by unfold maxLen; omega) (by omega) (by simp; omega) (U.heap.size + 1) (by simp) ?_; intro gN c2 X3 hown1 hgrow1 hat hlt3)
    rw [← MM.out] at hown1
    have RW := hide (show RowMv w.heap.size X3 (.slice (some ⟨gN, 0, none⟩) (q + 1) c2) ((List.range (q + 1)).map fun q => pairM base apart d false (2 * d * q)) from by rw [range_more]; exact RowMv.more QL.out hown1)
    have GB := hide ((HU.out.alloc zu _).grown hgrow1 (by simp; omega) (fun b hb => (QQ.out.lt b hb).1))
    clear hown1 hgrow1 hat hlt3 HQ HU QQ
    go_roundw
    case rel => exact ⟨q + 1, i + 2 * d, _, _, hql2, HS.out, by omega, by go_num, rfl, RW.out, GB.out⟩
    case measure => simp [intOf]; omega
theorem pairsS (d m base apart : Nat) (add : Bool) (w : World) (d1 : 1 ≤ d) (d64 : d ≤ 64) (m64 : m ≤ 64) (b64 : base ≤ 64) (a64 : apart ≤ 64) :
    Calls Try.prog 41 #[.int .i64 d, .int .i64 m, .int .i64 base, .int .i64 apart, .bool add] w fun e w' => ∃ g c, e = .returned (.slice (some ⟨g, 0, none⟩) (pairsL d m base apart add).length c) ∧ OM w.heap.size w' (some ⟨g, 0, none⟩) (pairsL d m base apart add) ∧ Below w.heap.size w w' := by
  cases add
  · exact pairs_false d m base apart w d1 d64 m64 b64 a64
  · exact pairs_true d m base apart w d1 d64 m64 b64 a64
set_option maxHeartbeats 1000000 in
theorem stepsS (m : Nat) (w : World) (m64 : m ≤ 64) :
    Calls Try.prog 28 #[.int .i64 m] w fun e w' => ∃ g c, e = .returned (.slice (some ⟨g, 0, none⟩) (scn m) c) ∧ w.heap.size ≤ g ∧ g < w'.heap.size ∧ (∀ j, j < scn m → w'.cell? ⟨g, 0 + j, none⟩ = some (.int .i64 ((2 ^ j : Nat) : Int))) ∧ Below w.heap.size w w' := by
  obtain ⟨j0, hj0, hjj⟩ := Option.map_eq_some_iff.1 infoIntO
  simp only [Prod.mk.injEq] at hjj
  obtain ⟨gz0, gz1, gz2⟩ := hjj
  obtain ⟨Z, hZ⟩ : ∃ Z, w.alloc (.cells #[] 3) = Z := ⟨_, rfl⟩
  have Q0 := hide (show Z.ownsRow w.heap.size 3 1 (.slice (some ⟨w.heap.size, 0, none⟩) 0 0) 0 (stV 0) by rw [← hZ]; exact ⟨rfl, .inr ⟨w.heap.size, 0, #[], rfl, Nat.le_refl _, heap_alloc_new w _, Nat.le_refl _, by simp [maxLen], rfl, rfl⟩⟩)
  have BZ := hide (show Below w.heap.size w Z by rw [← hZ]; exact (Below.refl _ _).alloc (Nat.le_refl _) _)
  have SL := hide (fun k (hk : k ≤ 6) => scn_lt (k := k) m64 hk)
  have S6 := scn_le m64
  go_enter Try.func28, Try.ntmps28
  go_wp2_with fail
  clear hZ
  go_loopw [3, 4] (fun o h wx => ∃ (k d g c : Nat), k ≤ scn m ∧ d = 2 ^ k ∧ 1 ≤ d ∧ d ≤ 64 ∧ h = .int .i64 d ∧ o = .slice (some ⟨g, 0, none⟩) k c ∧ wx.ownsRow w.heap.size 3 1 (.slice (some ⟨g, 0, none⟩) k c) k (stV k) ∧ Below w.heap.size w wx) (fun _ h _ => 100 - (intOf h).toNat)
  case atStart => exact ⟨0, 1, _, _, by omega, rfl, by omega, by omega, rfl, rfl, Q0.out, BZ.out⟩
  case round =>
    obtain ⟨U, rfl⟩ : ∃ U, U = wr := ⟨_, rfl⟩
    obtain ⟨k, d, g, c, hk, hd, d1, d64, rfl, rfl, hr, hby⟩ := hrel
    have HD := hide hd
    have HQ := hide hr
    have HU := hide hby
    have hp := SL.out k (by omega)
    rw [← hd] at hp
    clear hr hby hd
    by_cases hdm : d < m
    case neg =>
      obtain rfl : k = scn m := by have := mt hp.2 hdm; omega
      have qI : decide ((d : Int) < (m : Int)) = false := decide_eq_false (by omega)
      clear hp
      go_wp2_with fail
      go_ret
      refine ⟨g, c, rfl, (HQ.out.lt g rfl).1, (HQ.out.lt g rfl).2, fun j hj => ?_, HU.out⟩
      rw [Nat.zero_add, HQ.out.cellAt j (by omega)]
      simp [stV, hj]
    have hk2 := hp.1 hdm
    have qI : (d : Int) < (m : Int) := by omega
    have w2 : IntKind.i64.wrap (2 * (d : Int)) = 2 * d := by rw [IntKind.wrap_i64]; omega
    have zu := HU.out.size
    have HS := hide (show 2 * d = 2 ^ (k + 1) by rw [HD.out, Nat.pow_succ, Nat.mul_comm])
    have D64 := hide (show 2 * d ≤ 64 by
      have h1 := hk2
      have : 2 ^ (k + 1) ≤ 2 ^ 6 := Nat.pow_le_pow_right (by omega) (by omega)
      rw [HS.out]; exact this)
    have MM := hide (show stV (k + 1) = stV k ++ [.int .i64 (d : Int)] by rw [stV_more, HD.out])
    clear hp hdm
    go_wp2_with (at_builtin; refine wpList_append_lies _ rfl _ _ 44 rfl w.heap.size 3 j0 (.int .i64 0) 1 8 Try.underlying44 hj0 gz0 gz1 gz2 rfl (by decide) _ _ _ rfl (HQ.out.alloc _) ⟨U.heap.size, 0, none⟩ 1 1 [.int .i64 (d : Int)] rfl rfl (World.news_of_block (cs := #[.int .i64 (d : Int)]) (t := 3) (fr := (0, 0)) (heap_alloc_new U _)) (by simp [Value.oneCell']) (by omega) (by unfold maxLen; omega) (by omega) (by simp; omega) (U.heap.size + 1) (by simp) ?_; intro gN c2 X3 hown1 hgrow1 hat hlt3)
    rw [← MM.out] at hown1
    have RW := hide hown1
    have GB := hide ((HU.out.alloc zu _).grown hgrow1 (by simp; omega) (fun b hb => (HQ.out.lt b hb).1))
    clear hown1 hgrow1 hat hlt3 HQ HU
    go_roundw
    case rel => exact ⟨k + 1, 2 * d, _, _, by omega, HS.out, by omega, D64.out, by go_num, rfl, RW.out, GB.out⟩
    case measure => simp [intOf]; omega
end Vo
end Go.Proofs.Ytkllbolamgmmaaa
