/- Groups, Nodes: the model (written by tools/genfu.py). -/
import Derived.Test.YtkllbolamgmmaaaFt
namespace Go.Proofs.Ytkllbolamgmmaaa
namespace Vo
open Go.ChangeShapes Go.WideShapes Go.ChangeAt Go.RowKit Go.Joins Go.Sort
open Vl
set_option linter.unusedVariables false
set_option linter.unusedSimpArgs false
/-- how many groups of so many there are -/
def gcn (n each : Nat) : Nat := (n + each - 1) / each
theorem gcn_lt {n each q : Nat} (h : 1 ≤ each) : q * each < n ↔ q < gcn n each := by
  unfold gcn
  rw [Nat.lt_iff_add_one_le (m := q), Nat.le_div_iff_mul_le (by omega), Nat.add_mul, Nat.one_mul]
  omega
theorem gcn_le {n each : Nat} (h : 1 ≤ each) : gcn n each ≤ n := by
  unfold gcn
  rw [Nat.div_le_iff_le_mul_add_pred (by omega)]
  have : n * 1 ≤ each * n := by rw [Nat.mul_comm each]; exact Nat.mul_le_mul_left n h
  omega
def grpRk (n each g : Nat) : RkV := ⟨g * each, 1, min each (n - g * each)⟩
def grpsK (n each k : Nat) : List RkV := (List.range k).map (grpRk n each)
def grpsR (n each : Nat) : List RkV := grpsK n each (gcn n each)
theorem grps_more (n each k d : Nat) (add : Bool) : moa (grpsK n each (k + 1)) d add = moa (grpsK n each k) d add ++ pairsL d (min each (n - k * each)) (k * each) 1 add := by
  unfold moa grpsK
  rw [List.range_succ, List.map_append, List.flatMap_append]
  simp [rkMoves, grpRk]
theorem grps_ok {n each : Nat} (h1 : 1 ≤ each) (hn : n ≤ 64) (he : each ≤ 64) (k : Nat) (hk : k ≤ gcn n each) : RkOk (grpsK n each k) := by
  intro x hx
  obtain ⟨g, hg, rfl⟩ := List.mem_map.1 hx
  have hg := List.mem_range.1 hg
  have := (gcn_lt (n := n) (q := g) h1).2 (by omega)
  unfold grpRk
  dsimp only
  omega
/-- the rounds of two storeys -/
def nodesL (n each : Nat) : List (List Mov) := tabL (grpsR n each) (scn (min each n)) (treeL (gcn n each) each)
set_option maxRecDepth 100000 in
set_option maxHeartbeats 1000000 in
theorem groupsS (d n each : Nat) (add : Bool) (w : World) (d1 : 1 ≤ d) (d64 : d ≤ 64) (n64 : n ≤ 64) (e1 : 1 ≤ each) (e64 : each ≤ 64) :
    Calls Try.prog 29 #[.int .i64 d, .int .i64 n, .int .i64 each, .bool add] w fun e w' => ∃ a c, e = .returned (.slice a (moa (grpsR n each) d add).length c) ∧ OM w.heap.size w' a (moa (grpsR n each) d add) ∧ Below w.heap.size w w' := by
  obtain ⟨j0, hj0, hjj⟩ := Option.map_eq_some_iff.1 infoMove
  simp only [Prod.mk.injEq] at hjj
  obtain ⟨gz0, gz1, gz2⟩ := hjj
  obtain ⟨Z, hZ⟩ : ∃ Z, w.alloc (.cells #[] 33) = Z := ⟨_, rfl⟩
  have Q0 := hide (show RowMv w.heap.size Z (.slice (some ⟨w.heap.size, 0, none⟩) 0 0) [] by rw [← hZ]; exact rowMv_new w)
  have BZ := hide (show Below w.heap.size w Z by rw [← hZ]; exact (Below.refl _ _).alloc (Nat.le_refl _) _)
  have GL := hide (fun q => gcn_lt (n := n) (q := q) e1)
  have GLE := hide (gcn_le (n := n) e1)
  have ML := hide (fun k (hk : k ≤ gcn n each) => moa_small (R := grpsK n each k) (n := k) (by simp [grpsK]) (grps_ok e1 n64 e64 k hk) (by have := gcn_le (n := n) e1; omega) d1 add)
  go_enter Try.func29, Try.ntmps29
  go_wp2_with fail
  clear hZ
  go_loopw [9, 10] (fun o h wx => ∃ (q b : Nat) (vv : Value), q ≤ gcn n each ∧ b = q * each ∧ b ≤ 128 ∧ h = .int .i64 b ∧ o = vv ∧ RowMv w.heap.size wx vv (moa (grpsK n each q) d add) ∧ Below w.heap.size w wx) (fun _ h _ => 200 - (intOf h).toNat)
  case atStart => exact ⟨0, 0, _, by omega, by omega, by omega, rfl, rfl, Q0.out, BZ.out⟩
  case round =>
    obtain ⟨U, rfl⟩ : ∃ U, U = wr := ⟨_, rfl⟩
    obtain ⟨q, b, c9, hq, hb, hb2, rfl, ho, hr, hby⟩ := hrel
    obtain rfl := ho.symm
    have HB := hide hb
    have HQ := hide hr
    have HU := hide hby
    have hp := GL.out q
    rw [← hb] at hp
    clear hr hby hb
    by_cases hbn : b < n
    case neg =>
      obtain rfl : q = gcn n each := by have := mt hp.2 hbn; omega
      have bI : decide ((b : Int) < (n : Int)) = false := decide_eq_false (by omega)
      have bI' : decide (b < n) = false := decide_eq_false hbn
      clear hp
      obtain ⟨a, c, hv, om⟩ := HQ.out.own
      obtain ⟨ln, hln⟩ : ∃ ln, (moa (grpsK n each (gcn n each)) d add).length = ln := ⟨_, rfl⟩
      rw [hln] at hv
      have LN := hide hln
      have OMh := hide om
      subst hv
      clear om hln HQ
      go_wp2_with fail
      go_ret
      exact ⟨a, c, by rw [show (moa (grpsR n each) d add).length = ln from LN.out]; rfl, OMh.out, HU.out⟩
    have hq2 := hp.1 hbn
    have bI : (b : Int) < (n : Int) := by omega
    have wb : IntKind.i64.wrap ((n : Int) - (b : Int)) = (n : Int) - b := by rw [IntKind.wrap_i64]; omega
    have wbe : IntKind.i64.wrap ((b : Int) + (each : Int)) = (b : Int) + each := by rw [IntKind.wrap_i64]; omega
    have zu := HU.out.size
    have PE := hide (show moa (grpsK n each (q + 1)) d add = moa (grpsK n each q) d add ++ pairsL d (min each (n - b)) b 1 add by rw [grps_more, HB.out])
    have NE := hide (show b + each = (q + 1) * each by rw [Nat.succ_mul, HB.out])
    have L1 := ML.out q hq
    have mm64 : min each (n - b) ≤ 64 := by omega
    have CP := hide (pairsS d (min each (n - b)) b 1 add U d1 d64 mm64 (by omega) (by omega))
    have PLN := hide (show (pairsL d (min each (n - b)) b 1 add).length ≤ 64 by rw [pairsL_len]; exact Nat.le_trans (pc_le d1) mm64)
    obtain ⟨l, hl⟩ : ∃ l, pairsL d (min each (n - b)) b 1 add = l := ⟨_, rfl⟩
    rw [hl] at CP PE PLN
    obtain ⟨ln, hln⟩ : ∃ ln, l.length = ln := ⟨_, rfl⟩
    rw [hln] at CP PLN
    have LN := hide hln
    obtain ⟨M, hM⟩ : ∃ M, moa (grpsK n each q) d add = M := ⟨_, rfl⟩
    rw [hM] at HQ PE L1
    obtain ⟨mn, hmn⟩ : ∃ mn, M.length = mn := ⟨_, rfl⟩
    have MN := hide hmn
    rw [hmn] at L1
    have l64 : ln ≤ 64 := PLN.out
    rw [show ((1 : Nat) : Int) = 1 from rfl] at CP
    clear hl hln hM hmn hp hbn mm64
    by_cases hc : n - b < each
    all_goals (
      first
      | (have cI : (n : Int) - (b : Int) < (each : Int) := by omega
         have em : ((min each (n - b) : Nat) : Int) = (n : Int) - (b : Int) := by omega
         rw [em] at CP
         clear em hc)
      | (have cI : decide ((n : Int) - (b : Int) < (each : Int)) = false := decide_eq_false (by omega)
         have em : ((min each (n - b) : Nat) : Int) = (each : Int) := by omega
         rw [em] at CP
         clear em hc)
      go_wp2_with fail
      refine CP.out.mono ?_
      rintro e V1 ⟨ga, ca, rfl, oa, qb⟩
      have QQ := hide (show V1.ownsRow w.heap.size 33 4 c9 mn (mvb M) from by
        have := HQ.out.below qb
        unfold RowMv at this
        rw [MN.out] at this
        exact this)
      have UB := hide (HU.out.trans (qb.mono zu))
      have zV := UB.out.size
      have OR := hide oa
      have NEWS := hide (show ∀ j u, (mvb l)[j]? = some u → V1.cell? ((⟨ga, 0, none⟩ : Addr).add j) = some u from fun j u hu => by
        rcases oa with qe | ⟨g', e', h1, h2, h3, h4⟩
        · rw [qe] at hu; simp [mvb] at hu
        · cases e'
          rw [Go.WideShapes.add_plain, Nat.zero_add]
          exact h3 j u hu)
      clear oa qb CP
      go_wp2_with (at_builtin; refine wpList_append_own _ rfl _ _ 30 rfl w.heap.size 33 j0 (.agg #[.int .i64 0, .int .i64 0, .int .i64 0, .bool false]) 4 32 Try.underlying30 hj0 gz0 gz1 gz2 rfl (by decide) _ _ _ rfl QQ.out ⟨ga, 0, none⟩ ln ca (mvb l) rfl (by rw [mvb_len, LN.out]) NEWS.out (mvb_cell l) (by unfold maxLen; omega) (by omega) zV ?_; intro v' X3 hown1 hgrow1 _)
      have RW := hide (show RowMv w.heap.size X3 v' (moa (grpsK n each (q + 1)) d add) from by
        rw [PE.out]
        unfold RowMv
        rw [List.length_append, MN.out, LN.out, mvb_app]
        exact hown1)
      have GB := hide (UB.out.grown hgrow1 zV (fun b hb => (QQ.out.lt b hb).1))
      clear hown1 hgrow1 QQ UB HQ HU PE
      go_roundw
      all_goals first
        | (simp only [intOf]; omega)
        | (simp [intOf]; omega)
        | exact ⟨q + 1, b + each, v', hq2, NE.out, by omega, by go_num, rfl, RW.out, GB.out⟩)
end Vo
end Go.Proofs.Ytkllbolamgmmaaa
