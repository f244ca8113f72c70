/- The moves of all ranks; rows turned round. -/
import Derived.Test.YtkllbolamgmmaaaFq
import Derived.Test.YtkllbolamgmmaaaFm
namespace Go.Proofs.Ytkllbolamgmmaaa
namespace Vo
open Go.ChangeShapes Go.WideShapes Go.ChangeAt Go.RowKit Go.Joins Go.Sort
open Vl
set_option linter.unusedVariables false
set_option linter.unusedSimpArgs false
/-- a rank -/
structure RkV where
  f : Nat
  s : Nat
  c : Nat
/-- ranks that are read -/
def RkL (w : World) (b : Nat) (R : List RkV) : Prop := b < w.heap.size ∧ ∀ i (h : i < R.length), w.cell? ⟨b, i * 3, none⟩ = some (.int .i64 (R[i].f : Int)) ∧ w.cell? ⟨b, i * 3 + 1, none⟩ = some (.int .i64 (R[i].s : Int)) ∧ w.cell? ⟨b, i * 3 + 2, none⟩ = some (.int .i64 (R[i].c : Int))
theorem RkL.below {w w' : World} {b : Nat} {R : List RkV} (h : RkL w b R) (hb : Below w.heap.size w w') : RkL w' b R :=
  ⟨Nat.lt_of_lt_of_le h.1 hb.size, fun i hi => ⟨(hb.cell (p := ⟨b, i * 3, none⟩) h.1).trans (h.2 i hi).1, (hb.cell (p := ⟨b, i * 3 + 1, none⟩) h.1).trans (h.2 i hi).2.1, (hb.cell (p := ⟨b, i * 3 + 2, none⟩) h.1).trans (h.2 i hi).2.2⟩⟩
theorem RkL.belowE {E : Nat} {w w' : World} {b : Nat} {R : List RkV} (h : RkL w b R) (hb : Below E w w') (hE : b < E) : RkL w' b R :=
  ⟨Nat.lt_of_lt_of_le h.1 hb.size, fun i hi => ⟨(hb.cell (p := ⟨b, i * 3, none⟩) hE).trans (h.2 i hi).1, (hb.cell (p := ⟨b, i * 3 + 1, none⟩) hE).trans (h.2 i hi).2.1, (hb.cell (p := ⟨b, i * 3 + 2, none⟩) hE).trans (h.2 i hi).2.2⟩⟩
def RkOk (R : List RkV) : Prop := ∀ x ∈ R, x.f ≤ 64 ∧ x.s ≤ 64 ∧ x.c ≤ 64
def rkMoves (d : Nat) (add : Bool) (r : RkV) : List Mov := pairsL d r.c r.f r.s add
/-- the moves of all ranks -/
def moa (R : List RkV) (d : Nat) (add : Bool) : List Mov := R.flatMap (rkMoves d add)
def rkAt (R : List RkV) (i : Nat) : RkV := R.getD i ⟨0, 0, 0⟩
/-- the moves of the i-th rank -/
def rkF (R : List RkV) (d : Nat) (add : Bool) (i : Nat) : List Mov := rkMoves d add (rkAt R i)
theorem moa_range (R : List RkV) (d : Nat) (add : Bool) : ((List.range R.length).map (rkF R d add)).flatten = moa R d add := by
  unfold moa
  rw [List.flatMap_def]
  congr 1
  apply List.ext_getElem?
  intro i
  by_cases h : i < R.length
  · simp [h, rkAt, rkF]
  · simp [h]
theorem moa_len : ∀ R : List RkV, RkOk R → ∀ d, 1 ≤ d → ∀ add, (moa R d add).length ≤ R.length * 64
  | [], _, _, _, _ => by simp [moa]
  | r :: R, h, d, hd, add => by
    have h1 : (rkMoves d add r).length ≤ 64 := by
      have := (h r (List.mem_cons_self ..)).2.2
      unfold rkMoves
      rw [pairsL_len]
      exact Nat.le_trans (pc_le hd) this
    have h2 := moa_len R (fun x hx => h x (List.mem_cons_of_mem _ hx)) d hd add
    show (rkMoves d add r ++ moa R d add).length ≤ _
    rw [List.length_append, List.length_cons, Nat.succ_mul]
    omega
theorem moa_small {R : List RkV} {n d : Nat} (hn : R.length = n) (ok : RkOk R) (n64 : n ≤ 64) (d1 : 1 ≤ d) (add : Bool) : (moa R d add).length ≤ 4096 := by
  have := moa_len R ok d d1 add
  have := Nat.mul_le_mul_right 64 n64
  rw [hn] at *
  omega
set_option maxHeartbeats 1000000 in
theorem moa1 (R : List RkV) (b n c k d : Nat) (add : Bool) (p q r : Nat) (w : World) (hn : R.length = n) (hR : RkL w b R) (ok : RkOk R) (hp : w.cell? ⟨p, 0, none⟩ = some (.slice (some ⟨b, 0, none⟩) n c)) (hq : w.cell? ⟨q, 0, none⟩ = some (.int .i64 d)) (hr : w.cell? ⟨r, 0, none⟩ = some (.bool add)) (hk : k < n) (n64 : n ≤ 64) (d1 : 1 ≤ d) (d64 : d ≤ 64) :
    Calls Try.prog 46 #[.int .i64 k, .pointer (some ⟨p, 0, none⟩), .pointer (some ⟨q, 0, none⟩), .pointer (some ⟨r, 0, none⟩)] w fun e W' => ∃ a c, e = .returned (.slice a (rkF R d add k).length c) ∧ OM w.heap.size W' a (rkF R d add k) ∧ (a = none → (rkF R d add k).length = 0 ∧ c = 0) ∧ Below w.heap.size w W' := by
  have hk' : k < R.length := by omega
  have e0 : rkAt R k = R[k] := by unfold rkAt; rw [List.getD_eq_getElem?_getD, List.getElem?_eq_getElem hk']; rfl
  obtain ⟨c0, c1, c2⟩ := hR.2 k hk'
  obtain ⟨o1, o2, o3⟩ := ok _ (List.getElem_mem hk')
  unfold rkF
  rw [e0]
  obtain ⟨x, hx⟩ : ∃ x, R[k] = x := ⟨_, rfl⟩
  rw [hx] at c0 c1 c2 o1 o2 o3 ⊢
  have CM := hide (fun (W : World) => movesF d x.c x.f x.s add W d1 d64 o3 o1 o2)
  obtain ⟨l, hl⟩ : ∃ l, rkMoves d add x = l := ⟨_, rfl⟩
  unfold rkMoves at hl
  rw [hl] at CM
  unfold rkMoves
  rw [hl]
  obtain ⟨ln, hln⟩ : ∃ ln, l.length = ln := ⟨_, rfl⟩
  rw [hln] at CM ⊢
  have kI : (k : Int) < (n : Int) := by omega
  have k0I : (0 : Int) ≤ (k : Int) := by omega
  have bl := hR.1
  have lp := World.block_lt_of_cell? _ _ hp
  have lq := World.block_lt_of_cell? _ _ hq
  have lr := World.block_lt_of_cell? _ _ hr
  clear e0 hx hl hln hk' hn hR ok o1 o2 o3 hk
  go_enter Try.func46, Try.ntmps46
  go_wp2_with fail
  refine Qt.region_tail_lit 6 (by kernel_rfl) (by kernel_rfl) ?_
  simp only [List.take_succ_cons, List.take_zero, List.drop_succ_cons, List.drop_zero]
  repeat (go_big_quiet_step (fail))
  refine wpQuiet_nil ?_
  intro _ hw'
  obtain ⟨nq, hw''⟩ := hw'
  subst hw''
  have bz := hide (below_drewN (Below.refl w.heap.size w) nq)
  clear c0 c1 c2 hp hq hr
  generalize w.drewN nq = X at *
  go_wp2_with fail
  refine (CM.out X).mono ?_
  rintro e W1 ⟨g, c', rfl, om, b1⟩
  have OMh := hide (om.mono bz.out.size)
  have B1 := hide (bz.out.trans (b1.mono bz.out.size))
  clear om b1 CM
  go_wp2_with fail
  go_ret
  exact ⟨_, c', rfl, OMh.out, by simp, B1.out⟩
/-- the rows of a list as raw cells -/
def mrl (x : VM) : RL := ⟨x.a, x.l.length, x.c, mvb x.l⟩
def mrs (L : List VM) (i : Nat) : RL := mrl (L.getD i ⟨none, 0, []⟩)
theorem mrs_sum (L : List VM) : ∀ k, k ≤ L.length → rsum (mrs L) k = ((cnt (L.take k)).flatten).length ∧ rcat (mrs L) k = mvb (cnt (L.take k)).flatten
  | 0, _ => ⟨rfl, rfl⟩
  | k + 1, h => by
    obtain ⟨h1, h2⟩ := mrs_sum L k (by omega)
    have hk : k < L.length := by omega
    have e : mrs L k = mrl L[k] := by unfold mrs; rw [List.getD_eq_getElem?_getD, List.getElem?_eq_getElem hk]; rfl
    have e2 : cnt (L.take (k + 1)) = cnt (L.take k) ++ [L[k].l] := by rw [List.take_add_one, List.getElem?_eq_getElem hk, cnt_app]; rfl
    constructor
    · show rsum (mrs L) k + (mrs L k).n = _
      rw [h1, e, e2, List.flatten_append, List.length_append]
      simp [mrl]
    · show rcat (mrs L) k ++ (mrs L k).cs = _
      rw [h2, e, e2, List.flatten_append, mvb_app]
      simp [mrl]
theorem rls_rows {E n c : Nat} {w : World} {g : Nat} {L : List VM} (hn : L.length = n) (h : RowsM E w (.slice (some ⟨g, 0, none⟩) n c) L) (na : ∀ x ∈ L, x.a = none → x.l.length = 0 ∧ x.c = 0) : RLs 4 w.heap.size w g 0 n (mrs L) := by
  have e : ∀ i (h : i < L.length), mrs L i = mrl L[i] := fun i h => by unfold mrs; rw [List.getD_eq_getElem?_getD, List.getElem?_eq_getElem h]; rfl
  have hh := h.heads
  rw [hn] at hh
  refine ⟨(hh.lt g rfl).2, fun i hi => ?_, fun i hi => ?_, fun i hi => ?_, fun i hi => ?_, fun i hi ad ha => ?_, fun i hi ad ha => ?_⟩
  · have hi' : i < L.length := by omega
    rw [e i hi', Nat.zero_add, hh.cellAt i (by omega)]
    exact hdM_get hi'
  · have hi' : i < L.length := by omega
    rw [e i hi']; exact mvb_len _
  · have hi' : i < L.length := by omega
    rw [e i hi']; exact mvb_cell _
  · have hi' : i < L.length := by omega
    rw [e i hi']; exact na _ (List.getElem_mem hi')
  · have hi' : i < L.length := by omega
    rw [e i hi'] at ha ⊢
    intro h0
    exact ((h.own _ (List.getElem_mem hi')).blk ⟨h0, ad, ha, rfl⟩).2
  · have hi' : i < L.length := by omega
    rw [e i hi'] at ha ⊢
    intro j u hu
    rcases h.own _ (List.getElem_mem hi') with q | ⟨g', e', h1, h2, h3, h4⟩
    · have hu : (mvb L[i].l)[j]? = some u := hu
      rw [q] at hu
      simp [mvb] at hu
    · have ha : L[i].a = some ad := ha
      rw [ha] at e'
      cases e'
      rw [Go.WideShapes.add_plain, Nat.zero_add]
      exact h3 j u hu
set_option maxHeartbeats 1000000 in
theorem moaF (R : List RkV) (b n c d : Nat) (add : Bool) (w : World) (hn : R.length = n) (hR : RkL w b R) (ok : RkOk R) (n64 : n ≤ 64) (d1 : 1 ≤ d) (d64 : d ≤ 64) :
    Calls Try.prog 42 #[.slice (some ⟨b, 0, none⟩) n c, .int .i64 d, .bool add] w fun e w' => ∃ a k, e = .returned (.slice a (moa R d add).length k) ∧ OM w.heap.size w' a (moa R d add) ∧ Below w.heap.size w w' := by
  obtain ⟨W1, hW1⟩ : ∃ W1, ((w.alloc (.cells #[.slice (some ⟨b, 0, none⟩) n c] 47)).alloc (.cells #[.int .i64 d] 3)).alloc (.cells #[.bool add] 4) = W1 := ⟨_, rfl⟩
  have b1 : Below w.heap.size w W1 := by rw [← hW1]; exact (((Below.refl _ _).alloc (Nat.le_refl _) _).alloc (by simp) _).alloc (by simp; omega) _
  have z1 : W1.heap.size = w.heap.size + 3 := by rw [← hW1]; simp
  have c0 : W1.cell? ⟨w.heap.size, 0, none⟩ = some (.slice (some ⟨b, 0, none⟩) n c) := by rw [← hW1]; simp [go_sem]
  have c1 : W1.cell? ⟨w.heap.size + 1, 0, none⟩ = some (.int .i64 d) := by rw [← hW1]; simp [go_sem]
  have c2 : W1.cell? ⟨w.heap.size + 1 + 1, 0, none⟩ = some (.bool add) := by rw [← hW1]; simp [go_sem]
  have HR := hide (hR.below b1)
  have CE := hide (elementwiseMS n 46 #[.pointer (some ⟨w.heap.size, 0, none⟩), .pointer (some ⟨w.heap.size + 1, 0, none⟩), .pointer (some ⟨w.heap.size + 1 + 1, 0, none⟩)] (rkF R d add) W1 (by omega) (enters_of Try.func46 (by kernel_rfl) rfl)
    (fun k W hk hW => moa1 R b n c k d add w.heap.size (w.heap.size + 1) (w.heap.size + 1 + 1) W hn (HR.out.below hW) ok ((hW.cell (p := ⟨w.heap.size, 0, none⟩) (by show w.heap.size < W1.heap.size; omega)).trans c0) ((hW.cell (p := ⟨w.heap.size + 1, 0, none⟩) (by show w.heap.size + 1 < W1.heap.size; omega)).trans c1) ((hW.cell (p := ⟨w.heap.size + 1 + 1, 0, none⟩) (by show w.heap.size + 1 + 1 < W1.heap.size; omega)).trans c2) hk n64 d1 d64))
  have BL := hide b1
  have MR := hide (show ((List.range n).map (rkF R d add)).flatten = moa R d add by rw [← hn]; exact moa_range R d add)
  have ML := hide (moa_small hn ok n64 d1 add)
  clear c1 c2 b1 hR ok z1
  go_enter Try.func42, Try.ntmps42
  go_wp2_with fail
  refine CE.out.mono ?_
  rintro e w1 ⟨L, rfl, r1, e1, na1, q1⟩
  have Ln : L.length = n := by rw [← cnt_len, e1]; simp
  obtain ⟨s1, s2⟩ := mrs_sum L n (by omega)
  rw [List.take_of_length_le (by omega), e1, MR.out] at s1 s2
  have CC := hide (concatM1 w1.heap.size W1.heap.size 0 n n (mrs L) w1 (Nat.le_refl _) (rls_rows Ln r1 na1) (by omega) (by rw [s1]; have := ML.out; omega))
  rw [s1, s2] at CC
  have B1 := hide (BL.out.trans (q1.mono BL.out.size))
  clear r1 e1 na1 q1 CE c0 s1 s2 Ln hW1
  go_wp2_with fail
  refine CC.out.mono ?_
  rintro e w2 ⟨v, rfl, ow, q2⟩
  obtain ⟨a, k, hv, om⟩ := RowMv.own (l := moa R d add) ow
  have OMh := hide (om.mono B1.out.size)
  have B2 := hide (B1.out.trans (q2.mono B1.out.size))
  clear ow om q2 CC MR ML
  obtain ⟨ln, hln⟩ : ∃ ln, (moa R d add).length = ln := ⟨_, rfl⟩
  rw [hln] at hv
  have LN := hide hln
  subst hv
  clear hln
  go_wp2_with fail
  go_ret
  exact ⟨a, k, by rw [LN.out]; rfl, OMh.out, B2.out⟩
/-- a list after k swaps from both ends -/
def SwP (xs xs' : List Value) (n k : Nat) : Prop := xs'.length = n ∧ ∀ t, t < n → xs'[t]? = if t < k ∨ n - k ≤ t then xs[n - 1 - t]? else xs[t]?
theorem SwP.zero {xs : List Value} {n : Nat} (hn : xs.length = n) : SwP xs xs n 0 := ⟨hn, fun t ht => by rw [if_neg (by omega)]⟩
theorem SwP.step {xs xs' : List Value} {n k : Nat} {u v : Value} (h : SwP xs xs' n k) (hk : 2 * k + 1 < n) (hu : xs[n - 1 - k]? = some u) (hv : xs[k]? = some v) : SwP xs ((xs'.set k u).set (n - 1 - k) v) n (k + 1) := by
  refine ⟨by rw [List.length_set, List.length_set, h.1], fun t ht => ?_⟩
  have h1 := h.1
  by_cases c : n - 1 - k = t
  · subst c
    rw [List.getElem?_set_self (by rw [List.length_set]; omega), if_pos (by omega), show n - 1 - (n - 1 - k) = k by omega, hv]
  · rw [List.getElem?_set_ne c]
    by_cases d : k = t
    · subst d
      rw [List.getElem?_set_self (by omega), if_pos (by omega), hu]
    · rw [List.getElem?_set_ne d, h.2 t ht]
      by_cases e : t < k ∨ n - k ≤ t
      · rw [if_pos e, if_pos (by omega)]
      · rw [if_neg e, if_neg (by omega)]
theorem SwP.done {xs xs' : List Value} {n k : Nat} (h : SwP xs xs' n k) (hn : xs.length = n) (hk : n ≤ 2 * k + 1) : xs' = xs.reverse := by
  apply List.ext_getElem?
  intro t
  by_cases ht : t < n
  · rw [h.2 t ht, List.getElem?_reverse (by omega), hn]
    by_cases e : t < k ∨ n - k ≤ t
    · rw [if_pos e]
    · rw [if_neg e]
      congr 1
      omega
  · rw [List.getElem?_eq_none (by rw [h.1]; omega), List.getElem?_eq_none (by rw [List.length_reverse]; omega)]
set_option maxHeartbeats 1000000 in
theorem reverseF (E n c g : Nat) (L : List VM) (w : World) (hn : L.length = n) (h : RowsM E w (.slice (some ⟨g, 0, none⟩) n c) L) (n64 : n ≤ 4096) :
    Calls Try.prog 43 #[.slice (some ⟨g, 0, none⟩) n c] w fun e w' => e = .returned (.tuple #[]) ∧ RowsM E w' (.slice (some ⟨g, 0, none⟩) n c) L.reverse ∧ Kept (· = g) w w' := by
  have H := hide h
  have HN := hide hn
  have LX := hide (show (hdM L).length = n by rw [hdM_len, hn])
  have h0 : w.ownsRow E 30 1 (.slice (some ⟨g, 0, none⟩) n c) n (hdM L) := by have := h.heads; rw [hn] at this; exact this
  have H0 := hide h0
  have w1 : IntKind.i64.wrap ((n : Int) - 1) = (n : Int) - 1 := by rw [IntKind.wrap_i64]; omega
  clear h hn h0
  go_enter Try.func43, Try.ntmps43
  go_wp2_with fail
  clear w1
  go_loopw [2, 3] (fun i j wx => ∃ (k : Nat) (xs : List Value), k ≤ n ∧ i = .int .i64 k ∧ j = .int .i64 ((n : Int) - 1 - k) ∧ SwP (hdM L) xs n k ∧ wx.ownsRow E 30 1 (.slice (some ⟨g, 0, none⟩) n c) n xs ∧ Kept (· = g) w wx) (fun i _ _ => n - (intOf i).toNat)
  case atStart => exact ⟨0, hdM L, by omega, rfl, by go_num, SwP.zero LX.out, H0.out, Kept.refl _ _⟩
  case round =>
    obtain ⟨X, rfl⟩ : ∃ X, X = wr := ⟨_, rfl⟩
    obtain ⟨k, xs, hk, rfl, rfl, hs, ho, hkp⟩ := hrel
    have HS := hide hs
    have HO := hide ho
    have HK := hide hkp
    by_cases hlt : 2 * k + 1 < n
    case neg =>
      have kI : decide ((k : Int) < (n : Int) - 1 - (k : Int)) = false := decide_eq_false (by omega)
      have e := hide (hs.done LX.out (by omega))
      clear hs ho hkp hlt
      go_wp2_with fail
      refine bodyPost_end (results_none rfl _ _ _) rfl ⟨rfl, ⟨?_, fun x hx => ?_, fun x hx => H.out.ne x (List.mem_reverse.1 hx), ?_⟩, HK.out⟩
      · have := HO.out
        rw [e.out] at this
        rw [List.length_reverse, HN.out, show hdM L.reverse = (hdM L).reverse by simp [hdM]]
        exact this
      · have hx := List.mem_reverse.1 hx
        exact (H.out.own x hx).kept HK.out (fun b q e => H.out.ne x hx b q (by rw [show b = g from e]; rfl))
      · exact List.pairwise_reverse.2 (H.out.apart.imp (fun {a b} h q h1 h2 => h q h2 h1))
    obtain ⟨q, hq⟩ : ∃ q : Nat, q = n - 1 - k := ⟨_, rfl⟩
    have eq : (n : Int) - 1 - (k : Int) = (q : Int) := by omega
    have k1 : k < L.length := by have := HN.out; omega
    have q1 : q < L.length := by have := HN.out; omega
    have u1 := hdM_get k1
    have v1 := hdM_get q1
    have c0 := ho.cellAt k (by omega)
    have c1 := ho.cellAt q (by omega)
    rw [hs.2 k (by omega), if_neg (by omega), u1] at c0
    rw [hs.2 q (by omega), if_neg (by omega), v1] at c1
    have f0 := ho.frozenAt k
    have f1 := ho.frozenAt q
    obtain ⟨x, hx⟩ : ∃ x, L[k] = x := ⟨_, rfl⟩
    obtain ⟨y, hy⟩ : ∃ y, L[q] = y := ⟨_, rfl⟩
    rw [hx] at c0 u1
    rw [hy] at c1 v1
    obtain ⟨xn, hxn⟩ : ∃ xn, x.l.length = xn := ⟨_, rfl⟩
    obtain ⟨yn, hyn⟩ : ∃ yn, y.l.length = yn := ⟨_, rfl⟩
    rw [hxn] at c0 u1
    rw [hyn] at c1 v1
    have kn : (k : Int) < (n : Int) := by omega
    have qn : (q : Int) < (n : Int) := by omega
    have kq : (k : Int) < (q : Int) := by omega
    have k0 : (0 : Int) ≤ (k : Int) := by omega
    have q0 : (0 : Int) ≤ (q : Int) := by omega
    have ne : k ≠ q := by omega
    have ST := hide (hs.step hlt (by rw [← hq]; exact v1) u1)
    rw [← hq] at ST
    have OW := hide (fun (W : World) (h : W.ownsRow E 30 1 (.slice (some ⟨g, 0, none⟩) n c) n xs) => ((h.stored k (.slice y.a yn y.c)).1.stored q (.slice x.a xn x.c)).1)
    have HQ := hide hq
    rw [eq]
    clear hs ho hkp u1 v1 hx hy hxn hyn eq k1 q1 hq
    go_wp2_with fail
    go_region
    all_goals (go_wp2_with fail)
    all_goals go_roundw
    all_goals first
      | (simp only [intOf]; omega)
      | (simp [intOf]; omega)
      | exact ⟨k + 1, _, by omega, by go_num, by (try go_num); (try congr 1); have := HQ.out; omega, ST.out, OW.out _ HO.out, HK.out.trans (((Kept.setCell X ⟨g, k, none⟩ _).trans (Kept.setCell _ ⟨g, q, none⟩ _)).trans ⟨rfl, rfl, rfl, Nat.le_refl _, fun _ _ _ => rfl⟩)⟩
end Vo
end Go.Proofs.Ytkllbolamgmmaaa
