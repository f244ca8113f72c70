/- Lemmas for the proof of the law. -/
import Derived.Test.YtjlmbeachanlfaaMgbd
/- Attention of the model, where it answers. -/
namespace Go.Proofs.Ytjlmbeachanlfaa
namespace Vo
open Go.ChangeShapes Go.WideShapes Go.ChangeAt Go.RowKit Go.Joins Go.Sort
open Vl Vp Vr
set_option linter.unusedVariables false
set_option linter.unusedSimpArgs false
/-- the outcome's dims -/
theorem attD_ok {q k v : TV} (h : AttOk q k v) : dok 2 (attD q v) = true ∧ szR (attD q v) 2 = ((q.D 0).toNat * (v.D 1).toNat : Nat) := by
  obtain ⟨n, m, c, e, d1, d2, d3, d4, d5, d6, n1, nm, c1, e1, h1, h2, h3, l1, l2, l3⟩ := att_sizes h
  have ne : n * e ≤ m * e := Nat.mul_le_mul_right _ nm
  have neI : (n : Int) * e ≤ 4096 := by rw [← Int.natCast_mul]; omega
  have nI : (n : Int) * 1 ≤ (n : Int) * e := Int.mul_le_mul_of_nonneg_left (by omega) (by omega)
  have eI : (1 : Int) * e ≤ (n : Int) * e := Int.mul_le_mul_of_nonneg_right (by omega) (by omega)
  have hsz : szR (attD q v) 2 = (n : Int) * e := by
    have a0 : attD q v 0 = (n : Int) := by unfold attD; simp [d1]
    have a1 : attD q v 1 = (e : Int) := by unfold attD; simp [d6]
    have s1 : szR (attD q v) 1 = (n : Int) := by
      rw [szR_next (by show (1 : Int) ≤ 1; omega) (by rw [a0]; omega) (by rw [a0]; show (1 : Int) * n ≤ 4096; omega), a0]
      show (1 : Int) * n = n
      omega
    rw [szR_next (by rw [s1]; omega) (by rw [a1]; omega) (by rw [s1, a1]; exact neI), s1, a1]
  have pos : 0 < (n : Int) * e := Int.mul_pos (by omega) (by omega)
  refine ⟨dok_iff.2 ⟨by omega, by rw [hsz]; exact pos⟩, ?_⟩
  rw [hsz, d1, d6, Int.toNat_natCast, Int.toNat_natCast, Int.natCast_mul]
set_option maxRecDepth 100000 in
set_option maxHeartbeats 2000000 in
theorem specAttendYes (B : Nat) (q k v : TV) (win : Int) (w : World) (hB : B ≤ w.heap.size) (hq : q.read B w) (hk : k.read B w) (hv : v.read B w) (lq : (q.r : Int) ≤ 1048576 ∧ (q.s : Int) ≤ 1048576) (lk : (k.r : Int) ≤ 1048576 ∧ (k.s : Int) ≤ 1048576) (lv : (v.r : Int) ≤ 1048576 ∧ (v.s : Int) ≤ 1048576)
    (cq : q.r ≤ q.cap ∧ q.s ≤ q.dap) (ck : k.r ≤ k.cap ∧ k.s ≤ k.dap) (cv : v.r ≤ v.cap ∧ v.s ≤ v.dap) (hok : AttOk q k v) (hw0 : 0 ≤ win) (hw1 : win ≤ 4096) :
    Calls Try.prog 20 #[.agg #[.slice q.a q.r q.cap, .slice q.b q.s q.dap], .agg #[.slice k.a k.r k.cap, .slice k.b k.s k.dap], .agg #[.slice v.a v.r v.cap, .slice v.b v.s v.dap], .int .i64 win] w fun e w' => TensR w.heap.size (attP q k v win) w e w' := by
  have EZ := hide (attP_yes ⟨hok, hw0, hw1⟩)
  obtain ⟨n, m, c, e, d1, d2, d3, d4, d5, d6, n1, nm, c1, e1, h1, h2, h3, l1, l2, l3⟩ := att_sizes hok
  rw [d1, d3, d4, d6, Int.toNat_natCast, Int.toNat_natCast, Int.toNat_natCast, Int.toNat_natCast] at EZ
  have DOK := hide (attD_ok hok)
  rw [d1, d6, Int.toNat_natCast, Int.toNat_natCast] at DOK
  obtain ⟨⟨tq, q2⟩, ⟨tk, k2⟩, ⟨tv, v2⟩, _, _, _, hwork⟩ := hok
  unfold TV.ok at tq tk tv
  rw [d1, d3, d4, d6] at hwork
  have Q2 := hide q2
  have K2 := hide k2
  have V2 := hide v2
  have HS := hide (And.intro h1 (And.intro h2 h3))
  have DD := hide (And.intro d1 (And.intro d2 (And.intro d3 (And.intro d4 (And.intro d5 d6)))))
  clear q2 k2 v2 h1 h2 h3 d1 d2 d3 d4 d5 d6
  have A0 := hide (a3_new B q k v w hB hq hk hv)
  obtain ⟨W0, hW0⟩ : ∃ W0, (((w.alloc (.cells #[.slice q.a q.r q.cap, .slice q.b q.s q.dap] 43)).alloc (.cells #[.slice k.a k.r k.cap, .slice k.b k.s k.dap] 43)).alloc (.cells #[.slice v.a v.r v.cap, .slice v.b v.s v.dap] 43)).alloc (.cells #[.slice none 0 0, .slice none 0 0] 43) = W0 := ⟨_, rfl⟩
  rw [hW0] at A0
  obtain ⟨x0, x1⟩ := A0.out.bq
  have C1 := hide (specTensorOk B q.a q.b q.r q.s q.cap q.dap q.D q.S W0 (by have := A0.out.sz; omega) A0.out.rq.1 A0.out.rq.2 lq.1 lq.2)
  rw [tq] at C1
  clear hq hk hv
  go_enter Try.func20, Try.ntmps20
  go_wp2_with fail
  refine C1.out.mono ?_
  clear hW0 C1 x0 x1
  rintro e' w1 ⟨rfl, b1⟩
  have A1 := hide (A0.out.below hB b1)
  clear A0 b1
  obtain ⟨x0, x1⟩ := A1.out.bk
  have C1 := hide (specTensorOk B k.a k.b k.r k.s k.cap k.dap k.D k.S w1 (by have := A1.out.sz; omega) A1.out.rk.1 A1.out.rk.2 lk.1 lk.2)
  rw [tk] at C1
  go_wp2_with fail
  refine C1.out.mono ?_
  clear C1 x0 x1
  rintro e' w2 ⟨rfl, b1⟩
  have A2 := hide (A1.out.below hB b1)
  clear A1 b1
  obtain ⟨x0, x1⟩ := A2.out.bv
  have C1 := hide (specTensorOk B v.a v.b v.r v.s v.cap v.dap v.D v.S w2 (by have := A2.out.sz; omega) A2.out.rv.1 A2.out.rv.2 lv.1 lv.2)
  rw [tv] at C1
  go_wp2_with fail
  refine C1.out.mono ?_
  clear C1 x0 x1
  rintro e' w3 ⟨rfl, b1⟩
  have A3' := hide (A2.out.below hB b1)
  clear A2 b1
  obtain ⟨p0, p1⟩ := A3'.out.bq
  obtain ⟨p2, p3⟩ := A3'.out.bk
  obtain ⟨p4, p5⟩ := A3'.out.bv
  have q2 := Q2.out
  have k2 := K2.out
  have v2 := V2.out
  obtain ⟨h1, h2, h3⟩ := HS.out
  obtain ⟨d1, d2, d3, d4, d5, d6⟩ := DD.out
  have q2' : ((q.r : Int) != 2) = false := by rw [q2]; rfl
  have k2' : ((k.r : Int) != 2) = false := by rw [k2]; rfl
  have v2' : ((v.r : Int) != 2) = false := by rw [v2]; rfl
  have iq := A3'.out.rq.1
  have ik := A3'.out.rk.1
  have iv := A3'.out.rv.1
  rcases iq with h0 | ⟨bq, oq, eq, gq, hcq⟩
  · omega
  rcases ik with h0 | ⟨bk, ok', ek, gk, hck⟩
  · omega
  rcases iv with h0 | ⟨bv, ov, ev, gv, hcv⟩
  · omega
  have cq0 := (hcq 0 (by omega)).1
  have cq1 := (hcq 1 (by omega)).1
  have ck0 := (hck 0 (by omega)).1
  have ck1 := (hck 1 (by omega)).1
  have cv0 := (hcv 0 (by omega)).1
  have cv1 := (hcv 1 (by omega)).1
  rw [d1, Nat.add_zero] at cq0
  rw [d2] at cq1
  rw [d3, Nat.add_zero] at ck0
  rw [d4] at ck1
  rw [d5, Nat.add_zero] at cv0
  rw [d6] at cv1
  rw [eq, q2] at p0
  rw [ek, k2] at p2
  rw [ev, v2] at p4
  have EQ := hide eq
  have EK := hide ek
  have EV := hide ev
  clear eq ek ev
  have nI : (n : Int) ≤ 4096 := by
    have : n * 1 ≤ n * c := Nat.mul_le_mul_left _ c1
    omega
  have mI : (m : Int) ≤ 4096 := by
    have : m * 1 ≤ m * c := Nat.mul_le_mul_left _ c1
    omega
  have cI : (c : Int) ≤ 4096 := by
    have : 1 * c ≤ m * c := Nat.mul_le_mul_right _ (by omega)
    omega
  have eI : (e : Int) ≤ 4096 := by
    have : 1 * e ≤ m * e := Nat.mul_le_mul_right _ (by omega)
    omega
  have neI : ((n * e : Nat) : Int) ≤ 4096 := by have : n * e ≤ m * e := Nat.mul_le_mul_right _ nm; omega
  have nm2 : n * m ≤ 4096 * 4096 := Nat.mul_le_mul (by omega) (by omega)
  obtain ⟨x, hx⟩ : ∃ x : Nat, n * m = x := ⟨_, rfl⟩
  obtain ⟨y, hy⟩ : ∃ y : Nat, x * (c + e) = y := ⟨_, rfl⟩
  rw [hx] at nm2
  have ex : (n : Int) * m = x := by rw [← hx, Int.natCast_mul]
  have es : (c : Int) + e = ((c + e : Nat) : Int) := by omega
  have ey : (x : Int) * ((c : Int) + e) = y := by rw [es, ← hy, Int.natCast_mul]
  rw [ex, ey] at hwork
  have wx : IntKind.i64.wrap (x : Int) = x := by rw [IntKind.wrap_i64]; omega
  have ws : IntKind.i64.wrap ((c : Int) + e) = (c : Int) + e := by rw [IntKind.wrap_i64]; omega
  have wy : IntKind.i64.wrap (y : Int) = y := by rw [IntKind.wrap_i64]; omega
  have f1 : ((c : Int) != (c : Int)) = false := by simp
  have f2 : ((m : Int) != (m : Int)) = false := by simp
  have f3 : decide ((m : Int) < (n : Int)) = false := decide_eq_false (by omega)
  have f3' : decide (m < n) = false := decide_eq_false (by omega)
  have f5 : decide ((65536 : Int) < (y : Int)) = false := decide_eq_false (by omega)
  have f5' : decide (65536 < y) = false := decide_eq_false (by omega)
  have CI := hide (fun (W : World) => l5In win 0 4096 W)
  rw [decide_eq_true (show 0 ≤ win ∧ win ≤ 4096 from ⟨hw0, hw1⟩)] at CI
  have a0D : attD q v 0 = (n : Int) := by unfold attD; simp [d1]
  have a1D : attD q v 1 = (e : Int) := by unfold attD; simp [d6]
  have NEW := hide (fun (W : World) => show Rw (W.alloc (.cells #[.int .i64 (n : Int), .int .i64 (e : Int)] 3)) W.heap.size 2 (attD q v) by
    intro j hj
    have : j = 0 ∨ j = 1 := by omega
    rcases this with rfl | rfl
    · exact ⟨by simp [go_sem, a0D], by simp [go_sem], by unfold bd; omega⟩
    · exact ⟨by simp [go_sem, a1D], by simp [go_sem], by unfold bd; omega⟩)
  clear q2 k2 v2 h1 h2 h3 hcq hck hcv hx hy nm2 es d1 d2 d3 d4 d5 d6 a0D a1D
  go_wp2_with fail
  refine Qt.region_tail_lit 43 (by kernel_rfl) (by kernel_rfl) ?_
  simp only [List.take_succ_cons, List.take_zero, List.drop_succ_cons, List.drop_zero]
  repeat (go_big_quiet_step (first | (go_at_call 18; exact Calls.quiet_of_same (CI.out _))))
  refine wpQuiet_nil ?_
  intro _ hw'
  obtain ⟨nq, hw''⟩ := hw'
  subst hw''
  have bz := below_drewN (Below.refl w3.heap.size w3) nq
  generalize w3.drewN nq = X at bz ⊢
  have AX := hide (A3'.out.below hB bz)
  clear p0 p1 p2 p3 p4 p5 cq0 cq1 ck0 ck1 cv0 cv1 bz A3' CI f1 f2 f3 f3' f5 f5' wx ws wy ex ey q2' k2' v2'
  obtain ⟨W6, hW6⟩ : ∃ W6, X.alloc (.cells #[.int .i64 (n : Int), .int .i64 (e : Int)] 3) = W6 := ⟨_, rfl⟩
  have b6 : Below X.heap.size X W6 := by rw [← hW6]; exact (Below.refl _ _).alloc (Nat.le_refl _) _
  have r6 : Rw W6 X.heap.size 2 (attD q v) := by rw [← hW6]; exact NEW.out X
  have s6 : X.heap.size < W6.heap.size := by rw [← hW6]; simp
  have CD := hide (Vs.specDimsOk W6.heap.size (some ⟨X.heap.size, 0, none⟩) 2 2 (attD q v) W6 (r6.ints s6) (by decide))
  rw [DOK.out.1] at CD
  have A6 := hide (AX.out.below hB b6)
  obtain ⟨W7, hW7⟩ : ∃ W7, W6.alloc (.cells #[.int .i64 (n : Int), .int .i64 (e : Int)] 3) = W7 := ⟨_, rfl⟩
  have b7 : Below W6.heap.size W6 W7 := by rw [← hW7]; exact (Below.refl _ _).alloc (Nat.le_refl _) _
  have r7 : Rw W7 W6.heap.size 2 (attD q v) := by rw [← hW7]; exact NEW.out W6
  have s7 : W6.heap.size < W7.heap.size := by rw [← hW7]; simp
  have A7 := hide (A6.out.below hB b7)
  have CN := hide (l4New W7.heap.size ⟨W6.heap.size, 0, none⟩ 2 2 (n * e) (attD q v) W7 (Nat.le_refl _) (r7.ints s7) (by decide) DOK.out.2 neI)
  clear b6 r6 b7 r7 NEW AX A6
  go_wp2_with fail
  refine CD.out.mono ?_
  rintro e2' w4 ⟨rfl, hw⟩
  have hw := hw.symm
  subst hw
  clear CD
  go_wp2_with fail
  refine CN.out.mono ?_
  clear hW6 hW7 CN
  rintro e3' w8 ⟨va, vc, g, rfl, ov', rg, lg, hg, hne, b8⟩
  obtain ⟨N, hN⟩ : ∃ N, n * e = N := ⟨_, rfl⟩
  rw [hN] at rg
  have A8 := hide (A7.out.below hB b8)
  have s8 := b8.size
  have g3 : w.heap.size + 1 + 1 + 1 < g := by have := A7.out.sz; omega
  have g7 : w.heap.size + 1 + 1 + 1 + 1 ≤ W7.heap.size + 1 := by have := A7.out.sz; omega
  obtain ⟨W, hW⟩ : ∃ W, w8.alloc (.cells #[.slice va 2 vc, .slice (some ⟨g, 0, none⟩) N N] 43) = W := ⟨_, rfl⟩
  have bW : Below w8.heap.size w8 W := by rw [← hW]; exact (Below.refl _ _).alloc (Nat.le_refl _) _
  have zW : W.heap.size = w8.heap.size + 1 := by rw [← hW]; simp
  have TW := hide (show Bx W w8.heap.size (.slice va 2 vc) (.slice (some ⟨g, 0, none⟩) N N) by rw [← hW]; exact bx_new w8 _ _ _)
  have AW := hide (A8.out.below hB bW)
  have OV := hide (ov'.below bW)
  have RG := hide (rg.below bW hg)
  have HNE := hide hne
  have ZW := hide zW
  have HN := hide hN
  obtain ⟨h1, h2, h3⟩ := HS.out
  obtain ⟨S, hS⟩ : ∃ S, attS q k v win n m c e = S := ⟨_, rfl⟩
  have SE := hide (fun (i j : Nat) (hj : j < e) => show S (i * e + j) = wv (aw (fun t => q.S (i * c + t)) k.S c) v.S e (fromA win n m i) (upA n m i) j by
    have a1 : (i * e + j) / e = i := by rw [Nat.mul_comm, Nat.mul_add_div (by omega), Nat.div_eq_of_lt hj]; rfl
    have a2 : (i * e + j) % e = j := by rw [Nat.mul_comm, Nat.mul_add_mod, Nat.mod_eq_of_lt hj]
    rw [← hS]; unfold attS; rw [a1, a2])
  rw [hS] at EZ
  have H1 := hide h1
  have H2 := hide h2
  have H3 := hide h3
  have g8 : g < w8.heap.size := hg
  have aI : 0 ≤ (m : Int) - n := by omega
  have wmn : IntKind.i64.wrap ((m : Int) - n) = (m : Int) - n := by rw [IntKind.wrap_i64]; omega
  rw [hN]
  clear ov' rg b8 bW s8 hne zW hN hS h1 h2 h3 HS A7 A8 DOK hwork s6 s7 lg
  go_wp2_with fail
  clear hW
  go_loopw [13] (fun i wx => ∃ t : Nat, t ≤ n ∧ i = .int .i64 t ∧ Rw wx g N (rowM S t e (fun _ => 0)) ∧ Kept (· = g) W wx) (fun i _ => n - (intOf i).toNat)
  case atStart => exact ⟨0, Nat.zero_le _, rfl, RG.out.same (fun p hp => rowM_zero S e p), Kept.refl _ _⟩
  case round =>
    obtain ⟨X, rfl⟩ : ∃ X, X = wr := ⟨_, rfl⟩
    obtain ⟨t, ht, rfl, hrw, hkp⟩ := hrel
    have HRW := hide hrw
    have HKP := hide hkp
    clear hrw hkp
    by_cases hlt : t < n
    · have tI : (t : Int) < n := by omega
      have wat : IntKind.i64.wrap ((m : Int) - n + t) = ((m - n + t : Nat) : Int) := by rw [IntKind.wrap_i64]; omega
      obtain ⟨at', hat⟩ : ∃ at', m - n + t = at' := ⟨_, rfl⟩
      have am : at' < m := by omega
      have UA := hide (show upA n m t = at' + 1 by unfold upA; omega)
      obtain ⟨f, hf⟩ : ∃ f, fromA win n m t = f := ⟨_, rfl⟩
      have HF := hide hf
      have FF := hide (fun (s : Nat) (hs : s ≤ at') => show (0 < win ∧ (s : Int) ≤ (at' : Int) - win) ↔ s < f by
        rw [← hf]; unfold fromA; rw [UA.out]
        by_cases c0 : 0 < win
        · rw [if_pos c0]; constructor
          · intro h; omega
          · intro h; omega
        · rw [if_neg c0]; constructor
          · intro h; exact absurd h.1 c0
          · intro h; omega)
      obtain ⟨WW, hWW⟩ : ∃ WW, aw (fun s => q.S (t * c + s)) k.S c = WW := ⟨_, rfl⟩
      have WE := hide (fun s => show WW s = pl 1 (ti (dotS (fun r => q.S (t * c + r)) (fun r => k.S (s * c + r)) c) (dotS (fun r => q.S (t * c + r)) (fun r => k.S (s * c + r)) c)) by rw [← hWW]; rfl)
      have WR := hide (fun s => show 0 ≤ WW s ∧ WW s < 2147483647 by rw [← hWW]; exact aw_rng _ _ _ _)
      have SE2 := hide (fun (j : Nat) (hj : j < e) => show S (t * e + j) = wv WW v.S e f (at' + 1) j by rw [SE.out t j hj, hWW, hf, UA.out])
      rw [hat] at wat
      clear hf hWW hat
      go_wp2_with fail
      go_loopw [15, 16] (fun a i wx => ∃ s : Nat, s ≤ at' + 1 ∧ a = .int .i64 (totS WW f s) ∧ i = .int .i64 s ∧ Rw wx g N (rowM S t e (fun j => accS WW (fun r => v.S (r * e + j)) f s)) ∧ Kept (· = g) W wx) (fun _ i _ => at' + 1 - (intOf i).toNat)
      case atStart => exact ⟨0, by omega, rfl, rfl, HRW.out, HKP.out⟩
      case round =>
        obtain ⟨Y, rfl⟩ : ∃ Y, Y = wr := ⟨_, rfl⟩
        obtain ⟨s, hs, rfl, rfl, hrw, hkp⟩ := hrel
        have HR2 := hide hrw
        have HK2 := hide hkp
        clear hrw hkp
        by_cases hsl : s ≤ at'
        · have sI : (s : Int) ≤ at' := by omega
          have waw : IntKind.i64.wrap ((at' : Int) - win) = (at' : Int) - win := by rw [IntKind.wrap_i64]; omega
          have F0 := FF.out s hsl
          by_cases sf : s < f
          · obtain ⟨f1, f2⟩ := F0.2 sf
            have TL := hide (show totS WW f (s + 1) = totS WW f s by show (if s < f then _ else _) = _; rw [if_pos sf])
            have AL := hide (fun j => show accS WW (fun r => v.S (r * e + j)) f (s + 1) = accS WW (fun r => v.S (r * e + j)) f s by show (if s < f then _ else _) = _; rw [if_pos sf])
            clear F0
            go_wp2_with fail
            go_roundw
            case rel => exact ⟨s + 1, by omega, by rw [TL.out], by go_num, HR2.out.same (fun p hp => rowM_same (fun j hj => AL.out j) p), HK2.out⟩
            case measure => simp [intOf]; omega
          · have AT := hide (totS_up WW f s (by omega))
            have AY := hide (AW.out.kept hB HK2.out g3)
            have tr := totS_rng WW f s
            have wr' := WR.out s
            have hsc : s * c + c ≤ k.s := by
              have : (s + 1) * c ≤ m * c := Nat.mul_le_mul_right _ (by omega)
              rw [Nat.add_mul, Nat.one_mul] at this; have := H2.out; omega
            have htc : t * c + c ≤ q.s := by
              have : (t + 1) * c ≤ n * c := Nat.mul_le_mul_right _ (by omega)
              rw [Nat.add_mul, Nat.one_mul] at this; have := H1.out; omega
            have hse : s * e + e ≤ v.s := by
              have : (s + 1) * e ≤ m * e := Nat.mul_le_mul_right _ (by omega)
              rw [Nat.add_mul, Nat.one_mul] at this; have := H3.out; omega
            have hte : t * e + e ≤ N := by
              have : (t + 1) * e ≤ n * e := Nat.mul_le_mul_right _ (by omega)
              rw [Nat.add_mul, Nat.one_mul] at this; have := HN.out; omega
            have N4 : (N : Int) ≤ 4096 := by have := HN.out; omega
            have sYB : B ≤ Y.heap.size := by have := AY.out.sz; omega
            obtain ⟨x0, x1⟩ := AY.out.bq
            obtain ⟨y0, y1⟩ := AY.out.bk
            have rq := AY.out.rq
            have rk := AY.out.rk
            unfold TV.read at rq rk
            rw [Q2.out, EQ.out] at rq
            rw [K2.out, EK.out] at rk
            rw [Q2.out, EQ.out] at x0
            rw [K2.out, EK.out] at y0
            obtain ⟨b1, o1, eqb⟩ : ∃ b1 o1, q.b = some ⟨b1, o1, none⟩ := by
              rcases rq.2 with h0 | ⟨b1, o1, h, _⟩
              · omega
              · exact ⟨b1, o1, h⟩
            obtain ⟨b2, o2, ekb⟩ : ∃ b2 o2, k.b = some ⟨b2, o2, none⟩ := by
              rcases rk.2 with h0 | ⟨b2, o2, h, _⟩
              · omega
              · exact ⟨b2, o2, h⟩
            rw [eqb] at rq x1
            rw [ekb] at rk y1
            obtain ⟨u1, hu1⟩ : ∃ u1, t * c = u1 := ⟨_, rfl⟩
            obtain ⟨u2, hu2⟩ : ∃ u2, s * c = u2 := ⟨_, rfl⟩
            obtain ⟨dd, hdd⟩ : ∃ dd, dotS (fun r => q.S (t * c + r)) (fun r => k.S (s * c + r)) c = dd := ⟨_, rfl⟩
            have dr := dotS_rng (fun r => q.S (t * c + r)) (fun r => k.S (s * c + r)) c
            have EW := hide (WE.out s)
            rw [hdd] at EW dr
            have CR1 := hide (fun (d : Nat) (os : Array Obj) => show Calls Try.prog 41 #[.agg #[.slice (some ⟨bq, oq, none⟩) 2 q.cap, .slice (some ⟨b1, o1, none⟩) q.s q.dap], .int .i64 (t : Int)] (Sort.grow (redrawn Y d) os) (fun e w'' => e = .returned (.slice (some ⟨b1, o1 + u1, none⟩) c (q.dap - u1)) ∧ ∃ p : Regrown, w'' = Sort.grow (redrawn Y p.d) p.os) from
              Calls.regrown_of (specRowE B b1 o1 (some ⟨bq, oq, none⟩) q.s q.cap q.dap t c u1 q.D q.S _ (Nat.le_trans sYB (below_regrown Y d os).size) (rq.1.below ((below_regrown Y d os).mono sYB)) DD.out.2.1 (by omega) cq.2 c1 hu1 (by rw [← hu1]; exact htc)))
            have CR2 := hide (fun (d : Nat) (os : Array Obj) => show Calls Try.prog 41 #[.agg #[.slice (some ⟨bk, ok', none⟩) 2 k.cap, .slice (some ⟨b2, o2, none⟩) k.s k.dap], .int .i64 (s : Int)] (Sort.grow (redrawn Y d) os) (fun e w'' => e = .returned (.slice (some ⟨b2, o2 + u2, none⟩) c (k.dap - u2)) ∧ ∃ p : Regrown, w'' = Sort.grow (redrawn Y p.d) p.os) from
              Calls.regrown_of (specRowE B b2 o2 (some ⟨bk, ok', none⟩) k.s k.cap k.dap s c u2 k.D k.S _ (Nat.le_trans sYB (below_regrown Y d os).size) (rk.1.below ((below_regrown Y d os).mono sYB)) DD.out.2.2.2.1 (by omega) ck.2 c1 hu2 (by rw [← hu2]; exact hsc)))
            have CR3 := hide (fun (d : Nat) (os : Array Obj) => show Calls Try.prog 40 #[.slice (some ⟨b1, o1 + u1, none⟩) c (q.dap - u1), .slice (some ⟨b2, o2 + u2, none⟩) c (k.dap - u2)] (Sort.grow (redrawn Y d) os) (fun e w'' => e = .returned (.int .i64 dd) ∧ ∃ p : Regrown, w'' = Sort.grow (redrawn Y p.d) p.os) from by
              have bg := (below_regrown Y d os).mono sYB
              have := specDot B (some ⟨b1, o1 + u1, none⟩) (some ⟨b2, o2 + u2, none⟩) c (q.dap - u1) (k.dap - u2) (fun r => q.S (t * c + r)) (fun r => k.S (s * c + r)) (Sort.grow (redrawn Y d) os) (Nat.le_trans sYB (below_regrown Y d os).size) (by rw [← hu1]; exact ints_from (m := t * c) (q := c) (rq.2.below bg) rfl htc) (by rw [← hu2]; exact ints_from (m := s * c) (q := c) (rk.2.below bg) rfl hsc) (by omega)
              rw [hdd] at this
              exact Calls.regrown_of this)
            have k0 := cell_regrown x0
            have k1 := cell_regrown x1
            have k2 := cell_regrown y0
            have k3 := cell_regrown y1
            have NP : ¬ (0 < win ∧ (s : Int) ≤ (at' : Int) - win) := fun h => sf (F0.1 h)
            have AT1 := hide (fun j => accS_up WW (fun r => v.S (r * e + j)) f s (by omega))
            have tt := ti_rng dd dd
            have CT := hide (fun (W : World) => Base.specTimes dd dd W (by omega) (by omega) (by omega) (by omega))
            have EW2 := hide (show WW s = (1 + dd % 2147483647 * (dd % 2147483647) % 2147483647) % 2147483647 from EW.out)
            unfold ti at tt
            obtain ⟨d2', hd2⟩ : ∃ d2', dd % 2147483647 * (dd % 2147483647) % 2147483647 = d2' := ⟨_, rfl⟩
            rw [hd2] at tt CT EW2
            have CP := hide (fun (W : World) => Base.specPlus 1 d2' W (by omega) (by omega) (by omega) (by omega))
            rw [← EW2.out] at CP
            obtain ⟨ww, hww⟩ : ∃ ww, WW s = ww := ⟨_, rfl⟩
            obtain ⟨ts, hts⟩ : ∃ ts, totS WW f s = ts := ⟨_, rfl⟩
            have AT2 := hide (show totS WW f (s + 1) = (ts + ww) % 2147483647 by rw [← hts, ← hww]; exact AT.out)
            rw [hww] at CP wr' AT1
            rw [hts] at tr ⊢
            have CA := hide (fun (W : World) => Base.specPlus ts ww W (by omega) (by omega) (by omega) (by omega))
            rw [← AT2.out] at CA
            have KR := hide (fun (d : Nat) (os : Array Obj) => show Rw (Sort.grow (redrawn Y d) os) g N (rowM S t e (fun j => accS WW (fun r => v.S (r * e + j)) f s)) ∧ Kept (· = g) W (Sort.grow (redrawn Y d) os) from
              ⟨HR2.out.below (below_regrown Y d os) (by have := HK2.out.size; have := ZW.out; omega), HK2.out.trans (Kept.of_below (below_regrown Y d os))⟩)
            obtain ⟨tn, htn⟩ : ∃ tn, totS WW f (s + 1) = tn := ⟨_, rfl⟩
            rw [htn] at CA
            have HTN := hide htn
            clear F0 x0 x1 y0 y1 rq rk AT EW EW2 AT2 hdd hd2 hww hts htn hu1 hu2 AY HR2 HK2 htc hsc eqb ekb
            have GO := hide (show (decide (0 < win) = false) ∨ (0 < win ∧ decide ((s : Int) ≤ (at' : Int) - win) = false) by
              by_cases c0 : 0 < win
              · exact .inr ⟨c0, decide_eq_false (fun h => NP ⟨c0, h⟩)⟩
              · exact .inl (decide_eq_false c0))
            clear NP
            rcases GO.out with c0 | ⟨c0, c2⟩
            all_goals go_wp2_with fail
            all_goals refine wp_region_quiet_below (by kernel_rfl) (by kernel_rfl) ?_
            all_goals repeat (go_big_quiet_step (first | (go_at_call_of 41 (Value.int .i64 (t : Int)); exact CR1.out _ _) | (go_at_call_of 41 (Value.int .i64 (s : Int)); exact CR2.out _ _) | (go_at_call 40; exact CR3.out _ _)))
            all_goals refine wpQuiet_nil ?_
            all_goals intro _ hw'
            all_goals obtain ⟨⟨dq, osq⟩, hw''⟩ := hw'
            all_goals subst hw''
            all_goals obtain ⟨hrw, hkp⟩ := KR.out dq osq
            all_goals generalize Sort.grow (redrawn Y dq) osq = Z at hrw hkp ⊢
            all_goals (have HRZ := hide hrw)
            all_goals (have HKZ := hide hkp)
            all_goals clear hrw hkp k0 k1 k2 k3 KR CR1 CR2 CR3
            all_goals go_wp2_with fail
            all_goals (refine (CT.out _).mono ?_; rintro e4 w9 ⟨rfl, hw⟩; have hw := hw.symm; subst hw)
            all_goals go_wp2_with fail
            all_goals (refine (CP.out _).mono ?_; rintro e4 w9 ⟨rfl, hw⟩; have hw := hw.symm; subst hw)
            all_goals go_wp2_with fail
            all_goals (refine (CA.out _).mono ?_; rintro e4 w9 ⟨rfl, hw⟩; have hw := hw.symm; subst hw)
            all_goals go_wp2_with fail
            all_goals (
              go_loopw [19] (fun i wx => ∃ j : Nat, j ≤ e ∧ i = .int .i64 j ∧ Rw wx g N (rowM S t e (fun b => if b < j then accS WW (fun r => v.S (r * e + b)) f (s + 1) else accS WW (fun r => v.S (r * e + b)) f s)) ∧ Kept (· = g) W wx) (fun i _ => e - (intOf i).toNat)
              case atStart => exact ⟨0, Nat.zero_le _, rfl, HRZ.out.same (fun p hp => rowM_same (fun b hb => by simp) p), HKZ.out⟩
              case round =>
                obtain ⟨X1, rfl⟩ : ∃ X1, X1 = wr := ⟨_, rfl⟩
                obtain ⟨j, hj, rfl, hrw, hkp⟩ := hrel
                have HR3 := hide hrw
                have HK3 := hide hkp
                clear hrw hkp
                by_cases hjl : j < e
                · have jI : (j : Int) < e := by omega
                  have AX := hide (AW.out.kept hB HK3.out g3)
                  have TX := hide (TW.out.kept HK3.out (by have := ZW.out; omega) (show ¬ (w8.heap.size = g) by omega))
                  obtain ⟨u, hu⟩ : ∃ u, t * e = u := ⟨_, rfl⟩
                  obtain ⟨u', hu'⟩ : ∃ u', s * e = u' := ⟨_, rfl⟩
                  obtain ⟨p1, hp1⟩ : ∃ p1, u + j = p1 := ⟨_, rfl⟩
                  obtain ⟨p2, hp2⟩ : ∃ p2, u' + j = p2 := ⟨_, rfl⟩
                  have m1 : (t : Int) * e = u := by rw [← hu, Int.natCast_mul]
                  have m2 : (s : Int) * e = u' := by rw [← hu', Int.natCast_mul]
                  have m3 : (u : Int) + j = p1 := by omega
                  have m4 : (u' : Int) + j = p2 := by omega
                  have q1 : (p1 : Int) < N := by omega
                  have q3 : (p2 : Int) < v.s := by omega
                  have v1 : IntKind.i64.wrap (u : Int) = u := by rw [IntKind.wrap_i64]; omega
                  have v2 : IntKind.i64.wrap (u' : Int) = u' := by rw [IntKind.wrap_i64]; omega
                  have v3 : IntKind.i64.wrap (p1 : Int) = p1 := by rw [IntKind.wrap_i64]; omega
                  have v4 : IntKind.i64.wrap (p2 : Int) = p2 := by rw [IntKind.wrap_i64]; omega
                  obtain ⟨t0, t1⟩ := TX.out
                  obtain ⟨_, z1⟩ := AX.out.bv
                  rcases AX.out.rv.2 with h0 | ⟨b3, o3, evb, g3', hcv⟩
                  · omega
                  obtain ⟨cx, bx⟩ := hcv p2 (by omega)
                  rw [evb] at z1
                  obtain ⟨cd, fd, _⟩ := HR3.out p1 (by omega)
                  have ep : p1 = t * e + j := by omega
                  rw [ep, rowM_at hjl, ← ep] at cd
                  simp only [Nat.lt_irrefl, if_false] at cd
                  have ar := accS_rng WW (fun r => v.S (r * e + j)) f s
                  have AR := hide (accS_rng WW (fun r => v.S (r * e + j)) f (s + 1))
                  have AU := hide (AT1.out j)
                  have e2 : s * e + j = p2 := by omega
                  rw [e2] at AU
                  obtain ⟨x, hx⟩ : ∃ x, v.S p2 = x := ⟨_, rfl⟩
                  obtain ⟨ac, hac⟩ : ∃ ac, accS WW (fun r => v.S (r * e + j)) f s = ac := ⟨_, rfl⟩
                  rw [hac] at AU cd ar
                  rw [hx] at AU cx bx
                  unfold bd at bx
                  obtain ⟨p, hp⟩ : ∃ p, ti ww x = p := ⟨_, rfl⟩
                  have pr' := ti_rng ww x
                  have CT2 := hide (fun (W : World) => show Calls Try.prog 43 #[.int .i64 ww, .int .i64 x] W (fun e w' => e = .returned (.int .i64 (ti ww x)) ∧ w' = W) from Base.specTimes ww x W (by omega) (by omega) bx.1 bx.2)
                  rw [hp] at CT2 AU pr'
                  have CP2 := hide (fun (W : World) => Base.specPlus ac p W (by omega) (by omega) (by omega) (by omega))
                  obtain ⟨an, han⟩ : ∃ an, accS WW (fun r => v.S (r * e + j)) f (s + 1) = an := ⟨_, rfl⟩
                  have AU2 := hide (show an = (ac + p) % 2147483647 by rw [← han]; exact AU.out)
                  rw [← AU2.out] at CP2
                  have HAN := hide han
                  have EP := hide ep
                  clear AU hac hx hp han hcv ep e2 hu hu' hp1 hp2 AU2
                  go_wp2_with fail
                  refine Qt.region_tail_lit 29 (by kernel_rfl) (by kernel_rfl) ?_
                  simp only [List.take_succ_cons, List.take_zero, List.drop_succ_cons, List.drop_zero]
                  repeat (go_big_quiet_step (first | (go_at_call 43; exact Calls.quiet_of_same (CT2.out _)) | (go_at_call 42; exact Calls.quiet_of_same (CP2.out _))))
                  refine wpQuiet_nil ?_
                  intro _ hw'
                  obtain ⟨nq, hw''⟩ := hw'
                  subst hw''
                  go_wp2_with fail
                  go_roundw
                  case rel =>
                    have bz := below_drewN (Below.refl X1.heap.size X1) nq
                    have gX : g < X1.heap.size := by have := HK3.out.size; have := ZW.out; omega
                    refine ⟨j + 1, by omega, by go_num, ((HR3.out.below bz gX).set p1 an (bd_of (by rw [← HAN.out]; exact AR.out))).same (fun b hb => ?_), (HK3.out.trans (Kept.of_below bz)).trans (Kept.setCell _ ⟨g, p1, none⟩ _)⟩
                    rw [EP.out, rowM_set hjl]
                    refine rowM_same (fun b' hb' => ?_) b
                    by_cases c3 : b' = j
                    · subst c3; simp [HAN.out]
                    · by_cases c4 : b' < j
                      · rw [if_pos (by omega), if_neg c3, if_pos c4]
                      · rw [if_neg (by omega), if_neg c3, if_neg c4]
                  case measure => simp [intOf]; omega
                · have ej : j = e := by omega
                  have R3 := hide (HR3.out.same (E := rowM S t e (fun b => accS WW (fun r => v.S (r * e + b)) f (s + 1))) (fun p hp => rowM_same (fun b hb => by rw [if_pos (by omega)]) p))
                  clear ej
                  go_wp2_with fail
                  go_roundw
                  case rel => exact ⟨s + 1, by omega, by rw [HTN.out], by go_num, R3.out, HK3.out⟩
                  case measure => simp [intOf]; omega)
        · have es : s = at' + 1 := by omega
          have tr := totS_rng WW f s
          have WVE := hide (fun (j : Nat) (hj : j < e) => show S (t * e + j) = accS WW (fun r => v.S (r * e + j)) f s % 2147483647 * (Num.pw (totS WW f s % 2147483647) 2147483645 % 2147483647) % 2147483647 by rw [SE2.out j hj, es]; rfl)
          obtain ⟨ts, hts⟩ : ∃ ts, totS WW f s = ts := ⟨_, rfl⟩
          rw [hts] at tr WVE ⊢
          have sI : decide ((s : Int) ≤ (at' : Int)) = false := decide_eq_false (by omega)
          have sI' : decide (s ≤ at') = false := decide_eq_false (by omega)
          have hte : t * e + e ≤ N := by
            have : (t + 1) * e ≤ n * e := Nat.mul_le_mul_right _ (by omega)
            rw [Nat.add_mul, Nat.one_mul] at this; have := HN.out; omega
          have N4 : (N : Int) ≤ 4096 := by have := HN.out; omega
          clear es hts hsl
          go_wp2_with fail
          go_loopw [20] (fun i wx => ∃ j : Nat, j ≤ e ∧ i = .int .i64 j ∧ Rw wx g N (rowM S t e (fun b => if b < j then S (t * e + b) else accS WW (fun r => v.S (r * e + b)) f s)) ∧ Kept (· = g) W wx) (fun i _ => e - (intOf i).toNat)
          case atStart => exact ⟨0, Nat.zero_le _, rfl, HR2.out.same (fun p hp => rowM_same (fun b hb => by simp) p), HK2.out⟩
          case round =>
            obtain ⟨X1, rfl⟩ : ∃ X1, X1 = wr := ⟨_, rfl⟩
            obtain ⟨j, hj, rfl, hrw, hkp⟩ := hrel
            have HR3 := hide hrw
            have HK3 := hide hkp
            clear hrw hkp
            by_cases hjl : j < e
            · have jI : (j : Int) < e := by omega
              have TX := hide (TW.out.kept HK3.out (by have := ZW.out; omega) (show ¬ (w8.heap.size = g) by omega))
              obtain ⟨u, hu⟩ : ∃ u, t * e = u := ⟨_, rfl⟩
              obtain ⟨p1, hp1⟩ : ∃ p1, u + j = p1 := ⟨_, rfl⟩
              have m1 : (t : Int) * e = u := by rw [← hu, Int.natCast_mul]
              have m3 : (u : Int) + j = p1 := by omega
              have q1 : (p1 : Int) < N := by omega
              have v1 : IntKind.i64.wrap (u : Int) = u := by rw [IntKind.wrap_i64]; omega
              have v3 : IntKind.i64.wrap (p1 : Int) = p1 := by rw [IntKind.wrap_i64]; omega
              obtain ⟨t0, t1⟩ := TX.out
              obtain ⟨cd, fd, _⟩ := HR3.out p1 (by omega)
              have ep : p1 = t * e + j := by omega
              rw [ep, rowM_at hjl, ← ep] at cd
              simp only [Nat.lt_irrefl, if_false] at cd
              have ar := accS_rng WW (fun r => v.S (r * e + j)) f s
              have WJ := hide (WVE.out j hjl)
              obtain ⟨ac, hac⟩ : ∃ ac, accS WW (fun r => v.S (r * e + j)) f s = ac := ⟨_, rfl⟩
              rw [hac] at cd ar WJ
              have pe := Num.pw_bd (ts % 2147483647) 2147483645
              have CO := hide (fun (W : World) => Base.specOver ac ts W (by omega) (by omega) (by omega) (by omega))
              have WJ2 := hide (show S (t * e + j) = (ac % 2147483647 * Num.pw (ts % 2147483647) 2147483645) % 2147483647 by rw [WJ.out, Int.emod_eq_of_lt pe.1 pe.2])
              rw [← WJ2.out] at CO
              obtain ⟨sv, hsv⟩ : ∃ sv, S (t * e + j) = sv := ⟨_, rfl⟩
              have SR := hide (show 0 ≤ sv ∧ sv < 2147483647 by rw [← hsv, WJ2.out]; exact ⟨Int.emod_nonneg _ (by decide), Int.emod_lt_of_pos _ (by decide)⟩)
              rw [hsv] at CO
              have HSV := hide hsv
              have EP := hide ep
              clear hac hsv WJ WJ2 ep hu hp1 pe
              go_wp2_with fail
              refine Qt.region_tail_lit 19 (by kernel_rfl) (by kernel_rfl) ?_
              simp only [List.take_succ_cons, List.take_zero, List.drop_succ_cons, List.drop_zero]
              repeat (go_big_quiet_step (first | (go_at_call 44; exact Calls.quiet_of_same (CO.out _))))
              refine wpQuiet_nil ?_
              intro _ hw'
              obtain ⟨nq, hw''⟩ := hw'
              subst hw''
              go_wp2_with fail
              go_roundw
              case rel =>
                have bz := below_drewN (Below.refl X1.heap.size X1) nq
                have gX : g < X1.heap.size := by have := HK3.out.size; have := ZW.out; omega
                refine ⟨j + 1, by omega, by go_num, ((HR3.out.below bz gX).set p1 sv (bd_of SR.out)).same (fun b hb => ?_), (HK3.out.trans (Kept.of_below bz)).trans (Kept.setCell _ ⟨g, p1, none⟩ _)⟩
                rw [EP.out, rowM_set hjl]
                refine rowM_same (fun b' hb' => ?_) b
                by_cases c3 : b' = j
                · subst c3; simp [HSV.out]
                · by_cases c4 : b' < j
                  · rw [if_pos (by omega), if_neg c3, if_pos c4]
                  · rw [if_neg (by omega), if_neg c3, if_neg c4]
              case measure => simp [intOf]; omega
            · have ej : j = e := by omega
              have R3 := hide (HR3.out.same (E := rowM S (t + 1) e (fun _ => 0)) (fun p hp => rowM_next (fun b hb => by rw [if_pos (by omega)]) p))
              clear ej
              go_wp2_with fail
              go_roundw
              case rel => exact ⟨t + 1, by omega, by go_num, R3.out, HK3.out⟩
              case measure => simp [intOf]; omega
    · have et : t = n := by omega
      have hlt' : decide ((t : Int) < (n : Int)) = false := decide_eq_false (by omega)
      have hlt'' : decide (t < n) = false := decide_eq_false (by omega)
      have AX := hide (AW.out.kept hB HKP.out g3)
      have TX := hide (TW.out.kept HKP.out (by have := ZW.out; omega) (show ¬ (w8.heap.size = g) by omega))
      have OV5 := hide (OV.out.kept HKP.out (fun b q e => HNE.out b q e))
      have R5 := hide (HRW.out.same (E := S) (fun p hp => by rw [et]; exact (rowM_end (by have := HN.out; omega)).symm))
      obtain ⟨y0, y1⟩ := AX.out.z
      have gg := AX.out.fr
      unfold Free at gg
      obtain ⟨t0, t1⟩ := TX.out
      clear hlt et
      go_wp2_with fail
      refine bodyPost_ret (v := .agg #[.slice va 2 vc, .slice (some ⟨g, 0, none⟩) N N]) (by simp [results, Try.results20, go_sem, y0, y1]) rfl ?_
      rw [EZ.out, HN.out]
      exact tens_end (v := ⟨2, N, attD q v, S⟩) (P := w.heap.size + 1 + 1 + 1) (B := w.heap.size + 1 + 1 + 1 + 1) ⟨OV5.out.mono g7, .inr ⟨g, rfl, by omega, R5.out⟩, fun j q1 q2 => by
          obtain ⟨_, ad, e', e''⟩ := q2
          injection e' with e'
          subst e'
          have e'' : g = j := e''
          exact HNE.out j q1 e''.symm⟩ (by omega) (by omega) AX.out.bb
theorem specAttend (B : Nat) (q k v : TV) (win : Int) (w : World) (hB : B ≤ w.heap.size) (hq : q.read B w) (hk : k.read B w) (hv : v.read B w) (lq : (q.r : Int) ≤ 1048576 ∧ (q.s : Int) ≤ 1048576) (lk : (k.r : Int) ≤ 1048576 ∧ (k.s : Int) ≤ 1048576) (lv : (v.r : Int) ≤ 1048576 ∧ (v.s : Int) ≤ 1048576)
    (cq : q.r ≤ q.cap ∧ q.s ≤ q.dap) (ck : k.r ≤ k.cap ∧ k.s ≤ k.dap) (cv : v.r ≤ v.cap ∧ v.s ≤ v.dap) (hw : bd win) :
    Calls Try.prog 20 #[.agg #[.slice q.a q.r q.cap, .slice q.b q.s q.dap], .agg #[.slice k.a k.r k.cap, .slice k.b k.s k.dap], .agg #[.slice v.a v.r v.cap, .slice v.b v.s v.dap], .int .i64 win] w fun e w' => TensR w.heap.size (attP q k v win) w e w' := by
  by_cases h : AttOk q k v ∧ 0 ≤ win ∧ win ≤ 4096
  · exact specAttendYes B q k v win w hB hq hk hv lq lk lv cq ck cv h.1 h.2.1 h.2.2
  · exact specAttendNo B q k v win w hB hq hk hv lq lk lv hw h
end Vo
end Go.Proofs.Ytjlmbeachanlfaa

/- Attention: what it gives hangs on numbers alone. -/
namespace Go.Proofs.Ytjlmbeachanlfaa
namespace Vo
open Go.ChangeShapes Go.WideShapes Go.ChangeAt Go.RowKit Go.Joins Go.Sort
open Vl Vp Vr
set_option linter.unusedVariables false
def TV.same (t u : TV) : Prop := t.r = u.r ∧ t.s = u.s ∧ t.D = u.D ∧ t.S = u.S
theorem attP_same {q k v q' k' v' : TV} {w : Int} (hq : q.same q') (hk : k.same k') (hv : v.same v') : attP q k v w = attP q' k' v' w := by
  obtain ⟨q1, q2, q3, q4⟩ := hq
  obtain ⟨k1, k2, k3, k4⟩ := hk
  obtain ⟨v1, v2, v3, v4⟩ := hv
  have e : AttOk q k v ↔ AttOk q' k' v' := by
    unfold AttOk TV.ok
    rw [q1, q2, q3, q4, k1, k2, k3, k4, v1, v2, v3, v4]
  by_cases h : AttOk q k v ∧ 0 ≤ w ∧ w ≤ 4096
  · rw [attP_yes h, attP_yes ⟨e.1 h.1, h.2⟩]
    have eS : attS q k v w (q.D 0).toNat (k.D 0).toNat (k.D 1).toNat (v.D 1).toNat = attS q' k' v' w (q'.D 0).toNat (k'.D 0).toNat (k'.D 1).toNat (v'.D 1).toNat := by
      funext p; unfold attS; rw [q3, q4, k3, k4, v3, v4]
    have eD : attD q v = attD q' v' := by funext j; unfold attD; rw [q3, v3]
    rw [eS, eD, q3, v3]
  · rw [attP_no h, attP_no (fun c => h ⟨e.2 c.1, c.2⟩)]
theorem attP_le (q k v : TV) (w : Int) : ((attP q k v w).r : Int) ≤ 4096 ∧ ((attP q k v w).s : Int) ≤ 4096 := by
  by_cases h : AttOk q k v ∧ 0 ≤ w ∧ w ≤ 4096
  · rw [attP_yes h]
    have := (attD_ok h.1).2
    have h2 := (szR_rng (attD q v) 2).2
    exact ⟨by show ((2 : Nat) : Int) ≤ 4096; decide, by rw [this] at h2; exact h2⟩
  · rw [attP_no h]
    exact ⟨by show ((0 : Nat) : Int) ≤ 4096; decide, by show ((0 : Nat) : Int) ≤ 4096; decide⟩
theorem tok_le {r s : Nat} {D S : Nat → Int} (h : tok r s D S = true) : (s : Int) ≤ 4096 := by
  unfold tok at h
  simp only [Bool.and_eq_true, decide_eq_true_eq] at h
  have := (szR_rng D r).2
  omega
theorem specAttendL (B : Nat) (q k v : TV) (win : Int) (w : World) (hB : B ≤ w.heap.size) (hq : q.read B w) (hk : k.read B w) (hv : v.read B w) (lq : (q.r : Int) ≤ 1048576 ∧ (q.s : Int) ≤ 33554432) (lk : (k.r : Int) ≤ 1048576 ∧ (k.s : Int) ≤ 33554432) (lv : (v.r : Int) ≤ 1048576 ∧ (v.s : Int) ≤ 33554432)
    (cq : q.r ≤ q.cap ∧ q.s ≤ q.dap) (ck : k.r ≤ k.cap ∧ k.s ≤ k.dap) (cv : v.r ≤ v.cap ∧ v.s ≤ v.dap) (hw : bd win) :
    Calls Try.prog 20 #[.agg #[.slice q.a q.r q.cap, .slice q.b q.s q.dap], .agg #[.slice k.a k.r k.cap, .slice k.b k.s k.dap], .agg #[.slice v.a v.r v.cap, .slice v.b v.s v.dap], .int .i64 win] w fun e w' => TensR w.heap.size (attP q k v win) w e w' := by
  by_cases h : AttOk q k v ∧ 0 ≤ win ∧ win ≤ 4096
  · have h1 := tok_le h.1.1.1
    have h2 := tok_le h.1.2.1.1
    have h3 := tok_le h.1.2.2.1.1
    exact specAttendYes B q k v win w hB hq hk hv ⟨lq.1, by omega⟩ ⟨lk.1, by omega⟩ ⟨lv.1, by omega⟩ cq ck cv h.1 h.2.1 h.2.2
  · exact specAttendNoL B q k v win w hB hq hk hv lq lk lv hw h
end Vo
end Go.Proofs.Ytjlmbeachanlfaa
