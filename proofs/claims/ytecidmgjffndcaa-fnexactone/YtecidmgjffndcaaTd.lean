/- One, its pieces: l4One; the function values; elementwise with two captures. -/
import Derived.Test.YtecidmgjffndcaaTc
import Derived.Test.YtecidmgjffndcaaPow
import Derived.Lib.QuietBelow
namespace Go.Proofs.Ytecidmgjffndcaa
namespace Vo
open Go.ChangeShapes Go.WideShapes Go.ChangeAt Go.RowKit Go.Joins Go.Sort
open Vl Vp Vr
set_option linter.unusedVariables false
set_option linter.unusedSimpArgs false

/-- One of a number -/
def one1 (op x : Int) : Int := if op = 1 then (0 - x) % 2147483647 else if op = 2 then Num.pw (x % 2147483647) 2147483645 else if Base.sg (x % 2147483647) ≤ 0 then 0 else if op = 3 then 1 else x
def isN (x : Int) : Prop := 0 ≤ x ∧ x < 2147483647
theorem l4One (op x : Int) (w : World) (hx : isN x) :
    Calls Try.prog 49 #[.int .i64 op, .int .i64 x] w fun e w' => e = .returned (.int .i64 (one1 op x)) ∧ w' = w := by
  obtain ⟨x0, x1⟩ := hx
  by_cases h1 : op = 1
  · have h1' : (op == 1) = true := beq_iff_eq.2 h1
    have e := hide (show one1 op x = (0 - x) % 2147483647 by unfold one1; rw [if_pos h1])
    clear h1
    go_enter Try.func49, Try.ntmps49
    go_wp2_with fail
    refine (Base.specMinus 0 x _ (by omega) (by omega) (by omega) (by omega)).mono ?_
    rintro e1 w1 ⟨rfl, rfl⟩
    go_wp2_with fail
    go_ret
    exact ⟨ret_int (by rw [e.out]; simp), rfl⟩
  have h1' : (op == 1) = false := beq_eq_false_iff_ne.2 h1
  by_cases h2 : op = 2
  · have h2' : (op == 2) = true := beq_iff_eq.2 h2
    have e := hide (show one1 op x = Num.pw (x % 2147483647) 2147483645 by unfold one1; rw [if_neg h1, if_pos h2])
    clear h1 h2
    go_enter Try.func49, Try.ntmps49
    go_wp2_with fail
    refine (Base.specInverse x _ (by omega) (by omega)).mono ?_
    rintro e1 w1 ⟨rfl, rfl⟩
    go_wp2_with fail
    go_ret
    exact ⟨ret_int (by rw [e.out]), rfl⟩
  have h2' : (op == 2) = false := beq_eq_false_iff_ne.2 h2
  obtain ⟨g, hg⟩ : ∃ g, Base.sg (x % 2147483647) = g := ⟨_, rfl⟩
  have CS := hide (Base.specSigned x w (by omega) (by omega))
  rw [hg] at CS
  by_cases h3 : g ≤ 0
  · have h3' : decide (g ≤ 0) = true := decide_eq_true h3
    have e := hide (show one1 op x = 0 by unfold one1; rw [if_neg h1, if_neg h2, hg, if_pos h3])
    clear h1 h2 h3 hg
    go_enter Try.func49, Try.ntmps49
    go_wp2_with fail
    refine CS.out.mono ?_
    rintro e1 w1 ⟨rfl, rfl⟩
    go_wp2_with fail
    go_ret
    exact ⟨ret_int (by rw [e.out]), rfl⟩
  have h3' : decide (g ≤ 0) = false := decide_eq_false h3
  by_cases h4 : op = 3
  · have h4' : (op == 3) = true := beq_iff_eq.2 h4
    have e := hide (show one1 op x = 1 by unfold one1; rw [if_neg h1, if_neg h2, hg, if_neg h3, if_pos h4])
    clear h1 h2 h3 h4 hg
    go_enter Try.func49, Try.ntmps49
    go_wp2_with fail
    refine CS.out.mono ?_
    rintro e1 w1 ⟨rfl, rfl⟩
    go_wp2_with fail
    go_ret
    exact ⟨ret_int (by rw [e.out]), rfl⟩
  · have h4' : (op == 3) = false := beq_eq_false_iff_ne.2 h4
    have e := hide (show one1 op x = x by unfold one1; rw [if_neg h1, if_neg h2, hg, if_neg h3, if_neg h4])
    clear h1 h2 h3 h4 hg
    go_enter Try.func49, Try.ntmps49
    go_wp2_with fail
    refine CS.out.mono ?_
    rintro e1 w1 ⟨rfl, rfl⟩
    go_wp2_with fail
    go_ret
    exact ⟨ret_int (by rw [e.out]), rfl⟩
/-- a function value that answers one1 op -/
def OneV (op : Int) (F : Nat) : Prop := (∀ args w, (callFunc F args).run Try.prog w = .ok (.enter F args) w) ∧ ∀ x w, isN x → Calls Try.prog F #[.int .i64 x] w fun e w' => e = .returned (.int .i64 (one1 op x)) ∧ w' = w
theorem oneV1 : OneV 1 68 := by
  refine ⟨enters_of Try.func68 (by kernel_rfl) rfl, fun x w hx => ?_⟩
  obtain ⟨x0, x1⟩ := hx
  go_enter Try.func68, Try.ntmps68
  go_wp2_with fail
  refine (Base.implMinus 0 x _ (by omega) (by omega) (by omega) (by omega)).mono ?_
  rintro e1 w1 ⟨rfl, rfl⟩
  go_wp2_with fail
  go_ret
  exact ⟨ret_int (by unfold one1; rw [if_pos rfl]; simp), rfl⟩
theorem oneV2 : OneV 2 70 := by
  refine ⟨enters_of Try.func70 (by kernel_rfl) rfl, fun x w hx => ?_⟩
  obtain ⟨x0, x1⟩ := hx
  refine (Base.implInverse x w (by omega) (by omega)).mono ?_
  rintro e1 w1 ⟨rfl, rfl⟩
  exact ⟨ret_int (by unfold one1; rw [if_neg (by decide), if_pos rfl]), rfl⟩
theorem sg_pos {x : Int} (h0 : 0 ≤ x) (h1 : x < 2147483647) (h : 0 < Base.sg (x % 2147483647)) : Base.sg (x % 2147483647) = x := by
  have e : x % 2147483647 = x := Int.emod_eq_of_lt h0 h1
  rw [e] at h ⊢
  unfold Base.sg at *
  split at h
  · omega
  · rename_i q
    rw [if_neg q]
theorem oneWhen (b : Bool) (w : World) : Calls Try.prog 72 #[.bool b] w fun e w' => e = .returned (.int .i64 (if b = true then 1 else 0)) ∧ w' = w := by
  cases b
  · go_enter Try.func72, Try.ntmps72
    go_wp2_with fail
    go_ret
    exact ⟨rfl, rfl⟩
  · go_enter Try.func72, Try.ntmps72
    go_wp2_with fail
    go_ret
    exact ⟨rfl, rfl⟩
theorem oneV3 : OneV 3 71 := by
  refine ⟨enters_of Try.func71 (by kernel_rfl) rfl, fun x w hx => ?_⟩
  obtain ⟨x0, x1⟩ := hx
  obtain ⟨g, hg⟩ : ∃ g, Base.sg (x % 2147483647) = g := ⟨_, rfl⟩
  have CS := hide (Base.implSigned x w (by omega) (by omega))
  rw [hg] at CS
  have e := hide (show one1 3 x = if decide (0 < g) = true then 1 else 0 by
    unfold one1
    rw [if_neg (by decide), if_neg (by decide), hg]
    by_cases q : g ≤ 0
    · rw [if_pos q, decide_eq_false (by omega)]; rfl
    · rw [if_neg q, if_pos rfl, decide_eq_true (by omega)]; rfl)
  clear hg
  go_enter Try.func71, Try.ntmps71
  go_wp2_with fail
  refine CS.out.mono ?_
  rintro e1 w1 ⟨rfl, rfl⟩
  go_wp2_with fail
  refine (oneWhen _ _).mono ?_
  rintro e1 w1 ⟨rfl, rfl⟩
  rw [← e.out]
  go_wp2_with fail
  go_ret
  exact ⟨rfl, rfl⟩
theorem oneV4 : OneV 4 74 := by
  refine ⟨enters_of Try.func74 (by kernel_rfl) rfl, fun x w hx => ?_⟩
  obtain ⟨x0, x1⟩ := hx
  obtain ⟨g, hg⟩ : ∃ g, Base.sg (x % 2147483647) = g := ⟨_, rfl⟩
  have CS := hide (Base.implSigned x w (by omega) (by omega))
  rw [hg] at CS
  have e := hide (show one1 4 x = max g 0 by
    unfold one1
    rw [if_neg (by decide), if_neg (by decide), hg]
    by_cases q : g ≤ 0
    · rw [if_pos q]; omega
    · rw [if_neg q, if_neg (by decide)]
      have := sg_pos x0 x1 (by omega)
      omega)
  clear hg
  go_enter Try.func74, Try.ntmps74
  go_wp2_with fail
  refine CS.out.mono ?_
  rintro e1 w1 ⟨rfl, rfl⟩
  go_wp2_with fail
  all_goals
    go_ret
    exact ⟨ret_int (by rw [e.out]; first | rfl | omega), rfl⟩
theorem oneOfV (op : Int) (w : World) : ∃ v, (Calls Try.prog 50 #[.int .i64 op] w fun e w' => e = .returned v ∧ w' = w) ∧ ((1 ≤ op ∧ op ≤ 4 ∧ ∃ F, v = .func (.func F) #[] #[] ∧ OneV op F) ∨ (¬ (1 ≤ op ∧ op ≤ 4) ∧ v = .nilFunc)) := by
  by_cases h1 : op = 1
  · subst h1
    exact ⟨_, (by go_enter Try.func50, Try.ntmps50
                  go_wp2_with fail
                  go_ret
                  exact ⟨rfl, rfl⟩), .inl ⟨by omega, by omega, _, rfl, oneV1⟩⟩
  by_cases h2 : op = 2
  · subst h2
    exact ⟨_, (by go_enter Try.func50, Try.ntmps50
                  go_wp2_with fail
                  go_ret
                  exact ⟨rfl, rfl⟩), .inl ⟨by omega, by omega, _, rfl, oneV2⟩⟩
  by_cases h3 : op = 3
  · subst h3
    exact ⟨_, (by go_enter Try.func50, Try.ntmps50
                  go_wp2_with fail
                  go_ret
                  exact ⟨rfl, rfl⟩), .inl ⟨by omega, by omega, _, rfl, oneV3⟩⟩
  by_cases h4 : op = 4
  · subst h4
    exact ⟨_, (by go_enter Try.func50, Try.ntmps50
                  go_wp2_with fail
                  go_ret
                  exact ⟨rfl, rfl⟩), .inl ⟨by omega, by omega, _, rfl, oneV4⟩⟩
  · have g1 : (op == 1) = false := beq_eq_false_iff_ne.2 h1
    have g2 : (op == 2) = false := beq_eq_false_iff_ne.2 h2
    have g3 : (op == 3) = false := beq_eq_false_iff_ne.2 h3
    have g4 : (op == 4) = false := beq_eq_false_iff_ne.2 h4
    refine ⟨.nilFunc, ?_, .inr ⟨by omega, rfl⟩⟩
    clear h1 h2 h3 h4
    go_enter Try.func50, Try.ntmps50
    go_wp2_with fail
    go_ret
    exact ⟨rfl, rfl⟩
set_option maxHeartbeats 1000000 in
theorem elementwise2 (N : Nat) (F : Nat) (c c' : Value) (G : Nat → Int) (w : World) (hN : (N : Int) ≤ 4194304) (hG : ∀ k, k < N → bd (G k)) (eF : ∀ args w, (callFunc F args).run Try.prog w = .ok (.enter F args) w)
    (hf : ∀ (k : Nat) (W : World), k < N → Below w.heap.size w W → Calls Try.prog F #[.int .i64 k, c, c'] W fun e W' => e = .returned (.int .i64 (G k)) ∧ Below W.heap.size W W') :
    Calls Try.prog 39 #[.int .i64 N, .func (.func F) #[] #[c, c']] w fun e w' => e = .returned (.slice (some ⟨w.heap.size, 0, none⟩) N N) ∧ Rw w' w.heap.size N G ∧ w.heap.size < w'.heap.size ∧ Below w.heap.size w w' := by
  have hmk := make_int N (by omega)
  have HF := hide hf
  have HG := hide hG
  clear hf hG
  go_enter Try.func39, Try.ntmps39
  go_wp2_with fail
  go_loopw [11] (fun i wx => ∃ k : Nat, k ≤ N ∧ i = .int .i64 k ∧ Rw wx w.heap.size N (fun t => if t < k then G t else 0) ∧ w.heap.size < wx.heap.size ∧ Below w.heap.size w wx) (fun i _ => N - (intOf i).toNat)
  case atStart => exact ⟨0, Nat.zero_le _, rfl, (rw_new w N _).same (fun t ht => by simp), by simp, (Below.refl _ _).alloc (Nat.le_refl _) _⟩
  case round =>
    obtain ⟨k, hk, rfl, hw, hs, hb⟩ := hrel
    have HW := hide hw
    have HB := hide hb
    clear hw hb
    by_cases hlt : k < N
    · have hkI : (k : Int) < N := by omega
      go_wp2_with fail
      refine (HF.out k _ hlt HB.out).mono ?_
      rintro e w1 ⟨rfl, b1⟩
      have HW1 := hide (HW.out.below b1 hs)
      have HB1 := hide (HB.out.trans (b1.mono HB.out.size))
      have hs1 : w.heap.size < w1.heap.size := Nat.lt_of_lt_of_le hs b1.size
      obtain ⟨c2, f2, _⟩ := HW1.out k hlt
      clear b1
      go_wp2_with fail
      go_roundw
      case rel => exact ⟨k + 1, by omega, by go_num, (HW1.out.set k (G k) (HG.out k hlt)).same (fun t ht => by by_cases c : t = k <;> by_cases c2 : t < k <;> simp [c, c2] <;> omega), by simpa [World.setCell] using hs1, HB1.out.setCell (p := ⟨w.heap.size, k, none⟩) (Nat.le_refl _) _⟩
      case measure => simp [intOf]; omega
    · have e : k = N := by omega
      go_wp2_with fail
      go_ret
      exact ⟨rfl, HW.out.same (fun t ht => by simp; intro; omega), hs, HB.out⟩
set_option maxHeartbeats 1000000 in
theorem onePiece (op : Int) (F : Nat) (hF : OneV op F) (a b : Option Addr) (r s cap dap k Pf Pt : Nat) (S : Nat → Int) (B : Nat) (W : World) (hf : W.cell? ⟨Pf, 0, none⟩ = some (.func (.func F) #[] #[])) (ht : Bx W Pt (.slice a r cap) (.slice b s dap)) (h : Ints B W b s S) (hk : k < s) (hn : isN (S k)) (hs : (s : Int) ≤ 1048576) :
    Calls Try.prog 51 #[.int .i64 k, .pointer (some ⟨Pf, 0, none⟩), .pointer (some ⟨Pt, 0, none⟩)] W fun e W' => e = .returned (.int .i64 (one1 op (S k))) ∧ Below W.heap.size W W' := by
  rcases h with h0 | ⟨b', off, rfl, hbB, hc⟩
  · omega
  have eF := hF.1
  have k0 := cell_regrown hf
  have k1 := cell_regrown ht.2
  have k2 := cell_regrown (hc k hk).1
  have kI : (k : Int) < s := by omega
  have CF := hide (fun (q : Nat) (os : Array Obj) => show Calls Try.prog F #[.int .i64 (S k)] (Sort.grow (redrawn W q) os) (fun e w'' => e = .returned (.int .i64 (one1 op (S k))) ∧ ∃ p : Regrown, w'' = Sort.grow (redrawn W p.d) p.os) from Calls.regrown_of ((hF.2 (S k) _ hn).mono (fun e w' q => ⟨q.1, q.2 ▸ Below.refl _ _⟩)))
  clear hc hF hf ht
  go_enter Try.func51, Try.ntmps51
  go_wp2_with fail
  refine wp_region_quiet_below (by kernel_rfl) (by kernel_rfl) ?_
  repeat (quiet_step (exact CF.out _ _))
  refine wpQuiet_nil ?_
  intro _ hw'
  obtain ⟨⟨dq, osq⟩, hw''⟩ := hw'
  subst hw''
  go_wp2_with fail
  go_ret
  exact ⟨rfl, below_regrown W dq osq⟩
end Vo
end Go.Proofs.Ytecidmgjffndcaa
