/- There and back; Tree of the program. -/
import Derived.Test.YtkllbolamgmmaaaFr
import Derived.Test.YtkllbolamgmmaaaFp
namespace Go.Proofs.Ytkllbolamgmmaaa
namespace Vo
open Go.ChangeShapes Go.WideShapes Go.ChangeAt Go.RowKit Go.Joins Go.Sort
open Vl
set_option linter.unusedVariables false
set_option linter.unusedSimpArgs false
/-- two lists of rows under way, apart from each other -/
structure Two2 (E : Nat) (w : World) (gA nA cA : Nat) (LA : List VM) (gB nB cB : Nat) (LB : List VM) : Prop where
  a : RowsM E w (.slice (some ⟨gA, 0, none⟩) nA cA) LA
  b : RowsM E w (.slice (some ⟨gB, 0, none⟩) nB cB) LB
  la : LA.length = nA
  lb : LB.length = nB
  ne : gA ≠ gB
  ax : ∀ x ∈ LA, ∀ b, Blk x.a x.l.length b → b ≠ gB
  bx : ∀ y ∈ LB, ∀ b, Blk y.a y.l.length b → b ≠ gA
  cross : ∀ x ∈ LA, ∀ y ∈ LB, Apt x y
theorem Apt.symm {x y : VM} (h : Apt x y) : Apt y x := fun b q q' => h b q' q
section
variable {E gA nA cA gB nB cB : Nat} {LA LB : List VM}
theorem Two2.symm {w : World} (h : Two2 E w gA nA cA LA gB nB cB LB) : Two2 E w gB nB cB LB gA nA cA LA :=
  ⟨h.b, h.a, h.lb, h.la, Ne.symm h.ne, h.bx, h.ax, fun x hx y hy => (h.cross y hy x hx).symm⟩
theorem Two2.below {w w' : World} (h : Two2 E w gA nA cA LA gB nB cB LB) (hb : Below w.heap.size w w') : Two2 E w' gA nA cA LA gB nB cB LB :=
  ⟨h.a.below hb, h.b.below hb, h.la, h.lb, h.ne, h.ax, h.bx, h.cross⟩
/-- a row is put behind the first -/
theorem Two2.put {X V1 X3 : World} {l : List Mov} {ra : Option Addr} {c' ln gN c2 : Nat} (h : Two2 E X gA nA cA LA gB nB cB LB) (hb : Below X.heap.size X V1) (hE : E ≤ X.heap.size) (ro : OM X.heap.size V1 ra l) (hl : l.length = ln)
    (hown : X3.ownsRow E 30 1 (.slice (some ⟨gN, 0, none⟩) (nA + 1) c2) (nA + 1) (hdM LA ++ [.slice ra ln c'])) (hg : (V1.alloc (.cells #[.slice ra ln c'] 30)).grownBy X3 (some gA)) (hat : some gA = some gN ∨ gN = V1.heap.size + 1) :
    Two2 E X3 gN (nA + 1) c2 (LA ++ [⟨ra, c', l⟩]) gB nB cB LB ∧ Below E X X3 := by
  have hla := h.la
  subst hla
  subst hl
  have BA : Below V1.heap.size V1 (V1.alloc (.cells #[.slice ra l.length c'] 30)) := (Below.refl _ _).alloc (Nat.le_refl _) _
  have zz := hb.size
  have BX := hb.trans (BA.mono zz)
  have K := keptG hg
  have gl := h.a.heads.lt gA rfl
  have gb := h.b.heads.lt gB rfl
  have vb : ∀ y ∈ LB, ∀ b, Blk y.a y.l.length b → b < X.heap.size := fun y hy b q => ((h.b.own y hy).blk q).2
  refine ⟨⟨h.a.put BX hE (ro.below BA) hown K (hat.imp id Eq.symm) (by simp), (h.b.below BX).kept K (fun b e q => h.ne (by have e : gB = b := Option.some.inj e; have q : gA = b := Option.some.inj q; omega)) (fun y hy b q e => h.bx y hy b q (Option.some.inj e).symm), by rw [List.length_append]; rfl, h.lb, ?_, fun x hx b q => ?_, fun y hy b q => ?_, fun x hx y hy b q q' => ?_⟩, ?_⟩
  · rcases hat with e | e
    · cases e; exact h.ne
    · omega
  · rcases List.mem_append.1 hx with m | m
    · exact h.ax x m b q
    · obtain rfl := List.mem_singleton.1 m
      have := (ro.blk q).1
      omega
  · rcases hat with e | e
    · cases e; exact h.bx y hy b q
    · have := vb y hy b q
      omega
  · rcases List.mem_append.1 hx with m | m
    · exact h.cross x m y hy b q q'
    · obtain rfl := List.mem_singleton.1 m
      have := (ro.blk q).1
      have := vb y hy b q'
      omega
  · exact (BX.mono hE).trans (K.below (by rw [World.size_alloc]; omega) (fun b e => by cases e; exact gl.1))
end
def tabUp (R : List RkV) (k : Nat) : List (List Mov) := (List.range k).map fun j => moa R (2 ^ j) true
def tabDn (R : List RkV) (k : Nat) : List (List Mov) := (List.range k).map fun j => moa R (2 ^ j) false
theorem tabUp_more (R : List RkV) (k : Nat) : tabUp R (k + 1) = tabUp R k ++ [moa R (2 ^ k) true] := range_more _ k
theorem tabDn_more (R : List RkV) (k : Nat) : tabDn R (k + 1) = tabDn R k ++ [moa R (2 ^ k) false] := range_more _ k
/-- there and back over ranks, with rounds between -/
def tabL (R : List RkV) (s : Nat) (M : List (List Mov)) : List (List Mov) := tabUp R s ++ M ++ (tabDn R s).reverse
set_option maxRecDepth 100000 in
set_option maxHeartbeats 2000000 in
theorem tabF (E0 b nR cR nb cb m : Nat) (R : List RkV) (ab : Option Addr) (Lb : List VM) (w : World) (hR : R.length = nR) (h1 : 1 ≤ nR) (n64 : nR ≤ 64) (hr : RkL w b R) (ok : RkOk R) (hm : (rkAt R 0).c = m) (hB : RowsM E0 w (.slice ab nb cb) Lb) (hE : E0 ≤ w.heap.size) (hL : Lb.length = nb) (na : ab = none → nb = 0 ∧ cb = 0) (lb : nb ≤ 200) :
    Calls Try.prog 33 #[.slice (some ⟨b, 0, none⟩) nR cR, .slice ab nb cb] w fun e w' => ∃ a c L, e = .returned (.slice a L.length c) ∧ RowsM E0 w' (.slice a L.length c) L ∧ cnt L = tabL R (scn m) (cnt Lb) ∧ (a = none → L.length = 0 ∧ c = 0) ∧ Below w.heap.size w w' := by
  obtain ⟨i0, hi0, hii⟩ := Option.map_eq_some_iff.1 infoMoveS
  simp only [Prod.mk.injEq] at hii
  obtain ⟨hz0, hz1, hz2⟩ := hii
  have hR0 : 0 < R.length := by omega
  have e0 : rkAt R 0 = R[0] := by unfold rkAt; rw [List.getD_eq_getElem?_getD, List.getElem?_eq_getElem hR0]; rfl
  have m64 : m ≤ 64 := by rw [← hm, e0]; exact (ok _ (List.getElem_mem hR0)).2.2
  have RC := hide (fun (W : World) (hW : Below w.heap.size w W) => show W.cell? ⟨b, 2, none⟩ = some (.int .i64 (m : Int)) from by
    have := ((hr.belowE hW hr.1).2 0 hR0).2.2
    rw [← e0, hm] at this
    exact this)
  obtain ⟨Y, hY⟩ : ∃ Y, (w.alloc (.cells #[] 30)).alloc (.cells #[] 30) = Y := ⟨_, rfl⟩
  have T0 := hide (show Two2 w.heap.size Y w.heap.size 0 0 [] (w.heap.size + 1) 0 0 [] from by
    rw [← hY]
    have r1 := rowsM_new w
    have r2 := rowsM_new (w.alloc (.cells #[] 30))
    rw [World.size_alloc] at r2
    exact ⟨r1.below (by rw [World.size_alloc]; exact (Below.refl _ _).alloc (by simp) _), r2.mono (by omega), rfl, rfl, by omega, fun x hx => by simp at hx, fun x hx => by simp at hx, fun x hx => by simp at hx⟩)
  have BY := hide (show Below w.heap.size w Y by rw [← hY]; exact ((Below.refl _ _).alloc (Nat.le_refl _) _).alloc (by simp) _)
  have HR := hide hr
  have OK := hide ok
  have HB0 := hide hB
  have SL := hide (fun k (hk : k ≤ 6) => scn_lt (k := k) m64 hk)
  have S6 := scn_le m64
  have HLb := hide hL
  have NA := hide na
  have hE2 := hide hE
  obtain ⟨s, hs⟩ : ∃ s, scn m = s := ⟨_, rfl⟩
  rw [hs] at SL S6 ⊢
  have n0I : (0 : Int) < (nR : Int) := by omega
  clear hr ok hB e0 hL na hE hs hR0 hm
  go_enter Try.func33, Try.ntmps33
  go_wp2_with fail
  clear hY
  go_loopw [5, 6, 7] (fun o p h wx => ∃ (k d gA nA cA gB nB cB : Nat) (LA LB : List VM), k ≤ s ∧ d = 2 ^ k ∧ 1 ≤ d ∧ d ≤ 64 ∧ h = .int .i64 d ∧ o = .slice (some ⟨gA, 0, none⟩) nA cA ∧ p = .slice (some ⟨gB, 0, none⟩) nB cB ∧ Two2 w.heap.size wx gA nA cA LA gB nB cB LB ∧ cnt LA = tabUp R k ∧ cnt LB = tabDn R k ∧ Below w.heap.size w wx) (fun _ _ h _ => 100 - (intOf h).toNat)
  case atStart => exact ⟨0, 1, _, _, _, _, _, _, [], [], by omega, rfl, by omega, by omega, rfl, rfl, rfl, T0.out, rfl, rfl, BY.out⟩
  case round =>
    obtain ⟨X, rfl⟩ : ∃ X, X = wr := ⟨_, rfl⟩
    obtain ⟨k, d, gA, nA, cA, gB, nB, cB, LA, LB, hk, hd, d1, d64, rfl, rfl, rfl, ht, hca, hcb, hby⟩ := hrel
    have HD := hide hd
    have HT := hide ht
    have CA := hide hca
    have CB := hide hcb
    have HB := hide hby
    have lA : nA ≤ 10 := by rw [← ht.la, ← cnt_len, hca]; simp [tabUp]; omega
    have lB : nB ≤ 10 := by rw [← ht.lb, ← cnt_len, hcb]; simp [tabDn]; omega
    have zX := hby.size
    have hp := SL.out k (by omega)
    rw [← hd] at hp
    have rc := RC.out X hby
    clear ht hca hcb hby hd
    by_cases hdm : d < m
    case neg =>
      obtain rfl : k = s := by have := mt hp.2 hdm; omega
      have qI : decide ((d : Int) < (m : Int)) = false := decide_eq_false (by omega)
      have qI' : decide (d < m) = false := decide_eq_false hdm
      have RV := hide (fun (W : World) (h : RowsM w.heap.size W (.slice (some ⟨gB, 0, none⟩) nB cB) LB) => reverseF w.heap.size nB cB gB LB W HT.out.lb h (by omega))
      clear hp hdm
      go_wp2_with fail
      refine (RV.out X HT.out.b).mono ?_
      rintro e W2 ⟨rfl, rb, kb⟩
      have RB := hide rb
      have RA := hide (HT.out.a.kept kb (fun b e q => HT.out.ne ((Option.some.inj e).trans q)) (fun x hx b q e => HT.out.ax x hx b q e))
      have BB := hide (HB.out.trans (kb.below zX (fun b e => by have := (HT.out.b.heads.lt gB rfl).1; have e : b = gB := e; omega)))
      have zW := BB.out.size
      have LNA := hide HT.out.la
      have LNB := hide (show LB.reverse.length = nB by rw [List.length_reverse]; exact HT.out.lb)
      have RL := hide (HB0.out.below BB.out)
      obtain ⟨W4, hW4⟩ : ∃ W4, W2.alloc (.cells #[.slice (some ⟨gA, 0, none⟩) nA cA, .slice ab nb cb, .slice (some ⟨gB, 0, none⟩) nB cB] 22) = W4 := ⟨_, rfl⟩
      have b4 : Below W2.heap.size W2 W4 := by rw [← hW4]; exact (Below.refl _ _).alloc (Nat.le_refl _) _
      have c4 : W4.cell? ⟨W2.heap.size, 0, none⟩ = some (.slice (some ⟨gA, 0, none⟩) nA cA) ∧ W4.cell? ⟨W2.heap.size, 1, none⟩ = some (.slice ab nb cb) ∧ W4.cell? ⟨W2.heap.size, 2, none⟩ = some (.slice (some ⟨gB, 0, none⟩) nB cB) := by
        rw [← hW4]
        exact ⟨by simp [go_sem], by simp [go_sem], by simp [go_sem]⟩
      have z4 : W2.heap.size < W4.heap.size := by rw [← hW4]; simp
      have P1 := hide (RA.out.below b4)
      have P2 := hide (RL.out.below b4)
      have P3 := hide (RB.out.below b4)
      have B4 := hide (BB.out.trans (b4.mono zW))
      have hE := hE2.out
      have CC := hide (concatMM W4.heap.size W2.heap.size 0 3 3 (rps [⟨some ⟨gA, 0, none⟩, cA, LA⟩, ⟨ab, cb, Lb⟩, ⟨some ⟨gB, 0, none⟩, cB, LB.reverse⟩]) W4 (Nat.le_refl _)
        (rls_of (E := E0) (ps := [⟨some ⟨gA, 0, none⟩, cA, LA⟩, ⟨ab, cb, Lb⟩, ⟨some ⟨gB, 0, none⟩, cB, LB.reverse⟩]) z4 (fun i hi => by
          have hi : i < 3 := hi
          rcases (by omega : i = 0 ∨ i = 1 ∨ i = 2) with rfl | rfl | rfl
          · show W4.cell? ⟨W2.heap.size, 0, none⟩ = some (.slice _ LA.length _)
            rw [LNA.out]; exact c4.1
          · show W4.cell? ⟨W2.heap.size, 1, none⟩ = some (.slice _ Lb.length _)
            rw [HLb.out]; exact c4.2.1
          · show W4.cell? ⟨W2.heap.size, 2, none⟩ = some (.slice _ LB.reverse.length _)
            rw [LNB.out]; exact c4.2.2)
          (fun p hp => by
            rcases List.mem_cons.1 hp with rfl | hp
            · show RowsM _ _ (.slice _ LA.length _) _
              rw [LNA.out]; exact P1.out.mono hE
            · rcases List.mem_cons.1 hp with rfl | hp
              · show RowsM _ _ (.slice _ Lb.length _) _
                rw [HLb.out]; exact P2.out
              · obtain rfl := List.mem_singleton.1 hp
                show RowsM _ _ (.slice _ LB.reverse.length _) _
                rw [LNB.out]; exact P3.out.mono hE)
          (fun p hp e => by
            rcases List.mem_cons.1 hp with rfl | hp
            · simp at e
            · rcases List.mem_cons.1 hp with rfl | hp
              · have := NA.out e
                exact ⟨HLb.out.trans this.1, this.2⟩
              · obtain rfl := List.mem_singleton.1 hp
                simp at e)) (by decide) (by
            show ((0 + LA.length + Lb.length + LB.reverse.length : Nat) : Int) ≤ _
            rw [LNA.out, HLb.out, LNB.out]; omega))
      clear b4 c4 z4 rb kb rc
      go_wp2_with fail
      refine CC.out.mono ?_
      rintro e w5 ⟨v, rfl, ow, q5⟩
      have LEN : (LA ++ Lb ++ LB.reverse).length = 0 + LA.length + Lb.length + LB.reverse.length := by rw [List.length_append, List.length_append]; omega
      have OW : w5.ownsRow W4.heap.size 30 1 v (LA ++ Lb ++ LB.reverse).length (hdM (LA ++ Lb ++ LB.reverse)) := by
        rw [LEN, hdM_app, hdM_app]
        have : rcat (rps [⟨some ⟨gA, 0, none⟩, cA, LA⟩, ⟨ab, cb, Lb⟩, ⟨some ⟨gB, 0, none⟩, cB, LB.reverse⟩]) 3 = hdM LA ++ hdM Lb ++ hdM LB.reverse := by
          show (([] ++ hdM LA) ++ hdM Lb) ++ hdM LB.reverse = _
          simp
        rw [← this]
        exact ow
      have lowB : ∀ x ∈ Lb, ∀ b, Blk x.a x.l.length b → b < w.heap.size := fun x hx b q => ((HB0.out.own x hx).blk q).2
      have AP : (LA ++ Lb ++ LB.reverse).Pairwise Apt := by
        refine List.pairwise_append.2 ⟨List.pairwise_append.2 ⟨HT.out.a.apart, HB0.out.apart, fun x hx y hy b q q' => ?_⟩, RB.out.apart, fun x hx y hy => ?_⟩
        · have := ((HT.out.a.own x hx).blk q).1
          have := lowB y hy b q'
          omega
        · have hy := List.mem_reverse.1 hy
          rcases List.mem_append.1 hx with m | m
          · exact HT.out.cross x m y hy
          · intro b q q'
            have := ((HT.out.b.own y hy).blk q').1
            have := lowB x m b q
            omega
      have RR := hide (rowsM_cat (E := E0) OW (fun x hx => by
        rcases List.mem_append.1 hx with m | m
        · rcases List.mem_append.1 m with m | m
          · exact (P1.out.own x m).mono hE
          · exact P2.out.own x m
        · exact (P3.out.own x m).mono hE) AP q5 (Nat.le_trans hE B4.out.size))
      have BF := hide (B4.out.trans (q5.mono B4.out.size))
      have CN := hide (show cnt (LA ++ Lb ++ LB.reverse) = tabL R k (cnt Lb) by
        unfold tabL
        rw [cnt_app, cnt_app, CA.out, ← CB.out]
        simp [cnt])
      obtain ⟨a, c, hv⟩ := RR.out.slice
      subst hv
      have AN := hide (show a = none → (LA ++ Lb ++ LB.reverse).length = 0 ∧ c = 0 from fun e => by
        subst e
        rcases OW.2 with ⟨e1, e2⟩ | ⟨g, _, _, e1, _⟩
        · injection e1 with _ e3 e4
          exact ⟨e3, e4⟩
        · injection e1 with e3
          cases e3)
      obtain ⟨LL, hLL⟩ : ∃ LL, LA ++ Lb ++ LB.reverse = LL := ⟨_, rfl⟩
      rw [hLL] at RR CN AN
      have EL := hide (congrArg List.length hLL)
      clear OW ow CC LEN AP hLL
      go_wp2_with fail
      go_ret
      exact ⟨a, c, LL, by rw [← EL.out]; simp, RR.out, CN.out, AN.out, BF.out⟩
    have hk2 := hp.1 hdm
    have qI : (d : Int) < (m : Int) := by omega
    have w2 : IntKind.i64.wrap ((d : Int) * 2) = (d : Int) * 2 := by rw [IntKind.wrap_i64]; omega
    have HS := hide (show d * 2 = 2 ^ (k + 1) by rw [HD.out, Nat.pow_succ])
    have D64 := hide (show d * 2 ≤ 64 by
      have : 2 ^ (k + 1) ≤ 2 ^ 6 := Nat.pow_le_pow_right (by omega) (by omega)
      rw [HS.out]; exact this)
    have CM := hide (fun (W : World) (hW : Below w.heap.size w W) (add : Bool) => moaF R b nR cR d add W hR (HR.out.belowE hW HR.out.1) OK.out n64 d1 d64)
    have E1 := hide (show moa R d true = moa R (2 ^ k) true by rw [HD.out])
    have E2 := hide (show moa R d false = moa R (2 ^ k) false by rw [HD.out])
    have CT := hide (CM.out X HB.out true)
    obtain ⟨l1, hl1⟩ : ∃ l, moa R d true = l := ⟨_, rfl⟩
    rw [hl1] at CT E1
    obtain ⟨n1, hn1⟩ : ∃ n, l1.length = n := ⟨_, rfl⟩
    rw [hn1] at CT
    have LN1 := hide hn1
    clear hl1 hn1 hp hdm
    go_wp2_with fail
    refine CT.out.mono ?_
    rintro e V1 ⟨ga, ca, rfl, oa, q⟩
    have OA := hide oa
    have QB := hide q
    have HH := hide (show V1.ownsRow w.heap.size 30 1 (.slice (some ⟨gA, 0, none⟩) nA cA) nA (hdM LA) by have := (HT.out.a.below q).heads; rw [HT.out.la] at this; exact this)
    have zV := q.size
    clear oa q CT rc
    go_wp2_with (at_builtin; refine wpList_append_lies _ rfl _ _ 22 rfl w.heap.size 30 i0 (.slice none 0 0) 1 24 Try.underlying22 hi0 hz0 hz1 hz2 rfl (by decide) _ _ _ rfl (HH.out.alloc _) ⟨V1.heap.size, 0, none⟩ 1 1 [.slice ga n1 ca] rfl rfl (World.news_of_block (cs := #[.slice ga n1 ca]) (t := 30) (fr := (0, 0)) (heap_alloc_new V1 _)) (by simp [Value.oneCell']) (by omega) (by unfold maxLen; omega) (by omega) (by simp; omega) (V1.heap.size + 1) (by simp) ?_; intro gN c2 X3 hown1 hgrow1 hat hlt3)
    obtain ⟨t3, bb3⟩ := HT.out.put QB.out zX OA.out LN1.out hown1 hgrow1 hat
    have T3 := hide t3
    have B3 := hide (HB.out.trans bb3)
    have z3 := B3.out.size
    have CA3 := hide (show cnt (LA ++ [⟨ga, ca, l1⟩]) = tabUp R (k + 1) by rw [cnt_app, CA.out, tabUp_more, ← E1.out]; rfl)
    obtain ⟨LA3, hLA3⟩ : ∃ L, LA ++ [(⟨ga, ca, l1⟩ : VM)] = L := ⟨_, rfl⟩
    rw [hLA3] at T3 CA3
    have CT := hide (CM.out X3 B3.out false)
    obtain ⟨l2, hl2⟩ : ∃ l, moa R d false = l := ⟨_, rfl⟩
    rw [hl2] at CT E2
    obtain ⟨n2, hn2⟩ : ∃ n, l2.length = n := ⟨_, rfl⟩
    rw [hn2] at CT
    have LN2 := hide hn2
    clear hl2 hn2 t3 bb3 hown1 hgrow1 hat hlt3 HH OA QB HT HB CA hLA3 E1 CM
    go_wp2_with fail
    refine CT.out.mono ?_
    rintro e V2 ⟨gb, cb2, rfl, oa, q⟩
    have OA := hide oa
    have QB := hide q
    have HH := hide (show V2.ownsRow w.heap.size 30 1 (.slice (some ⟨gB, 0, none⟩) nB cB) nB (hdM LB) by have := (T3.out.b.below q).heads; rw [T3.out.lb] at this; exact this)
    have zV2 := q.size
    clear oa q CT
    go_wp2_with (at_builtin; refine wpList_append_lies _ rfl _ _ 22 rfl w.heap.size 30 i0 (.slice none 0 0) 1 24 Try.underlying22 hi0 hz0 hz1 hz2 rfl (by decide) _ _ _ rfl (HH.out.alloc _) ⟨V2.heap.size, 0, none⟩ 1 1 [.slice gb n2 cb2] rfl rfl (World.news_of_block (cs := #[.slice gb n2 cb2]) (t := 30) (fr := (0, 0)) (heap_alloc_new V2 _)) (by simp [Value.oneCell']) (by omega) (by unfold maxLen; omega) (by omega) (by simp; omega) (V2.heap.size + 1) (by simp) ?_; intro gM c3 X5 hown1 hgrow1 hat hlt3)
    obtain ⟨t5, bb5⟩ := T3.out.symm.put QB.out z3 OA.out LN2.out hown1 hgrow1 hat
    have T5 := hide t5.symm
    have B5 := hide (B3.out.trans bb5)
    have CB5 := hide (show cnt (LB ++ [⟨gb, cb2, l2⟩]) = tabDn R (k + 1) by rw [cnt_app, CB.out, tabDn_more, ← E2.out]; rfl)
    clear t5 bb5 hown1 hgrow1 hat hlt3 HH OA QB T3 B3 CB E2
    go_roundw
    case rel => exact ⟨k + 1, d * 2, gN, nA + 1, c2, gM, nB + 1, c3, LA3, _, by omega, HS.out, by omega, D64.out, by go_num, rfl, rfl, T5.out, CA3.out, CB5.out, B5.out⟩
    case measure => simp [intOf]; omega
end Vo
end Go.Proofs.Ytkllbolamgmmaaa
