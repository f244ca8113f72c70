/- ReadTensor of the model. -/
import Derived.Test.YtbbmbgjjhaajjaaGreatDoorKc
import Derived.Test.YtbbmbgjjhaajjaaGreatDoorTc
import Derived.Deep.RegionLaw
import Derived.Deep.DeepCutAuto
import Derived.Lib.SlicesS
namespace Go.Proofs.YtbbmbgjjhaajjaaGreatDoor
namespace Vo
open Go.ChangeShapes Go.WideShapes Go.ChangeAt Go.RowKit Go.Joins Go.Sort
open Vl Vp Txt
set_option linter.unusedVariables false
set_option linter.unusedSimpArgs false
/-- how a call of ReadTensor at a text ends -/
def RdR (l : List UInt8) (w : World) (e : Ending) (w' : World) : Prop :=
  ∃ (v : PT) (b : Bool) (a : Option Addr) (c : Nat) (a' : Option Addr) (c' : Nat), ((b = true ∧ TR l v.r v.s v.D v.S) ∨ (b = false ∧ v = PT.zero ∧ ∀ r s D S, ¬ TR l r s D S)) ∧
    e = .returned (.tuple #[.agg #[.slice a v.r c, .slice a' v.s c'], .bool b]) ∧ VOwn w.heap.size w' a a' v.r v.s v.D v.S ∧ Below w.heap.size w w'
theorem rdR_no {l : List UInt8} {w w' : World} (h : ∀ r s D S, ¬ TR l r s D S) (hb : Below w.heap.size w w') : RdR l w (.returned (.tuple #[.agg #[.slice none 0 0, .slice none 0 0], .bool false])) w' :=
  ⟨PT.zero, false, none, 0, none, 0, .inr ⟨rfl, rfl, h⟩, rfl, ⟨.inl rfl, .inl rfl, fun k h => absurd rfl h.1⟩, hb⟩
theorem rdR_yes {l : List UInt8} {w w' : World} {a a' : Option Addr} {r s c c' : Nat} {D S : Nat → Int} (h : TR l r s D S) (ho : VOwn w.heap.size w' a a' r s D S) (hb : Below w.heap.size w w') : RdR l w (.returned (.tuple #[.agg #[.slice a r c, .slice a' s c'], .bool true])) w' :=
  ⟨⟨r, s, D, S⟩, true, a, c, a', c', .inl ⟨rfl, h⟩, rfl, ho, hb⟩
/-- a row of texts that is read -/
def TxL (w : World) (v : Value) (g : Nat) (L : List (List UInt8)) : Prop := (∃ c, v = .slice (some ⟨g, 0, none⟩) L.length c) ∧ g < w.heap.size ∧ ∀ t, t < L.length → w.cell? ⟨g, t, none⟩ = some (.string ⟨(L.getD t []).toArray⟩)
theorem txL_of {w : World} {B : Nat} {v : Value} {L : List (List UInt8)} (h : w.ownsRow B 9 1 v L.length (strV L)) (hn : 0 < L.length) : ∃ g, B ≤ g ∧ TxL w v g L := by
  have h0 := h
  obtain ⟨_, ⟨_, e⟩ | ⟨g, cap, cur, rfl, hg, hh, rest⟩⟩ := h
  · omega
  · refine ⟨g, hg, ⟨cap, rfl⟩, ?_, fun t ht => ?_⟩
    · rcases Nat.lt_or_ge g w.heap.size with h' | h'
      · exact h'
      · rw [Array.getElem?_eq_none h'] at hh; cases hh
    · rw [h0.cellAt t (by omega)]
      exact strV_at ht
theorem TxL.kept {T : Nat → Prop} {w w' : World} {v : Value} {g : Nat} {L : List (List UInt8)} (h : TxL w v g L) (hk : Kept T w w') (hn : ¬ T g) : TxL w' v g L :=
  ⟨h.1, Nat.lt_of_lt_of_le h.2.1 hk.size, fun t ht => (World.cell?_of_block (w := w) (a := ⟨g, t, none⟩) (hk.block g h.2.1 hn)).trans (h.2.2 t ht)⟩
theorem TxL.below {w w' : World} {v : Value} {g : Nat} {L : List (List UInt8)} (h : TxL w v g L) (hb : Below w.heap.size w w') : TxL w' v g L := h.kept (Kept.of_below (S := fun _ => False) hb) (fun q => q)
theorem text_short {l : List UInt8} (L : List (List UInt8)) (h : ∀ x ∈ L, x.length ≤ l.length) (t : Nat) : (L.getD t []).length ≤ l.length := by
  by_cases ht : t < L.length
  · have : L.getD t [] = L[t] := by simp [List.getD, ht]
    rw [this]
    exact h _ (List.getElem_mem _)
  · have : L.getD t [] = [] := by simp [List.getD, List.getElem?_eq_none (Nat.le_of_not_lt ht)]
    rw [this]
    exact Nat.zero_le _
theorem wds_short (l : List UInt8) : ∀ x ∈ wds l, x.length ≤ l.length := by
  have key : ∀ (T : List UInt8) (a : List (List UInt8) × List UInt8) (n : Nat), (∀ x ∈ a.1 ++ [a.2], x.length ≤ n) → ∀ x ∈ (T.foldl scS a).1 ++ [(T.foldl scS a).2], x.length ≤ n + T.length := by
    intro T
    induction T with
    | nil => intro a n h; exact h
    | cons c T ih =>
      intro a n h x hx
      rw [List.foldl_cons] at hx
      have := ih (scS a c) (n + 1) (fun y hy => by
        unfold scS at hy
        split at hy
        · simp only [List.append_assoc, List.mem_append, List.mem_singleton] at hy
          rcases hy with q | q | q
          · have := h y (by simp [q]); omega
          · have := h y (by simp [q]); omega
          · rw [q]; simp
        · simp only [List.mem_append, List.mem_singleton] at hy
          rcases hy with q | q
          · have := h y (by simp [q]); omega
          · have := h a.2 (by simp)
            rw [q]; simp only [List.length_append, List.length_cons, List.length_nil]; omega) x hx
      simp only [List.length_cons]
      omega
  intro x hx
  have := key l ([], []) 0 (by simp) x hx
  omega
theorem b91 {c : UInt8} {n : Nat} (hn : n < 256) : c = UInt8.ofNat n ↔ (c.toNat : Int) = n := by
  constructor
  · rintro rfl
    rw [UInt8.toNat_ofNat', Nat.mod_eq_of_lt hn]
  · intro h
    apply UInt8.toNat_inj.1
    rw [UInt8.toNat_ofNat', Nat.mod_eq_of_lt hn]
    omega
/-- the numbers of the model -/
def Sm (l : List UInt8) (e k : Nat) : Int := Base.guessL ((Tl l e).getD (k + 1) [])
theorem rowv_none (B : Nat) (w : World) (D : Nat → Int) : RowV B w (.slice none 0 0) 0 D := ⟨⟨rfl, .inl ⟨rfl, rfl⟩⟩, fun j hj => by omega⟩
theorem dm_bd (l : List UInt8) (e k : Nat) : 0 ≤ Dm l e k ∧ Dm l e k ≤ 9999 := by
  unfold Dm
  have := whole_le ((Hl l e).getD k [])
  omega
theorem ext_toList (s : ByteArray) (f k : Nat) : (s.extract f k).data.toList = (s.data.toList.take k).drop f := by rw [ext_list]
theorem list_toList (l : List UInt8) : (⟨l.toArray⟩ : ByteArray).data.toList = l := by simp
theorem list_len (l : List UInt8) : (⟨l.toArray⟩ : ByteArray).size = l.length := by rw [Lib.size_eq, list_toList]
theorem row_own2 {B B2 : Nat} {w : World} {a a' : Option Addr} {r s c c' : Nat} {D S : Nat → Int} {w0 : Nat} (h : RowV B w (.slice a r c) r D) (h' : RowV B2 w (.slice a' s c') s S) (hB : w0 ≤ B) (hB2 : w0 ≤ B2) (hlt : ∀ k, (Value.slice a r c).ownBlock = some k → k < B2) : VOwn w0 w a a' r s D S := by
  obtain ⟨x, y, e, o⟩ := h.own
  obtain ⟨x', y', e', o'⟩ := h'.own
  cases e
  cases e'
  refine ⟨o.mono hB, o'.mono hB2, fun k q q' => ?_⟩
  obtain ⟨_, ad, rfl, rfl⟩ := q
  obtain ⟨hr, ad', rfl, e2⟩ := q'
  have h1 := hlt ad.block rfl
  have h2 := (h'.lt (k := ad'.block) rfl).1
  omega
theorem step_call1 {P : Program} {ops : Array Oper} {o : Oper} {a : Act} {w : World} {K : Act → World → Prop} {Q : Exit → Act → World → Prop} {E : Prop} (hgd : o.guard = none) (f : FuncId) (x : Operand) (t : TypeId)
    (ho : o.op = .call { callee := .value (.func f), args := #[x], argTypes := #[t] }) (eg : ∀ args w, (callFunc f args).run P w = .ok (.enter f args) w) (v : Value) (hx : a.eval x = v) (R : Value → World → Prop)
    (hc : Calls P f #[v] w fun e w' => ∃ u, e = .returned u ∧ R u w') (h : ∀ u w', R u w' → K (a.put o.dst u) w') : if Region.wanted o (yielded ops a.tmps) = true then Oper.wp P o a w K Q else E := by
  have hw : Region.wanted o (yielded ops a.tmps) = true := by simp [Region.wanted, hgd]
  rw [if_pos hw]
  have he : (execOp a.eval o).run P w = .ok (.enter f #[v]) w := by
    unfold execOp
    have hx2 : (#[x] : Array Operand).map a.eval = #[v] := by simp [hx]
    simp [ho, resolve, invoke, go_sem, hx, hx2, eg, Act.eval]
  unfold Oper.wp
  rw [he, Oper.upon_enter]
  refine hc.mono ?_
  rintro e w' ⟨u, rfl, hr⟩
  exact h u w' hr
theorem bx_set0' {w : World} {p : Nat} {v0 v1 : Value} (h : Bx w p v0 v1) (u0 : Value) : Bx (w.setCell ⟨p, 0, none⟩ u0) p u0 v1 := by
  refine ⟨World.cell?_setCell_same _ _ _ h.1, ?_⟩
  rw [World.cell?_setCell_other _ _ _ _ (by intro e; cases e)]
  exact h.2
theorem own_form {w : World} {B n z : Nat} {t : TypeId} {v : Value} {xs : List Value} (h : w.ownsRow B t z v n xs) : ∃ a c, v = .slice a n c := by
  obtain ⟨_, ⟨rfl, rfl⟩ | ⟨g, cap, cur, rfl, _⟩⟩ := h
  · exact ⟨none, 0, rfl⟩
  · exact ⟨_, _, rfl⟩
theorem bx_set1' {w : World} {p : Nat} {v0 v1 : Value} (h : Bx w p v0 v1) (u1 : Value) : Bx (w.setCell ⟨p, 1, none⟩ u1) p v0 u1 := by
  refine ⟨?_, ?_⟩
  · rw [World.cell?_setCell_other _ _ _ _ (by intro e; cases e)]; exact h.1
  · rw [World.cell?_setCell_same _ _ _ h.2]
theorem dok_same' {r : Nat} {D E : Nat → Int} (h : ∀ j, j < r → D j = E j) : dok r D = dok r E := by
  rw [Bool.eq_iff_iff, dok_iff, dok_iff, szR_same h]
set_option maxRecDepth 100000 in
set_option maxHeartbeats 4000000 in
theorem specReadTensor (s : ByteArray) (hs : (s.size : Int) ≤ 1048576) (w : World) : Calls Tryz.prog 5 #[.string s] w fun e w' => RdR s.data.toList w e w' := by
  have hl : s.data.toList.length = s.size := (Lib.size_eq s).symm
  have BD := hide (fun (r k : Nat) (D S : Nat → Int) (h : TR s.data.toList r k D S) => (show 2 ≤ s.size ∧ s.size ≤ 65536 ∧ s.data.toList[0]? = some 91 ∧ ∃ e, MD s.data.toList e r k D S by
    obtain ⟨e, m, q1, q2⟩ := h.md
    rw [hl] at q1 q2
    exact ⟨q1, q2, m.2.2.1, e, m⟩))
  have M0 := hide (bx_new w (.slice none 0 0) (.slice none 0 0) 24)
  obtain ⟨i0, hi0, hz0, hz1, hz2⟩ := info_parts infoInt
  obtain ⟨y0, y1⟩ := M0.out
  by_cases c1 : s.size < 2
  · have n1 : (s.size : Int) < 2 := by omega
    have NO := hide (show ∀ r k D S, ¬ TR s.data.toList r k D S from fun r k D S h => by have := BD.out r k D S h; omega)
    clear BD hl
    go_enter Tryz.func5, Tryz.ntmps5
    go_wp2_with fail
    refine bodyPost_ret (v := .tuple #[.agg #[.slice none 0 0, .slice none 0 0], .bool false]) (by simp [results, Tryz.results5, go_sem, y0, y1]) rfl (rdR_no NO.out ?_)
    repeat (refine Below.setCell ?_ (by simp) _)
    exact (Below.refl _ _).alloc (Nat.le_refl _) _
  have p0 : 0 < s.size := by omega
  have n1 : ¬ (s.size : Int) < 2 := by omega
  by_cases c2 : 65536 < s.size
  · have n2 : (65536 : Int) < (s.size : Int) := by omega
    have NO := hide (show ∀ r k D S, ¬ TR s.data.toList r k D S from fun r k D S h => by have := BD.out r k D S h; omega)
    clear BD hl
    go_enter Tryz.func5, Tryz.ntmps5
    go_wp2_with fail
    refine bodyPost_ret (v := .tuple #[.agg #[.slice none 0 0, .slice none 0 0], .bool false]) (by simp [results, Tryz.results5, go_sem, y0, y1]) rfl (rdR_no NO.out ?_)
    repeat (refine Below.setCell ?_ (by simp) _)
    exact (Below.refl _ _).alloc (Nat.le_refl _) _
  have n2 : ¬ (65536 : Int) < (s.size : Int) := by omega
  have n2' : (s.size : Int) ≤ 65536 := by omega
  have p0' : (0 : Int) < (s.size : Int) := by omega
  by_cases c3 : s[0] = 91
  rotate_left
  · have n3 : ¬ ((s[0]'p0).toNat : Int) = 91 := fun q => c3 ((b91 (n := 91) (by omega)).2 q)
    have n3' : (((s[0]'p0).toNat : Int) == 91) = false := beq_eq_false_iff_ne.2 n3
    have NO := hide (show ∀ r k D S, ¬ TR s.data.toList r k D S from fun r k D S h => by
      have q := (BD.out r k D S h).2.2.1
      rw [byte_at p0] at q
      exact c3 (Option.some.inj q))
    clear BD hl c3
    go_enter Tryz.func5, Tryz.ntmps5
    go_wp2_with fail
    refine bodyPost_ret (v := .tuple #[.agg #[.slice none 0 0, .slice none 0 0], .bool false]) (by simp [results, Tryz.results5, go_sem, y0, y1]) rfl (rdR_no NO.out ?_)
    repeat (refine Below.setCell ?_ (by simp) _)
    exact (Below.refl _ _).alloc (Nat.le_refl _) _
  have n3' : (((s[0]'p0).toNat : Int) == 91) = true := beq_iff_eq.2 ((b91 (n := 91) (by omega)).1 c3)
  have H91 := hide (show s.data.toList[0]? = some 91 by rw [byte_at p0, c3])
  clear c3
  go_enter Tryz.func5, Tryz.ntmps5
  go_wp2_with fail
  go_loop [4] (fun i => ∃ j : Nat, j ≤ s.size ∧ i = .int .i64 (j : Int) ∧ ∀ k, k < j → s.data.toList[k]? ≠ some 93) (fun i => s.size - (intOf i).toNat)
  case atStart => exact ⟨0, Nat.zero_le _, rfl, fun k hk => by omega⟩
  case round =>
    obtain ⟨j, hj, rfl, hno⟩ := hrel
    have N93 := hide hno
    clear hno
    by_cases hlt : j < s.size
    · have jI : (j : Int) < (s.size : Int) := by omega
      by_cases c4 : s[j] = 93
      · have e4 : (((s[j]'hlt).toNat : Int) == 93) = true := beq_iff_eq.2 ((b91 (n := 93) (by omega)).1 c4)
        have e5 : ((j : Int) == (s.size : Int)) = false := beq_eq_false_iff_ne.2 (by omega)
        have e6 : (j == s.size) = false := beq_eq_false_iff_ne.2 (by omega)
        have AT := hide (show s.data.toList[j]? = some 93 by rw [byte_at hlt, c4])
        clear c4
        have hj1 : 1 ≤ j := by
          rcases Nat.eq_zero_or_pos j with q | q
          · subst q
            have := AT.out
            rw [H91.out] at this
            exact absurd this (by decide)
          · exact q
        have z0 := hide (bx_new (w.alloc (.cells #[.slice none 0 0, .slice none 0 0] 24)) (.slice none 0 0) (.slice none 0 0) 24)
        obtain ⟨W, hW⟩ : ∃ W, (w.alloc (.cells #[.slice none 0 0, .slice none 0 0] 24)).alloc (.cells #[.slice none 0 0, .slice none 0 0] 24) = W := ⟨_, rfl⟩
        have zW : W.heap.size = w.heap.size + 2 := by rw [← hW]; simp
        have zA := hide zW
        have zW1 : w.heap.size + 2 ≤ W.heap.size := by omega
        have M1 := hide (show Bx W w.heap.size (.slice none 0 0) (.slice none 0 0) by rw [← hW]; exact M0.out.below ((Below.refl _ _).alloc (Nat.le_refl _) _) (by simp))
        have N1 := hide (show Bx W (w.heap.size + 1) (.slice none 0 0) (.slice none 0 0) by
          have := z0.out
          rw [hW] at this
          simpa using this)
        have G1 := hide (show Free W w.heap.size by rw [← hW]; intro i; simp [go_sem])
        have F1 := hide (show Free W (w.heap.size + 1) by rw [← hW]; intro i; simp [go_sem])
        have BB1 := hide (show Below w.heap.size w W by rw [← hW]; exact ((Below.refl _ _).alloc (Nat.le_refl _) _).alloc (by simp) _)
        have HWe := hide hW
        clear z0 zW y0 y1 M0 hW
        by_cases c5 : 1 < j
        · have d5 : (1 : Int) < (j : Int) := by omega
          go_wp2_with fail
          rw [HWe.out]
          clear HWe
          have XB1 := hide (show (s.extract 1 j).data.toList = (s.data.toList.take j).drop 1 from ext_toList s 1 j)
          have es1 : ((s.extract 1 j).size : Int) ≤ 1048576 := by rw [ByteArray.size_extract]; omega
          have EH := hide (show wds ((s.data.toList.take j).drop 1) = Hl s.data.toList j by unfold Hl; rw [if_pos c5])
          have WD1 := hide (words (s.extract 1 j) es1 W)
          rw [XB1.out, EH.out] at WD1
          have hlen0 : 0 < (Hl s.data.toList j).length := by rw [← EH.out]; exact wds_ne _
          have hlen1 : (Hl s.data.toList j).length ≤ s.size + 1 := by
            have q := wds_len ((s.data.toList.take j).drop 1)
            rw [List.length_drop, List.length_take, hl, EH.out] at q
            omega
          have HSH := hide (show ∀ t, ((Hl s.data.toList j).getD t []).length ≤ 1048576 from fun t => by
            have q := text_short (l := (s.data.toList.take j).drop 1) (Hl s.data.toList j) (by rw [← EH.out]; exact wds_short _) t
            rw [List.length_drop, List.length_take, hl] at q
            omega)
          clear es1 XB1 EH c5
          generalize s.extract 1 j = hx at WD1 ⊢
          refine WD1.out.mono ?_
          rintro e W1 ⟨v1, rfl, o1, b1⟩
          obtain ⟨g1, hg1, X1⟩ := txL_of (L := Hl s.data.toList j) o1 hlen0
          clear o1 WD1
          have TX1 := hide X1
          have g1lt := hide X1.2.1
          obtain ⟨⟨c1', rfl⟩, -, -⟩ := X1
          have z1 := b1.size
          have M2 := hide (M1.out.below b1 (by omega))
          have G2 := hide (G1.out.below b1 (by omega))
          have N2 := hide (N1.out.below b1 (by omega))
          have F2 := hide (F1.out.below b1 (by omega))
          have BB2 := hide (BB1.out.trans (b1.mono BB1.out.size))
          clear b1 M1 G1 N1 F1 BB1
          obtain ⟨n, hn⟩ : ∃ n, (Hl s.data.toList j).length = n := ⟨_, rfl⟩
          have HR := hide hn
          rw [hn] at TX1 hlen0 hlen1 ⊢
          clear hn
          go_wp2_with fail
          go_loopw [7] (fun i wx => ∃ (k : Nat) (vd : Value), k ≤ n ∧ k ≤ 7 ∧ i = .int .i64 (k : Int) ∧ RowV W1.heap.size wx vd k (Dm s.data.toList j) ∧ Bx wx (w.heap.size + 1) vd (.slice none 0 0) ∧ Free wx (w.heap.size + 1) ∧ Bx wx w.heap.size (.slice none 0 0) (.slice none 0 0) ∧ Free wx w.heap.size ∧ TxL wx (.slice (some ⟨g1, 0, none⟩) n c1') g1 (Hl s.data.toList j) ∧ Below w.heap.size w wx ∧ W1.heap.size ≤ wx.heap.size) (fun i _ => 8 - (intOf i).toNat)
          case atStart => exact ⟨0, .slice none 0 0, Nat.zero_le _, by omega, rfl, rowv_none _ _ _, N2.out, F2.out, M2.out, G2.out, TX1.out, BB2.out, Nat.le_refl _⟩
          case round =>
            obtain ⟨V, rfl⟩ : ∃ V, V = wr := ⟨_, rfl⟩
            obtain ⟨k, vd, hk, hk7, rfl, hrow, hbx, hfr, hm, hg, htx, hbb, hz⟩ := hrel
            have T0 := hide htx
            have R0 := hide hrow
            have X0 := hide hbx
            have F0 := hide hfr
            have M3 := hide hm
            have G3 := hide hg
            have B0 := hide hbb
            clear hrow hbx hfr hm hg hbb
            by_cases hlt : k < n
            · have kI : (k : Int) < (n : Int) := by omega
              by_cases h6 : k ≤ 6
              · have k6 : (k : Int) ≤ 6 := by omega
                have tc := htx.2.2 k (by rw [HR.out]; exact hlt)
                have CW := hide (fun W => wholeM ⟨((Hl s.data.toList j).getD k []).toArray⟩ W (by rw [list_len]; exact HSH.out k))
                rw [list_toList] at CW
                have ED := hide (show Dm s.data.toList j k = (whole ((Hl s.data.toList j).getD k []) : Nat) from rfl)
                have dbd := hide (show bd (Dm s.data.toList j k) by have := dm_bd s.data.toList j k; unfold bd; omega)
                rw [← ED.out] at CW
                clear htx ED
                obtain ⟨d, hd⟩ : ∃ d, Dm s.data.toList j k = d := ⟨_, rfl⟩
                have HD := hide hd
                obtain ⟨x, hx⟩ : ∃ x : ByteArray, (⟨((Hl s.data.toList j).getD k []).toArray⟩ : ByteArray) = x := ⟨_, rfl⟩
                rw [hd] at CW dbd
                rw [hx] at tc CW
                clear hx hd
                obtain ⟨x0, x1⟩ := X0.out
                have ff := F0.out
                unfold Free at ff
                have nbl := hide (show ∀ b, b < W1.heap.size → ¬ vd.ownBlock = some b from fun b hb hj => by have := (R0.out.lt hj).1; omega)
                have zP : w.heap.size + 1 < V.heap.size := by omega
                obtain ⟨da, dc, rfl⟩ := own_form R0.out.1
                go_wp2_with fail
                go_region_law (first
                  | (refine step_call1 (by rfl) 17 _ _ (by rfl) (enters_of Tryz.func17 (by kernel_rfl) rfl) _ (by rfl) (fun u w' => u = .int .i64 d ∧ w' = V.drew) ((CW.out _).mono (by rintro e1 w4 ⟨rfl, rfl⟩; exact ⟨_, rfl, rfl, rfl⟩)) ?_
                     rintro u w4 ⟨rfl, rfl⟩)
                  | (refine step_append_lies _ (by rfl) _ _ _ (by rfl) W1.heap.size 3 i0 _ 1 8 Tryz.underlying22 hi0 hz0 hz1 hz2 rfl (by omega) (.slice da k dc) k (ints k (Dm s.data.toList j)) (by rfl) ((R0.out.1.alloc _).drew)
                        ⟨V.heap.size, 0, none⟩ 1 1 [.int .i64 d] (by rfl) (by rfl) (World.news_of_block (cs := #[.int .i64 d]) (t := 3) (fr := (0, 0)) (heap_alloc_new V _)) (by simp [Value.oneCell'])
                        (by omega) (by unfold maxLen; omega) (by omega) (by simp; omega) (V.heap.size + 1) (by simp) ?_
                     intro g' c'' w3 hown3 hgrow hat hlt3
                     have KA : Kept (fun b => (Value.slice da k dc).ownBlock = some b) V w3 := (Kept.of_below (((Below.refl _ V).alloc (Nat.le_refl _) (.cells #[.int .i64 d] 3)).drew)).trans ⟨hgrow.os, hgrow.tape, hgrow.output, hgrow.size, fun b hb hn => hgrow.block b hb (fun q => hn q.symm)⟩
                     have e1 : ∀ i, w3.cell? ⟨w.heap.size + 1, i, none⟩ = V.cell? ⟨w.heap.size + 1, i, none⟩ := fun i => World.cell?_of_block (w := V) (a := ⟨w.heap.size + 1, i, none⟩) (KA.block (w.heap.size + 1) zP (nbl.out _ (by omega)))
                     have e2 : ∀ i, w3.frozen? ⟨w.heap.size + 1, i, none⟩ = V.frozen? ⟨w.heap.size + 1, i, none⟩ := fun i => World.frozen?_of_block (w := V) (a := ⟨w.heap.size + 1, i, none⟩) (KA.block (w.heap.size + 1) zP (nbl.out _ (by omega)))))
                all_goals (go_wp2_with fail)
                all_goals go_roundw
                all_goals first
                  | (simp [intOf]; omega)
                  | (have R2 : RowV W1.heap.size w3 (.slice (some ⟨g', 0, none⟩) (k + 1) c'') (k + 1) (Dm s.data.toList j) := ⟨by rw [← ints_succ, HD.out]; exact hown3, fun t ht => by
                       by_cases e : t = k
                       · rw [e, HD.out]; exact dbd.out
                       · exact R0.out.2 t (by omega)⟩
                     have ks := Kept.setCell w3 ⟨w.heap.size + 1, 0, none⟩ (.slice (some ⟨g', 0, none⟩) (k + 1) c'')
                     have n1 := nbl.out w.heap.size (by omega)
                     have n2 := nbl.out (w.heap.size + 1) (by omega)
                     have n3 := nbl.out g1 g1lt.out
                     have s2 := KA.size
                     have e4 : (w3.setCell ⟨w.heap.size + 1, 0, none⟩ (.slice (some ⟨g', 0, none⟩) (k + 1) c'')).heap.size = w3.heap.size := by simp [World.setCell]
                     exact ⟨k + 1, _, by omega, by omega, by go_num, R2.kept ks (fun b hb e => by have e : b = w.heap.size + 1 := e; have := (R2.lt hb).1; omega), bx_set0' (X0.out.kept KA zP n2) _, (F0.out.kept KA zP n2).set _ _, (M3.out.kept KA (by omega) n1).kept ks (by omega) (by show ¬ w.heap.size = w.heap.size + 1; omega), (G3.out.kept KA (by omega) n1).set _ _, (T0.out.kept KA n3).kept ks (by show ¬ g1 = w.heap.size + 1; omega), (B0.out.trans (KA.below B0.out.size (fun b hb => by have := (R0.out.lt hb).1; omega))).setCell (p := ⟨w.heap.size + 1, 0, none⟩) (by show w.heap.size ≤ w.heap.size + 1; omega) _, by omega⟩)
              · have k6 : decide ((k : Int) ≤ 6) = false := decide_eq_false (by omega)
                have k6' : decide (k ≤ 6) = false := decide_eq_false h6
                have n6 : (6 : Int) < (n : Int) := by omega
                have NO := hide (show ∀ r k D S, ¬ TR s.data.toList r k D S from fun r k D S h => by
                  obtain ⟨e, m⟩ := (BD.out r k D S h).2.2.2
                  obtain rfl := m.first AT.out N93.out
                  have q1 := m.found.1
                  have q2 := (dok_iff.1 (tok_three h.1).1).1
                  rw [HR.out] at q1
                  omega)
                obtain ⟨y0, y1⟩ := M3.out
                have gg := G3.out
                unfold Free at gg
                clear h6 htx BD
                go_wp2_with fail
                refine bodyPost_ret (v := .tuple #[.agg #[.slice none 0 0, .slice none 0 0], .bool false]) (by simp [results, Tryz.results5, go_sem, y0, y1]) rfl (rdR_no NO.out ?_)
                exact (B0.out.setCell (p := ⟨w.heap.size, 0, none⟩) (Nat.le_refl _) _).setCell (p := ⟨w.heap.size, 1, none⟩) (Nat.le_refl _) _
            · have ekn : k = n := by omega
              subst ekn
              have kI : decide ((k : Int) < (k : Int)) = false := decide_eq_false (by omega)
              by_cases h6 : 6 < k
              · have n6 : (6 : Int) < (k : Int) := by omega
                have NO := hide (show ∀ r k D S, ¬ TR s.data.toList r k D S from fun r k' D S h => by
                  obtain ⟨e, m⟩ := (BD.out r k' D S h).2.2.2
                  obtain rfl := m.first AT.out N93.out
                  have q1 := m.found.1
                  have q2 := (dok_iff.1 (tok_three h.1).1).1
                  rw [HR.out] at q1
                  omega)
                obtain ⟨y0, y1⟩ := M3.out
                have gg := G3.out
                unfold Free at gg
                clear h6 htx BD
                go_wp2_with fail
                refine bodyPost_ret (v := .tuple #[.agg #[.slice none 0 0, .slice none 0 0], .bool false]) (by simp [results, Tryz.results5, go_sem, y0, y1]) rfl (rdR_no NO.out ?_)
                exact (B0.out.setCell (p := ⟨w.heap.size, 0, none⟩) (Nat.le_refl _) _).setCell (p := ⟨w.heap.size, 1, none⟩) (Nat.le_refl _) _
              · have n6 : decide ((6 : Int) < (k : Int)) = false := decide_eq_false (by omega)
                have n6' : decide (6 < k) = false := decide_eq_false h6
                have r6 : k ≤ 6 := by omega
                have zW2 : w.heap.size + 2 ≤ V.heap.size := by omega
                have hBd : w.heap.size + 2 ≤ W1.heap.size := by omega
                clear zW1 z1 zA
                go_wp2_with fail
                have zW1 := zW2
                clear htx T0 hlen0 hlen1 HSH TX1 g1lt hg1 M2 G2 N2 F2 BB2 hlt n6 n6' h6 kI zW2 hz hk7 hk
                obtain ⟨Bd, hBe⟩ : ∃ Bd, Bd = W1.heap.size := ⟨_, rfl⟩
                rw [← hBe] at R0 hBd
                clear hBe
                obtain ⟨W, hWV⟩ : ∃ W, W = V := ⟨V, rfl⟩
                subst hWV
                obtain ⟨r, hrk⟩ : ∃ r, r = k := ⟨k, rfl⟩
                subst hrk
                have RD := R0
                have M1 := M3
                have G1 := G3
                have N1 := X0
                have F1 := F0
                have BB1 := B0
                clear R0 M3 G3 X0 F0 B0
                have XB2 := hide (show (s.extract (j + 1) s.size).data.toList = s.data.toList.drop (j + 1) by
                  rw [ext_toList, List.take_of_length_le (Nat.le_of_eq hl)])
                have es2 : ((s.extract (j + 1) s.size).size : Int) ≤ 1048576 := by rw [ByteArray.size_extract]; omega
                have WD2 := hide (words (s.extract (j + 1) s.size) es2 W)
                rw [XB2.out] at WD2
                clear es2
                generalize s.extract (j + 1) s.size = tx at WD2 XB2 ⊢
                refine WD2.out.mono ?_
                rintro e W2 ⟨v2, rfl, o2, b2⟩
                obtain ⟨g2, hg2, X2⟩ := txL_of (L := Tl s.data.toList j) o2 (wds_ne _)
                clear o2 WD2 XB2
                have TX2 := hide X2
                have g2lt := hide X2.2.1
                obtain ⟨⟨c2, rfl⟩, -, -⟩ := X2
                have z2 := b2.size
                have RD2 := hide (RD.out.below b2)
                have DLT := hide (show ∀ b, vd.ownBlock = some b → b < W2.heap.size from fun b hb => (RD2.out.lt hb).2)
                have M2 := hide (M1.out.below b2 (by omega))
                have G2 := hide (G1.out.below b2 (by omega))
                have N2 := hide (N1.out.below b2 (by omega))
                have F2 := hide (F1.out.below b2 (by omega))
                have BB2 := hide (BB1.out.trans (b2.mono BB1.out.size))
                clear b2 RD M1 G1 N1 F1 BB1
                obtain ⟨y0, y1⟩ := M2.out
                obtain ⟨x0, x1⟩ := N2.out
                have gg := G2.out
                unfold Free at gg
                have t0 := TX2.out.2.2 0 (wds_ne _)
                have n0 : 0 < (Tl s.data.toList j).length := wds_ne _
                have tlen : (Tl s.data.toList j).length ≤ s.size + 1 := by
                  have q := wds_len (s.data.toList.drop (j + 1))
                  rw [List.length_drop, hl] at q
                  unfold Tl
                  omega
                have n0' : (0 : Int) < ((Tl s.data.toList j).length : Int) := by omega
                have FOUND := hide (show ∀ r k D S, TR s.data.toList r k D S → (Hl s.data.toList j).length = r ∧ (∀ q, q < r → Dm s.data.toList j q = D q) ∧ (Tl s.data.toList j).length = k + 1 ∧ (Tl s.data.toList j).getD 0 [0] = [] ∧ (∀ q, q < k → Base.Shown ((Tl s.data.toList j).getD (q + 1) []) (S q)) ∧ tok r k D S = true from fun r k D S h => by
                  obtain ⟨e, m⟩ := (BD.out r k D S h).2.2.2
                  obtain rfl := m.first AT.out N93.out
                  obtain ⟨q1, q2, q3, q4, q5⟩ := m.found
                  exact ⟨q1, q2, q3, q4, q5, h.1⟩)
                by_cases c6 : (Tl s.data.toList j).getD 0 [] = []
                rotate_left
                · have NO := hide (show ∀ r k D S, ¬ TR s.data.toList r k D S from fun r k D S h => by
                    have q := (FOUND.out r k D S h).2.2.2.1
                    apply c6
                    cases hh : Tl s.data.toList j with
                    | nil => rw [hh] at n0; simp at n0
                    | cons a t => rw [hh] at q; simpa using q)
                  obtain ⟨x, hx⟩ : ∃ x : ByteArray, (⟨((Tl s.data.toList j).getD 0 []).toArray⟩ : ByteArray) = x := ⟨_, rfl⟩
                  have ne1 : ¬ x = ⟨#[]⟩ := fun q => c6 (by
                    rw [q] at hx
                    have := congrArg (fun z : ByteArray => z.data.toList) hx
                    simpa using this)
                  have ne2 : ¬ x.toList = [] := fun q => ne1 (by
                    have := ByteArray.toList_eq (bs := x)
                    apply ByteArray.ext
                    apply Array.toList_inj.1
                    rw [← this, q])
                  have ne3 : (x.toList == []) = false := beq_eq_false_iff_ne.2 ne2
                  have ne4 : (x.toList == (⟨#[]⟩ : ByteArray).toList) = false := by
                    rw [Bool.eq_false_iff]
                    intro q
                    exact ne1 ((Lib.bytes_beq_iff _ _).1 q)
                  have ne5 : (x.toList != (⟨#[]⟩ : ByteArray).toList) = true := by unfold bne; rw [ne4]; rfl
                  rw [hx] at t0
                  clear FOUND c6 hx BD
                  go_wp2_with fail
                  refine bodyPost_ret (v := .tuple #[.agg #[.slice none 0 0, .slice none 0 0], .bool false]) (by simp [results, Tryz.results5, go_sem, y0, y1]) rfl (rdR_no NO.out ?_)
                  exact (BB2.out.setCell (p := ⟨w.heap.size, 0, none⟩) (Nat.le_refl _) _).setCell (p := ⟨w.heap.size, 1, none⟩) (Nat.le_refl _) _
                have h00 := hide (show (Tl s.data.toList j).getD 0 [0] = [] by
                  cases hh : Tl s.data.toList j with
                  | nil => rw [hh] at n0; simp at n0
                  | cons a t => rw [hh] at c6; simpa using c6)
                rw [c6] at t0
                have t0' : W2.cell? ⟨g2, 0, none⟩ = some (.string ⟨#[]⟩) := t0
                clear t0
                obtain ⟨ad, cd, rfl, hOD⟩ := RD2.out.own
                have CDO := hide (Vs.specDimsOk W2.heap.size ad r cd (Dm s.data.toList j) W2 hOD.ints (by omega))
                have CSZ := hide (Vs.l3Size W2.heap.size ad r cd (Dm s.data.toList j) W2 hOD.ints (by omega))
                clear hOD
                cases hd : dok r (Dm s.data.toList j) with
                | false =>
                  have NO := hide (show ∀ r k D S, ¬ TR s.data.toList r k D S from fun r' k D S h => by
                    obtain ⟨q1, q2, q3, q4, q5, q6⟩ := FOUND.out r' k D S h
                    have qd := (tok_three q6).1
                    have e1 : r' = r := by rw [← q1, HR.out]
                    subst e1
                    rw [← dok_same' (fun q hq => q2 q hq), hd] at qd
                    exact absurd qd (by decide))
                  rw [hd] at CDO
                  clear FOUND c6 BD hd CSZ
                  go_wp2_with fail
                  refine CDO.out.mono ?_; rintro e w3 ⟨rfl, rfl⟩
                  go_wp2_with fail
                  refine bodyPost_ret (v := .tuple #[.agg #[.slice none 0 0, .slice none 0 0], .bool false]) (by simp [results, Tryz.results5, go_sem, y0, y1]) rfl (rdR_no NO.out ?_)
                  exact (BB2.out.setCell (p := ⟨w.heap.size, 0, none⟩) (Nat.le_refl _) _).setCell (p := ⟨w.heap.size, 1, none⟩) (Nat.le_refl _) _
                | true =>
                rw [hd] at CDO
                have zr := szR_rng (Dm s.data.toList j) r
                by_cases c7 : ((Tl s.data.toList j).length : Int) = szR (Dm s.data.toList j) r + 1
                rotate_left
                · have NO := hide (show ∀ r k D S, ¬ TR s.data.toList r k D S from fun r' k D S h => by
                    obtain ⟨q1, q2, q3, q4, q5, q6⟩ := FOUND.out r' k D S h
                    have qs := (tok_three q6).2.1
                    have e1 : r' = r := by rw [← q1, HR.out]
                    subst e1
                    rw [szR_same (fun q hq => q2 q hq)] at c7
                    omega)
                  clear FOUND c6 BD hd
                  generalize szR (Dm s.data.toList j) r = zz at CSZ c7 zr
                  go_wp2_with fail
                  refine CDO.out.mono ?_; rintro e w3 ⟨rfl, rfl⟩
                  go_wp2_with fail
                  refine CSZ.out.mono ?_; rintro e w4 ⟨rfl, rfl⟩
                  go_wp2_with fail
                  refine bodyPost_ret (v := .tuple #[.agg #[.slice none 0 0, .slice none 0 0], .bool false]) (by simp [results, Tryz.results5, go_sem, y0, y1]) rfl (rdR_no NO.out ?_)
                  exact (BB2.out.setCell (p := ⟨w.heap.size, 0, none⟩) (Nat.le_refl _) _).setCell (p := ⟨w.heap.size, 1, none⟩) (Nat.le_refl _) _
                obtain ⟨n, hn⟩ : ∃ n : Nat, (Tl s.data.toList j).length = n + 1 := ⟨(Tl s.data.toList j).length - 1, by omega⟩
                have HN := hide hn
                have HS := hide (show (n : Int) = szR (Dm s.data.toList j) r by omega)
                have n4 : (n : Int) ≤ 4096 := by have := HS.out; omega
                have c7' : (n : Int) + 1 = szR (Dm s.data.toList j) r + 1 := by have := HS.out; omega
                have HD := hide hd
                rw [hn] at c7 TX2 tlen n0 n0' ⊢
                clear hn c6 hd
                have nI : ((n + 1 : Nat) : Int) = (n : Int) + 1 := by omega
                have TSH := hide (show ∀ t, ((Tl s.data.toList j).getD t []).length ≤ 1048576 from fun t => by
                  have q := text_short (l := s.data.toList.drop (j + 1)) (Tl s.data.toList j) (wds_short _) t
                  rw [List.length_drop, hl] at q
                  omega)
                generalize szR (Dm s.data.toList j) r = zz at CSZ c7 c7' zr
                go_wp2_with fail
                refine CDO.out.mono ?_; rintro e w3 ⟨rfl, rfl⟩
                go_wp2_with fail
                refine CSZ.out.mono ?_; rintro e w4 ⟨rfl, rfl⟩
                clear CDO CSZ
                go_wp2_with fail
                clear y0 y1 x0 x1 gg t0' c7 c7' zr
                go_loopw [9] (fun i wx => ∃ (q : Nat) (vs : Value), 1 ≤ q ∧ q ≤ n + 1 ∧ i = .int .i64 (q : Int) ∧ RowV w4.heap.size wx vs (q - 1) (Sm s.data.toList j) ∧ (∀ t, t < q - 1 → Base.Shown ((Tl s.data.toList j).getD (t + 1) []) (Sm s.data.toList j t)) ∧ Bx wx (w.heap.size + 1) (.slice ad r cd) vs ∧ Free wx (w.heap.size + 1) ∧ Bx wx w.heap.size (.slice none 0 0) (.slice none 0 0) ∧ Free wx w.heap.size ∧ TxL wx (.slice (some ⟨g2, 0, none⟩) (n + 1) c2) g2 (Tl s.data.toList j) ∧ RowV Bd wx (.slice ad r cd) r (Dm s.data.toList j) ∧ Below w.heap.size w wx ∧ w4.heap.size ≤ wx.heap.size) (fun i _ => n + 1 - (intOf i).toNat)
                case atStart => exact ⟨1, .slice none 0 0, Nat.le_refl _, by omega, rfl, rowv_none _ _ _, fun q hq => by omega, N2.out, F2.out, M2.out, G2.out, TX2.out, RD2.out, BB2.out, Nat.le_refl _⟩
                case round =>
                  obtain ⟨V, rfl⟩ : ∃ V, V = wr := ⟨_, rfl⟩
                  obtain ⟨q, vs, hq1, hq, rfl, hrow, hsh, hbx, hfr, hm, hg, htx, hrd, hbb, hz⟩ := hrel
                  have T0 := hide htx
                  have R0 := hide hrow
                  have S0 := hide hsh
                  have X0 := hide hbx
                  have F0 := hide hfr
                  have M3 := hide hm
                  have G3 := hide hg
                  have D0 := hide hrd
                  have B0 := hide hbb
                  clear hrow hsh hbx hfr hm hg hrd hbb
                  by_cases hlt : q < n + 1
                  · have qI : (q : Int) < (n : Int) + 1 := by omega
                    obtain ⟨k, hk⟩ : ∃ k, q = k + 1 := ⟨q - 1, by omega⟩
                    have HK := hide hk
                    have k4 : k ≤ 4096 := by omega
                    have ek : q - 1 = k := by omega
                    rw [ek] at R0 S0
                    have tc := htx.2.2 q (by have := HN.out; omega)
                    have ES := hide (show Sm s.data.toList j k = Base.guessL ((Tl s.data.toList j).getD q []) by unfold Sm; rw [hk])
                    have EQ := hide (show (Tl s.data.toList j).getD (k + 1) [] = (Tl s.data.toList j).getD q [] by rw [hk])
                    have C := hide (fun W => Base.specReadNum ⟨((Tl s.data.toList j).getD q []).toArray⟩ W (by rw [list_len]; exact TSH.out q))
                    rw [list_toList] at C
                    clear htx hk ek
                    have QN := hide (show k < n by have := HK.out; omega)
                    obtain ⟨x, hx⟩ : ∃ x, (Tl s.data.toList j).getD q [] = x := ⟨_, rfl⟩
                    rw [hx] at tc ES EQ C
                    clear hx
                    go_wp2_with fail
                    refine (C.out V).mono ?_
                    rintro e V1 ⟨x', b, rfl, hread, b5⟩
                    have sz5 := b5.size
                    have T1 := hide (T0.out.below b5)
                    have R1 := hide (R0.out.below b5)
                    have X1 := hide (X0.out.below b5 (by omega))
                    have F1' := hide (F0.out.below b5 (by omega))
                    have M4 := hide (M3.out.below b5 (by omega))
                    have G4 := hide (G3.out.below b5 (by omega))
                    have D1 := hide (D0.out.below b5)
                    have B1 := hide (B0.out.trans (b5.mono B0.out.size))
                    clear T0 R0 X0 F0 M3 G3 D0 B0 b5 tc
                    obtain ⟨x0, x1⟩ := X1.out
                    obtain ⟨y0, y1⟩ := M4.out
                    have gg := G4.out
                    unfold Free at gg
                    have ff := F1'.out
                    unfold Free at ff
                    cases b with
                    | false =>
                      have NO := hide (show ∀ r k D S, ¬ TR s.data.toList r k D S from fun r' k' D S h => by
                        obtain ⟨q1, q2, q3, q4, q5, q6⟩ := FOUND.out r' k' D S h
                        rcases hread with ⟨q, _⟩ | ⟨_, _, hno⟩
                        · exact absurd q (by decide)
                        · have := q5 k (by have := HN.out; have := QN.out; omega)
                          rw [EQ.out] at this
                          exact hno _ this)
                      clear hread ES
                      go_wp2_with fail
                      refine bodyPost_ret (v := .tuple #[.agg #[.slice none 0 0, .slice none 0 0], .bool false]) (by simp [results, Tryz.results5, go_sem, y0, y1]) rfl (rdR_no NO.out ?_)
                      exact (B1.out.setCell (p := ⟨w.heap.size, 0, none⟩) (Nat.le_refl _) _).setCell (p := ⟨w.heap.size, 1, none⟩) (Nat.le_refl _) _
                    | true =>
                      have hsw : Base.Shown x x' := by
                        rcases hread with ⟨_, q⟩ | ⟨q, _⟩
                        · exact q
                        · exact absurd q (by decide)
                      have ex : Sm s.data.toList j k = x' := by rw [ES.out, Base.shown_guess hsw]
                      have HX := hide ex
                      have xb := hide (show bd x' by have h1 := hsw.1; have h2 := hsw.2.1; unfold bd; omega)
                      have S1 := hide (show ∀ t, t < k + 1 → Base.Shown ((Tl s.data.toList j).getD (t + 1) []) (Sm s.data.toList j t) from fun t ht => by
                        by_cases e : t = k
                        · subst e; rw [EQ.out, HX.out]; exact hsw
                        · exact S0.out t (by omega))
                      clear hread ES hsw ex
                      have nbl := hide (show ∀ b, b < w4.heap.size → ¬ vs.ownBlock = some b from fun b hb hj => by have := (R1.out.lt hj).1; omega)
                      go_wp2_with (at_builtin; refine wpList_append_own _ rfl _ _ 22 rfl w4.heap.size 3 i0 (.int .i64 0) 1 8 Tryz.underlying22 hi0 hz0 hz1 hz2 rfl (by decide) _ _ _ rfl (R1.out.1.alloc _) ⟨V1.heap.size, 0, none⟩ 1 1 [.int .i64 x'] rfl rfl (World.news_of_block (cs := #[.int .i64 x']) (t := 3) (fr := (0, 0)) (heap_alloc_new V1 _)) (by simp [Value.oneCell']) (by unfold maxLen; omega) (by omega) (by simp; omega) ?_; intro v'' V2 hown1 hgrow1 _; obtain ⟨av, cv, rfl⟩ := own_form hown1; have KA : Kept (fun b => vs.ownBlock = some b) V1 V2 := (Kept.of_below ((Below.refl _ V1).alloc (Nat.le_refl _) (.cells #[.int .i64 x'] 3))).trans ⟨hgrow1.os, hgrow1.tape, hgrow1.output, hgrow1.size, fun b hb hn => hgrow1.block b hb (fun q => hn q.symm)⟩; have e1 : V2.cell? ⟨w.heap.size + 1, 1, none⟩ = some vs := (World.cell?_of_block (w := V1) (a := ⟨w.heap.size + 1, 1, none⟩) (KA.block (w.heap.size + 1) (by omega) (nbl.out _ (by omega)))).trans x1; have e2 : V2.frozen? ⟨w.heap.size + 1, 1, none⟩ = false := (World.frozen?_of_block (w := V1) (a := ⟨w.heap.size + 1, 1, none⟩) (KA.block (w.heap.size + 1) (by omega) (nbl.out _ (by omega)))).trans (ff 1))
                      go_roundw
                      case rel =>
                        have R2 : RowV w4.heap.size V2 (.slice av (k + 1) cv) (k + 1) (Sm s.data.toList j) := ⟨by rw [← ints_succ, HX.out]; exact hown1, fun t ht => by
                          by_cases e : t = k
                          · rw [e, HX.out]; exact xb.out
                          · exact R1.out.2 t (by omega)⟩
                        have ks := Kept.setCell V2 ⟨w.heap.size + 1, 1, none⟩ (.slice av (k + 1) cv)
                        have n1 : ¬ vs.ownBlock = some w.heap.size := nbl.out _ (by omega)
                        have n2 : ¬ vs.ownBlock = some (w.heap.size + 1) := nbl.out _ (by omega)
                        have n3 : ¬ vs.ownBlock = some g2 := nbl.out _ g2lt.out
                        have s2 := KA.size
                        have e3 : q + 1 - 1 = k + 1 := by have := HK.out; omega
                        refine ⟨q + 1, .slice av (k + 1) cv, by omega, by omega, by go_num, ?_, ?_, bx_set1' (X1.out.kept KA (by omega) n2) _, (F1'.out.kept KA (by omega) n2).set _ _, (M4.out.kept KA (by omega) n1).kept ks (by omega) (by show ¬ w.heap.size = w.heap.size + 1; omega), (G4.out.kept KA (by omega) n1).set _ _, (T1.out.kept KA n3).kept ks (by show ¬ g2 = w.heap.size + 1; omega), (D1.out.kept KA (fun b hb hb' => nbl.out b (DLT.out b hb) hb')).kept ks (fun b hb e => by have e : b = w.heap.size + 1 := e; have := (D1.out.lt hb).1; omega), ?_, ?_⟩
                        · rw [e3]
                          exact R2.kept ks (fun b hb e => by have e : b = w.heap.size + 1 := e; have := (R2.lt hb).1; omega)
                        · rw [e3]; exact S1.out
                        · exact (B1.out.trans (KA.below B1.out.size (fun b hb => by have := (R1.out.lt hb).1; omega))).setCell (p := ⟨w.heap.size + 1, 1, none⟩) (by show w.heap.size ≤ w.heap.size + 1; omega) _
                        · have : (V2.setCell ⟨w.heap.size + 1, 1, none⟩ (.slice av (k + 1) cv)).heap.size = V2.heap.size := by simp [World.setCell]
                          omega
                      case measure => simp [intOf]; omega
                  · have qI : decide ((q : Int) < (n : Int) + 1) = false := decide_eq_false (by omega)
                    have qI' : decide (q < n + 1) = false := decide_eq_false hlt
                    have qI2 : decide ((q : Int) ≤ (n : Int)) = false := decide_eq_false (by omega)
                    have qI3 : decide (q ≤ n) = false := decide_eq_false (by omega)
                    have eq : q - 1 = n := by omega
                    rw [eq] at R0 S0
                    have YES := hide (show TR s.data.toList r n (Dm s.data.toList j) (Sm s.data.toList j) from by
                      have e := HR.out
                      have m := md_of (l := s.data.toList) (e := j) (s := n) (S := Sm s.data.toList j) AT.out N93.out H91.out (by rw [e]; exact HD.out) HN.out h00.out (by rw [e]; exact HS.out) S0.out
                      rw [e] at m
                      exact m.tr)
                    obtain ⟨a', c', rfl, _⟩ := R0.out.own
                    obtain ⟨x0, x1⟩ := X0.out
                    obtain ⟨y0, y1⟩ := M3.out
                    have gg := G3.out
                    unfold Free at gg
                    clear hlt eq htx
                    go_wp2_with fail
                    refine bodyPost_ret (v := .tuple #[.agg #[.slice ad r cd, .slice a' n c'], .bool true]) (by simp [results, Tryz.results5, go_sem, y0, y1]) rfl (rdR_yes YES.out ?_ ?_)
                    · have ks := (Kept.setCell V ⟨w.heap.size, 0, none⟩ (.slice ad r cd)).trans (Kept.setCell _ ⟨w.heap.size, 1, none⟩ (.slice a' n c'))
                      exact row_own2 (D0.out.kept ks (fun b hb e => by have e : b = w.heap.size := e; have := (D0.out.lt hb).1; omega)) (R0.out.kept ks (fun b hb e => by have e : b = w.heap.size := e; have := (R0.out.lt hb).1; omega)) (by omega) (by omega) DLT.out
                    · exact (B0.out.setCell (p := ⟨w.heap.size, 0, none⟩) (Nat.le_refl _) _).setCell (p := ⟨w.heap.size, 1, none⟩) (Nat.le_refl _) _
        · have d5 : ¬ (1 : Int) < (j : Int) := by omega
          have N1x := N1
          clear N1
          obtain ⟨r, vd, Bd, HR, RD, N1, r6, hBd⟩ : ∃ (r : Nat) (vd : Value) (Bd : Nat), Hid ((Hl s.data.toList j).length = r) ∧ Hid (RowV Bd W vd r (Dm s.data.toList j)) ∧ Hid (Bx W (w.heap.size + 1) vd (.slice none 0 0)) ∧ r ≤ 6 ∧ w.heap.size + 2 ≤ Bd :=
            ⟨0, .slice none 0 0, W.heap.size, hide (by unfold Hl; rw [if_neg c5]; rfl), hide (rowv_none _ _ _), N1x, by omega, by omega⟩
          clear N1x
          go_wp2_with fail
          rw [HWe.out]
          clear HWe
          have XB2 := hide (show (s.extract (j + 1) s.size).data.toList = s.data.toList.drop (j + 1) by
            rw [ext_toList, List.take_of_length_le (Nat.le_of_eq hl)])
          have es2 : ((s.extract (j + 1) s.size).size : Int) ≤ 1048576 := by rw [ByteArray.size_extract]; omega
          have WD2 := hide (words (s.extract (j + 1) s.size) es2 W)
          rw [XB2.out] at WD2
          clear es2
          generalize s.extract (j + 1) s.size = tx at WD2 XB2 ⊢
          refine WD2.out.mono ?_
          rintro e W2 ⟨v2, rfl, o2, b2⟩
          obtain ⟨g2, hg2, X2⟩ := txL_of (L := Tl s.data.toList j) o2 (wds_ne _)
          clear o2 WD2 XB2
          have TX2 := hide X2
          have g2lt := hide X2.2.1
          obtain ⟨⟨c2, rfl⟩, -, -⟩ := X2
          have z2 := b2.size
          have RD2 := hide (RD.out.below b2)
          have DLT := hide (show ∀ b, vd.ownBlock = some b → b < W2.heap.size from fun b hb => (RD2.out.lt hb).2)
          have M2 := hide (M1.out.below b2 (by omega))
          have G2 := hide (G1.out.below b2 (by omega))
          have N2 := hide (N1.out.below b2 (by omega))
          have F2 := hide (F1.out.below b2 (by omega))
          have BB2 := hide (BB1.out.trans (b2.mono BB1.out.size))
          clear b2 RD M1 G1 N1 F1 BB1
          obtain ⟨y0, y1⟩ := M2.out
          obtain ⟨x0, x1⟩ := N2.out
          have gg := G2.out
          unfold Free at gg
          have t0 := TX2.out.2.2 0 (wds_ne _)
          have n0 : 0 < (Tl s.data.toList j).length := wds_ne _
          have tlen : (Tl s.data.toList j).length ≤ s.size + 1 := by
            have q := wds_len (s.data.toList.drop (j + 1))
            rw [List.length_drop, hl] at q
            unfold Tl
            omega
          have n0' : (0 : Int) < ((Tl s.data.toList j).length : Int) := by omega
          have FOUND := hide (show ∀ r k D S, TR s.data.toList r k D S → (Hl s.data.toList j).length = r ∧ (∀ q, q < r → Dm s.data.toList j q = D q) ∧ (Tl s.data.toList j).length = k + 1 ∧ (Tl s.data.toList j).getD 0 [0] = [] ∧ (∀ q, q < k → Base.Shown ((Tl s.data.toList j).getD (q + 1) []) (S q)) ∧ tok r k D S = true from fun r k D S h => by
            obtain ⟨e, m⟩ := (BD.out r k D S h).2.2.2
            obtain rfl := m.first AT.out N93.out
            obtain ⟨q1, q2, q3, q4, q5⟩ := m.found
            exact ⟨q1, q2, q3, q4, q5, h.1⟩)
          by_cases c6 : (Tl s.data.toList j).getD 0 [] = []
          rotate_left
          · have NO := hide (show ∀ r k D S, ¬ TR s.data.toList r k D S from fun r k D S h => by
              have q := (FOUND.out r k D S h).2.2.2.1
              apply c6
              cases hh : Tl s.data.toList j with
              | nil => rw [hh] at n0; simp at n0
              | cons a t => rw [hh] at q; simpa using q)
            obtain ⟨x, hx⟩ : ∃ x : ByteArray, (⟨((Tl s.data.toList j).getD 0 []).toArray⟩ : ByteArray) = x := ⟨_, rfl⟩
            have ne1 : ¬ x = ⟨#[]⟩ := fun q => c6 (by
              rw [q] at hx
              have := congrArg (fun z : ByteArray => z.data.toList) hx
              simpa using this)
            have ne2 : ¬ x.toList = [] := fun q => ne1 (by
              have := ByteArray.toList_eq (bs := x)
              apply ByteArray.ext
              apply Array.toList_inj.1
              rw [← this, q])
            have ne3 : (x.toList == []) = false := beq_eq_false_iff_ne.2 ne2
            have ne4 : (x.toList == (⟨#[]⟩ : ByteArray).toList) = false := by
              rw [Bool.eq_false_iff]
              intro q
              exact ne1 ((Lib.bytes_beq_iff _ _).1 q)
            have ne5 : (x.toList != (⟨#[]⟩ : ByteArray).toList) = true := by unfold bne; rw [ne4]; rfl
            rw [hx] at t0
            clear FOUND c6 hx BD
            go_wp2_with fail
            refine bodyPost_ret (v := .tuple #[.agg #[.slice none 0 0, .slice none 0 0], .bool false]) (by simp [results, Tryz.results5, go_sem, y0, y1]) rfl (rdR_no NO.out ?_)
            exact (BB2.out.setCell (p := ⟨w.heap.size, 0, none⟩) (Nat.le_refl _) _).setCell (p := ⟨w.heap.size, 1, none⟩) (Nat.le_refl _) _
          have h00 := hide (show (Tl s.data.toList j).getD 0 [0] = [] by
            cases hh : Tl s.data.toList j with
            | nil => rw [hh] at n0; simp at n0
            | cons a t => rw [hh] at c6; simpa using c6)
          rw [c6] at t0
          have t0' : W2.cell? ⟨g2, 0, none⟩ = some (.string ⟨#[]⟩) := t0
          clear t0
          obtain ⟨ad, cd, rfl, hOD⟩ := RD2.out.own
          have CDO := hide (Vs.specDimsOk W2.heap.size ad r cd (Dm s.data.toList j) W2 hOD.ints (by omega))
          have CSZ := hide (Vs.l3Size W2.heap.size ad r cd (Dm s.data.toList j) W2 hOD.ints (by omega))
          clear hOD
          cases hd : dok r (Dm s.data.toList j) with
          | false =>
            have NO := hide (show ∀ r k D S, ¬ TR s.data.toList r k D S from fun r' k D S h => by
              obtain ⟨q1, q2, q3, q4, q5, q6⟩ := FOUND.out r' k D S h
              have qd := (tok_three q6).1
              have e1 : r' = r := by rw [← q1, HR.out]
              subst e1
              rw [← dok_same' (fun q hq => q2 q hq), hd] at qd
              exact absurd qd (by decide))
            rw [hd] at CDO
            clear FOUND c6 BD hd CSZ
            go_wp2_with fail
            refine CDO.out.mono ?_; rintro e w3 ⟨rfl, rfl⟩
            go_wp2_with fail
            refine bodyPost_ret (v := .tuple #[.agg #[.slice none 0 0, .slice none 0 0], .bool false]) (by simp [results, Tryz.results5, go_sem, y0, y1]) rfl (rdR_no NO.out ?_)
            exact (BB2.out.setCell (p := ⟨w.heap.size, 0, none⟩) (Nat.le_refl _) _).setCell (p := ⟨w.heap.size, 1, none⟩) (Nat.le_refl _) _
          | true =>
          rw [hd] at CDO
          have zr := szR_rng (Dm s.data.toList j) r
          by_cases c7 : ((Tl s.data.toList j).length : Int) = szR (Dm s.data.toList j) r + 1
          rotate_left
          · have NO := hide (show ∀ r k D S, ¬ TR s.data.toList r k D S from fun r' k D S h => by
              obtain ⟨q1, q2, q3, q4, q5, q6⟩ := FOUND.out r' k D S h
              have qs := (tok_three q6).2.1
              have e1 : r' = r := by rw [← q1, HR.out]
              subst e1
              rw [szR_same (fun q hq => q2 q hq)] at c7
              omega)
            clear FOUND c6 BD hd
            generalize szR (Dm s.data.toList j) r = zz at CSZ c7 zr
            go_wp2_with fail
            refine CDO.out.mono ?_; rintro e w3 ⟨rfl, rfl⟩
            go_wp2_with fail
            refine CSZ.out.mono ?_; rintro e w4 ⟨rfl, rfl⟩
            go_wp2_with fail
            refine bodyPost_ret (v := .tuple #[.agg #[.slice none 0 0, .slice none 0 0], .bool false]) (by simp [results, Tryz.results5, go_sem, y0, y1]) rfl (rdR_no NO.out ?_)
            exact (BB2.out.setCell (p := ⟨w.heap.size, 0, none⟩) (Nat.le_refl _) _).setCell (p := ⟨w.heap.size, 1, none⟩) (Nat.le_refl _) _
          obtain ⟨n, hn⟩ : ∃ n : Nat, (Tl s.data.toList j).length = n + 1 := ⟨(Tl s.data.toList j).length - 1, by omega⟩
          have HN := hide hn
          have HS := hide (show (n : Int) = szR (Dm s.data.toList j) r by omega)
          have n4 : (n : Int) ≤ 4096 := by have := HS.out; omega
          have c7' : (n : Int) + 1 = szR (Dm s.data.toList j) r + 1 := by have := HS.out; omega
          have HD := hide hd
          rw [hn] at c7 TX2 tlen n0 n0' ⊢
          clear hn c6 hd
          have nI : ((n + 1 : Nat) : Int) = (n : Int) + 1 := by omega
          have TSH := hide (show ∀ t, ((Tl s.data.toList j).getD t []).length ≤ 1048576 from fun t => by
            have q := text_short (l := s.data.toList.drop (j + 1)) (Tl s.data.toList j) (wds_short _) t
            rw [List.length_drop, hl] at q
            omega)
          generalize szR (Dm s.data.toList j) r = zz at CSZ c7 c7' zr
          go_wp2_with fail
          refine CDO.out.mono ?_; rintro e w3 ⟨rfl, rfl⟩
          go_wp2_with fail
          refine CSZ.out.mono ?_; rintro e w4 ⟨rfl, rfl⟩
          clear CDO CSZ
          go_wp2_with fail
          clear y0 y1 x0 x1 gg t0' c7 c7' zr
          go_loopw [9] (fun i wx => ∃ (q : Nat) (vs : Value), 1 ≤ q ∧ q ≤ n + 1 ∧ i = .int .i64 (q : Int) ∧ RowV w4.heap.size wx vs (q - 1) (Sm s.data.toList j) ∧ (∀ t, t < q - 1 → Base.Shown ((Tl s.data.toList j).getD (t + 1) []) (Sm s.data.toList j t)) ∧ Bx wx (w.heap.size + 1) (.slice ad r cd) vs ∧ Free wx (w.heap.size + 1) ∧ Bx wx w.heap.size (.slice none 0 0) (.slice none 0 0) ∧ Free wx w.heap.size ∧ TxL wx (.slice (some ⟨g2, 0, none⟩) (n + 1) c2) g2 (Tl s.data.toList j) ∧ RowV Bd wx (.slice ad r cd) r (Dm s.data.toList j) ∧ Below w.heap.size w wx ∧ w4.heap.size ≤ wx.heap.size) (fun i _ => n + 1 - (intOf i).toNat)
          case atStart => exact ⟨1, .slice none 0 0, Nat.le_refl _, by omega, rfl, rowv_none _ _ _, fun q hq => by omega, N2.out, F2.out, M2.out, G2.out, TX2.out, RD2.out, BB2.out, Nat.le_refl _⟩
          case round =>
            obtain ⟨V, rfl⟩ : ∃ V, V = wr := ⟨_, rfl⟩
            obtain ⟨q, vs, hq1, hq, rfl, hrow, hsh, hbx, hfr, hm, hg, htx, hrd, hbb, hz⟩ := hrel
            have T0 := hide htx
            have R0 := hide hrow
            have S0 := hide hsh
            have X0 := hide hbx
            have F0 := hide hfr
            have M3 := hide hm
            have G3 := hide hg
            have D0 := hide hrd
            have B0 := hide hbb
            clear hrow hsh hbx hfr hm hg hrd hbb
            by_cases hlt : q < n + 1
            · have qI : (q : Int) < (n : Int) + 1 := by omega
              obtain ⟨k, hk⟩ : ∃ k, q = k + 1 := ⟨q - 1, by omega⟩
              have HK := hide hk
              have k4 : k ≤ 4096 := by omega
              have ek : q - 1 = k := by omega
              rw [ek] at R0 S0
              have tc := htx.2.2 q (by have := HN.out; omega)
              have ES := hide (show Sm s.data.toList j k = Base.guessL ((Tl s.data.toList j).getD q []) by unfold Sm; rw [hk])
              have EQ := hide (show (Tl s.data.toList j).getD (k + 1) [] = (Tl s.data.toList j).getD q [] by rw [hk])
              have C := hide (fun W => Base.specReadNum ⟨((Tl s.data.toList j).getD q []).toArray⟩ W (by rw [list_len]; exact TSH.out q))
              rw [list_toList] at C
              clear htx hk ek
              have QN := hide (show k < n by have := HK.out; omega)
              obtain ⟨x, hx⟩ : ∃ x, (Tl s.data.toList j).getD q [] = x := ⟨_, rfl⟩
              rw [hx] at tc ES EQ C
              clear hx
              go_wp2_with fail
              refine (C.out V).mono ?_
              rintro e V1 ⟨x', b, rfl, hread, b5⟩
              have sz5 := b5.size
              have T1 := hide (T0.out.below b5)
              have R1 := hide (R0.out.below b5)
              have X1 := hide (X0.out.below b5 (by omega))
              have F1' := hide (F0.out.below b5 (by omega))
              have M4 := hide (M3.out.below b5 (by omega))
              have G4 := hide (G3.out.below b5 (by omega))
              have D1 := hide (D0.out.below b5)
              have B1 := hide (B0.out.trans (b5.mono B0.out.size))
              clear T0 R0 X0 F0 M3 G3 D0 B0 b5 tc
              obtain ⟨x0, x1⟩ := X1.out
              obtain ⟨y0, y1⟩ := M4.out
              have gg := G4.out
              unfold Free at gg
              have ff := F1'.out
              unfold Free at ff
              cases b with
              | false =>
                have NO := hide (show ∀ r k D S, ¬ TR s.data.toList r k D S from fun r' k' D S h => by
                  obtain ⟨q1, q2, q3, q4, q5, q6⟩ := FOUND.out r' k' D S h
                  rcases hread with ⟨q, _⟩ | ⟨_, _, hno⟩
                  · exact absurd q (by decide)
                  · have := q5 k (by have := HN.out; have := QN.out; omega)
                    rw [EQ.out] at this
                    exact hno _ this)
                clear hread ES
                go_wp2_with fail
                refine bodyPost_ret (v := .tuple #[.agg #[.slice none 0 0, .slice none 0 0], .bool false]) (by simp [results, Tryz.results5, go_sem, y0, y1]) rfl (rdR_no NO.out ?_)
                exact (B1.out.setCell (p := ⟨w.heap.size, 0, none⟩) (Nat.le_refl _) _).setCell (p := ⟨w.heap.size, 1, none⟩) (Nat.le_refl _) _
              | true =>
                have hsw : Base.Shown x x' := by
                  rcases hread with ⟨_, q⟩ | ⟨q, _⟩
                  · exact q
                  · exact absurd q (by decide)
                have ex : Sm s.data.toList j k = x' := by rw [ES.out, Base.shown_guess hsw]
                have HX := hide ex
                have xb := hide (show bd x' by have h1 := hsw.1; have h2 := hsw.2.1; unfold bd; omega)
                have S1 := hide (show ∀ t, t < k + 1 → Base.Shown ((Tl s.data.toList j).getD (t + 1) []) (Sm s.data.toList j t) from fun t ht => by
                  by_cases e : t = k
                  · subst e; rw [EQ.out, HX.out]; exact hsw
                  · exact S0.out t (by omega))
                clear hread ES hsw ex
                have nbl := hide (show ∀ b, b < w4.heap.size → ¬ vs.ownBlock = some b from fun b hb hj => by have := (R1.out.lt hj).1; omega)
                go_wp2_with (at_builtin; refine wpList_append_own _ rfl _ _ 22 rfl w4.heap.size 3 i0 (.int .i64 0) 1 8 Tryz.underlying22 hi0 hz0 hz1 hz2 rfl (by decide) _ _ _ rfl (R1.out.1.alloc _) ⟨V1.heap.size, 0, none⟩ 1 1 [.int .i64 x'] rfl rfl (World.news_of_block (cs := #[.int .i64 x']) (t := 3) (fr := (0, 0)) (heap_alloc_new V1 _)) (by simp [Value.oneCell']) (by unfold maxLen; omega) (by omega) (by simp; omega) ?_; intro v'' V2 hown1 hgrow1 _; obtain ⟨av, cv, rfl⟩ := own_form hown1; have KA : Kept (fun b => vs.ownBlock = some b) V1 V2 := (Kept.of_below ((Below.refl _ V1).alloc (Nat.le_refl _) (.cells #[.int .i64 x'] 3))).trans ⟨hgrow1.os, hgrow1.tape, hgrow1.output, hgrow1.size, fun b hb hn => hgrow1.block b hb (fun q => hn q.symm)⟩; have e1 : V2.cell? ⟨w.heap.size + 1, 1, none⟩ = some vs := (World.cell?_of_block (w := V1) (a := ⟨w.heap.size + 1, 1, none⟩) (KA.block (w.heap.size + 1) (by omega) (nbl.out _ (by omega)))).trans x1; have e2 : V2.frozen? ⟨w.heap.size + 1, 1, none⟩ = false := (World.frozen?_of_block (w := V1) (a := ⟨w.heap.size + 1, 1, none⟩) (KA.block (w.heap.size + 1) (by omega) (nbl.out _ (by omega)))).trans (ff 1))
                go_roundw
                case rel =>
                  have R2 : RowV w4.heap.size V2 (.slice av (k + 1) cv) (k + 1) (Sm s.data.toList j) := ⟨by rw [← ints_succ, HX.out]; exact hown1, fun t ht => by
                    by_cases e : t = k
                    · rw [e, HX.out]; exact xb.out
                    · exact R1.out.2 t (by omega)⟩
                  have ks := Kept.setCell V2 ⟨w.heap.size + 1, 1, none⟩ (.slice av (k + 1) cv)
                  have n1 : ¬ vs.ownBlock = some w.heap.size := nbl.out _ (by omega)
                  have n2 : ¬ vs.ownBlock = some (w.heap.size + 1) := nbl.out _ (by omega)
                  have n3 : ¬ vs.ownBlock = some g2 := nbl.out _ g2lt.out
                  have s2 := KA.size
                  have e3 : q + 1 - 1 = k + 1 := by have := HK.out; omega
                  refine ⟨q + 1, .slice av (k + 1) cv, by omega, by omega, by go_num, ?_, ?_, bx_set1' (X1.out.kept KA (by omega) n2) _, (F1'.out.kept KA (by omega) n2).set _ _, (M4.out.kept KA (by omega) n1).kept ks (by omega) (by show ¬ w.heap.size = w.heap.size + 1; omega), (G4.out.kept KA (by omega) n1).set _ _, (T1.out.kept KA n3).kept ks (by show ¬ g2 = w.heap.size + 1; omega), (D1.out.kept KA (fun b hb hb' => nbl.out b (DLT.out b hb) hb')).kept ks (fun b hb e => by have e : b = w.heap.size + 1 := e; have := (D1.out.lt hb).1; omega), ?_, ?_⟩
                  · rw [e3]
                    exact R2.kept ks (fun b hb e => by have e : b = w.heap.size + 1 := e; have := (R2.lt hb).1; omega)
                  · rw [e3]; exact S1.out
                  · exact (B1.out.trans (KA.below B1.out.size (fun b hb => by have := (R1.out.lt hb).1; omega))).setCell (p := ⟨w.heap.size + 1, 1, none⟩) (by show w.heap.size ≤ w.heap.size + 1; omega) _
                  · have : (V2.setCell ⟨w.heap.size + 1, 1, none⟩ (.slice av (k + 1) cv)).heap.size = V2.heap.size := by simp [World.setCell]
                    omega
                case measure => simp [intOf]; omega
            · have qI : decide ((q : Int) < (n : Int) + 1) = false := decide_eq_false (by omega)
              have qI' : decide (q < n + 1) = false := decide_eq_false hlt
              have qI2 : decide ((q : Int) ≤ (n : Int)) = false := decide_eq_false (by omega)
              have qI3 : decide (q ≤ n) = false := decide_eq_false (by omega)
              have eq : q - 1 = n := by omega
              rw [eq] at R0 S0
              have YES := hide (show TR s.data.toList r n (Dm s.data.toList j) (Sm s.data.toList j) from by
                have e := HR.out
                have m := md_of (l := s.data.toList) (e := j) (s := n) (S := Sm s.data.toList j) AT.out N93.out H91.out (by rw [e]; exact HD.out) HN.out h00.out (by rw [e]; exact HS.out) S0.out
                rw [e] at m
                exact m.tr)
              obtain ⟨a', c', rfl, _⟩ := R0.out.own
              obtain ⟨x0, x1⟩ := X0.out
              obtain ⟨y0, y1⟩ := M3.out
              have gg := G3.out
              unfold Free at gg
              clear hlt eq htx
              go_wp2_with fail
              refine bodyPost_ret (v := .tuple #[.agg #[.slice ad r cd, .slice a' n c'], .bool true]) (by simp [results, Tryz.results5, go_sem, y0, y1]) rfl (rdR_yes YES.out ?_ ?_)
              · have ks := (Kept.setCell V ⟨w.heap.size, 0, none⟩ (.slice ad r cd)).trans (Kept.setCell _ ⟨w.heap.size, 1, none⟩ (.slice a' n c'))
                exact row_own2 (D0.out.kept ks (fun b hb e => by have e : b = w.heap.size := e; have := (D0.out.lt hb).1; omega)) (R0.out.kept ks (fun b hb e => by have e : b = w.heap.size := e; have := (R0.out.lt hb).1; omega)) (by omega) (by omega) DLT.out
              · exact (B0.out.setCell (p := ⟨w.heap.size, 0, none⟩) (Nat.le_refl _) _).setCell (p := ⟨w.heap.size, 1, none⟩) (Nat.le_refl _) _
      · have e4 : (((s[j]'hlt).toNat : Int) == 93) = false := beq_eq_false_iff_ne.2 (fun q => c4 ((b91 (n := 93) (by omega)).2 q))
        have N2 := hide (show ∀ k, k < j + 1 → s.data.toList[k]? ≠ some 93 from fun k hk q => by
          by_cases ek : k = j
          · subst ek
            rw [byte_at hlt] at q
            exact c4 (Option.some.inj q)
          · exact N93.out k (by omega) q)
        clear c4
        go_wp2_with fail
        go_round
        case rel => exact ⟨j + 1, by omega, by go_num, N2.out⟩
        case measure => simp [intOf]; omega
    · have jI : decide ((j : Int) < (s.size : Int)) = false := decide_eq_false (by omega)
      have jI' : decide (j < s.size) = false := decide_eq_false (by omega)
      have ej : j = s.size := by omega
      subst ej
      have NO := hide (show ∀ r k D S, ¬ TR s.data.toList r k D S from fun r k D S h => by
        obtain ⟨e, m⟩ := (BD.out r k D S h).2.2.2
        have := (List.getElem?_eq_some_iff.1 m.1).1
        rw [hl] at this
        exact N93.out e this m.1)
      clear BD hl
      go_wp2_with fail
      refine bodyPost_ret (v := .tuple #[.agg #[.slice none 0 0, .slice none 0 0], .bool false]) (by simp [results, Tryz.results5, go_sem, y0, y1]) rfl (rdR_no NO.out ?_)
      repeat (refine Below.setCell ?_ (by simp) _)
      exact (Below.refl _ _).alloc (Nat.le_refl _) _
end Vo
end Go.Proofs.YtbbmbgjjhaajjaaGreatDoor
