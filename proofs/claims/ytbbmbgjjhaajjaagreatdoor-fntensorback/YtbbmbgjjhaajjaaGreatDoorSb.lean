/- A text that is built: what is written, one piece behind the other. -/
import Derived.Test.YtbbmbgjjhaajjaaGreatDoorShow
import Derived.Test.YtbbmbgjjhaajjaaGreatDoorTb
import Derived.Lib.FrozenHead
namespace Go.Proofs.YtbbmbgjjhaajjaaGreatDoor
namespace Vo
open Go.ChangeShapes Go.WideShapes Go.ChangeAt Go.RowKit Go.Joins
open Vl Vp
set_option linter.unusedVariables false
set_option linter.unusedSimpArgs false
theorem bld_size : (Tryz.prog.info? 71).map (·.size) = some 2 := by kernel_rfl
theorem bld_lies : liesAt Tryz.prog Tryz.prog.depth 71 (2 / Tryz.prog.cellsOf 71) 0 71 1 = true := by kernel_rfl
theorem bld_byte : (Tryz.prog.info? 5).map (fun i => (i.zero, i.size, i.bytes)) = some (some (.int .u8 0), 1, 1) := by kernel_rfl
set_option maxHeartbeats 1000000 in
set_option maxRecDepth 100000 in
theorem checkFresh (b : Nat) (w : World) (h0 : w.cell? ⟨b, 0, none⟩ = some (.pointer none)) (hsh : w.shape? b = some (71, 2)) (hfz : w.frozen? ⟨b, 0, none⟩ = false) :
    Calls Tryz.prog 78 #[.pointer (some ⟨b, 0, none⟩)] w fun e w' => e = .returned (.tuple #[]) ∧ w' = w.setCell ⟨b, 0, none⟩ (.pointer (some ⟨b, 0, none⟩)) := by
  obtain ⟨j, hj, hjs⟩ := Option.map_eq_some_iff.1 bld_size
  go_enter Tryz.func78, Tryz.ntmps78
  go_wp2_with fail
  rw [Lib.run_to_unsafe w ⟨b, 0, none⟩ Tryz.underlying69 Tryz.underlying110 hj (by rw [hjs]; decide) hsh (Nat.zero_lt_succ 1)]
  simp only [Result.andThen]
  rw [Oper.upon_value]
  go_wp2_with fail
  rw [run_callFunc_extern Tryz.func93 (by kernel_rfl) (by kernel_rfl) (by kernel_rfl) (e := Extern.AbiNoEscape.same) (by kernel_rfl)]
  rw [Lib.run_noEscape]
  simp only [Result.andThen]
  rw [Oper.upon_value]
  go_wp2_with fail
  rw [Lib.run_from_unsafe w ⟨b, 0, none⟩ Tryz.underlying110 Tryz.underlying69 hj hsh bld_lies]
  simp only [Result.andThen]
  rw [Oper.upon_value]
  go_wp2_with fail
  go_end0
  exact ⟨rfl, rfl⟩
set_option maxRecDepth 100000 in
set_option maxHeartbeats 1000000 in
theorem checkUsed (b : Nat) (w : World) (h0 : w.cell? ⟨b, 0, none⟩ = some (.pointer (some ⟨b, 0, none⟩))) :
    Calls Tryz.prog 78 #[.pointer (some ⟨b, 0, none⟩)] w fun e w' => e = .returned (.tuple #[]) ∧ w' = w := by
  obtain ⟨j, hj, hjs⟩ := Option.map_eq_some_iff.1 bld_size
  go_enter Tryz.func78, Tryz.ntmps78
  go_wp2_with fail
  rw [Lib.run_neq_ptr_same w _ Tryz.underlying69 hj]
  go_wp2_with fail
  go_end0
  exact ⟨rfl, rfl⟩
theorem checked (B b : Nat) (bs : List Value) (w : World) (h : Lib.IsBuilderF 71 5 B b bs w) :
    Calls Tryz.prog 78 #[.pointer (some ⟨b, 0, none⟩)] w fun e w' => e = .returned (.tuple #[]) ∧ Lib.BuilderAtF 71 5 B b (.pointer (some ⟨b, 0, none⟩)) bs w' ∧ Below B w w' := by
  rcases h with h | h
  · refine (checkFresh b w h.cell0 h.shape h.frozen0).mono ?_
    rintro e w' ⟨rfl, rfl⟩
    exact ⟨rfl, h.used _, (Below.refl B w).setCell (p := ⟨b, 0, none⟩) h.1 _⟩
  · refine (checkUsed b w h.cell0).mono ?_
    rintro e w' ⟨rfl, rfl⟩
    exact ⟨rfl, h, Below.refl B _⟩
set_option maxHeartbeats 2000000 in
set_option maxRecDepth 100000 in
theorem writeS (B b : Nat) (bs : List Value) (s : ByteArray) (w : World) (h : Lib.IsBuilderF 71 5 B b bs w) (hlen : bs.length + s.size ≤ 140737488355328) (hBw : B ≤ w.heap.size) :
    Calls Tryz.prog 55 #[.pointer (some ⟨b, 0, none⟩), .string s] w fun e w' => (∃ v, e = .returned v) ∧ Lib.IsBuilderF 71 5 B b (bs ++ Lib.strCells s) w' ∧ Below B w w' := by
  obtain ⟨i0, hi, hz0, hz1, hz2⟩ := info_parts bld_byte
  go_enter Tryz.func55, Tryz.ntmps55
  go_wp2_with fail
  refine (checked B b bs _ h).mono ?_
  rintro e w1 ⟨rfl, h1, hb1⟩
  obtain ⟨hB, v, hbk, hown, hne⟩ := h1
  have c0 : w1.cell? ⟨b, 0, none⟩ = some (.pointer (some ⟨b, 0, none⟩)) := by rw [Lib.cell_of_heap hbk]; rfl
  have c1 : w1.cell? ⟨b, 1, none⟩ = some v := by rw [Lib.cell_of_heap hbk]; rfl
  go_wp2_with (at_builtin; refine Lib.wpList_append_own_stringF _ rfl _ _ 30 9 rfl B 5 i0 Tryz.underlying30 Tryz.underlying9 hi hz0 hz1 hz2 _ _ _ rfl hown s rfl ?c3 ?c4 ?c5 ?_)
  case c3 => unfold maxLen; omega
  case c4 => omega
  case c5 => have := hb1.size; omega
  intro v' w2 hown' hgrow _
  have hlt : b < w1.heap.size := by
    rcases Nat.lt_or_ge b w1.heap.size with h' | h'
    · exact h'
    · simp [Array.getElem?_eq_none h'] at hbk
  have hb2 : w2.heap[b]? = some (.cells #[.pointer (some ⟨b, 0, none⟩), v] 71 (0, 0)) := by
    rw [hgrow.block b hlt (fun e => hne e.symm)]
    exact hbk
  have d0 : w2.cell? ⟨b, 0, none⟩ = some (.pointer (some ⟨b, 0, none⟩)) := by rw [Lib.cell_of_heap hb2]; rfl
  have d1 : w2.cell? ⟨b, 1, none⟩ = some v := by rw [Lib.cell_of_heap hb2]; rfl
  have f1 : w2.frozen? ⟨b, 1, none⟩ = false := Lib.frozen_of_heap hb2 1
  obtain ⟨ao, n', cap, rfl⟩ : ∃ ao n' cap, v' = .slice ao n' cap := by
    rcases hown'.2 with ⟨hv, _⟩ | ⟨g, cap, cur, fz, hv, _⟩
    · exact ⟨_, _, _, hv⟩
    · exact ⟨_, _, _, hv⟩
  go_wp2_with fail
  go_ret2
  refine ⟨⟨_, rfl⟩, .inr ?_, ?_⟩
  · exact Lib.BuilderAtF.put (T := 71) (e := 5) hB hb2 (bs' := bs ++ Lib.strCells s) (by simpa [Lib.strCells_length] using hown') (by decide)
  · exact (hb1.grown hgrow (by have := hb1.size; omega) (fun k hk => (hown.lt k hk).1)).setCell (p := ⟨b, 1, none⟩) hB _
theorem IsBld.below {T e : TypeId} {B b : Nat} {bs : List Value} {w w' : World} (h : Lib.IsBuilderF T e B b bs w) (hb : Below w.heap.size w w') : Lib.IsBuilderF T e B b bs w' := by
  have g : w.grownBy w' none := ⟨hb.os, hb.tape, hb.output, hb.size, fun k hk _ => hb.block k hk⟩
  have key : ∀ p, Lib.BuilderAtF T e B b p bs w → Lib.BuilderAtF T e B b p bs w' := by
    rintro p ⟨hB, v, hbk, hown, hne⟩
    have hlt : b < w.heap.size := by
      rcases Nat.lt_or_ge b w.heap.size with h' | h'
      · exact h'
      · simp [Array.getElem?_eq_none h'] at hbk
    refine ⟨hB, v, by rw [hb.block b hlt]; exact hbk, hown.kept (row := none) g ?_, hne⟩
    cases hv : v.ownBlock with
    | none => exact .inl rfl
    | some k => exact .inr (by simp)
  rcases h with h | h
  · exact .inl (key _ h)
  · exact .inr (key _ h)
/-- texts, each with a blank ahead -/
def blanks (T : Nat → List UInt8) : Nat → List UInt8 | 0 => [] | n + 1 => blanks T n ++ 32 :: T n
theorem blanks_len {T : Nat → List UInt8} {n : Nat} (h : ∀ k, k < n → (T k).length ≤ 8589934592) : (blanks T n).length ≤ 8589934593 * n := by
  induction n with
  | zero => simp [blanks]
  | succ n ih =>
    have a := ih (fun k hk => h k (by omega))
    have b := h n (by omega)
    simp only [blanks, List.length_append, List.length_cons]
    omega
/-- a function value that shows the numbers of a list -/
def ShowV (F : Nat) (r : Nat) (D : Nat → Int) (T : Nat → List UInt8) : Prop := (∀ args w, (callFunc F args).run Tryz.prog w = .ok (.enter F args) w) ∧ ∀ k, k < r → ∀ w, Base.Pows w → Calls Tryz.prog F #[.int .i64 (D k)] w fun e w' => e = .returned (.string ⟨(T k).toArray⟩) ∧ Below w.heap.size w w'
set_option maxHeartbeats 2000000 in
set_option maxRecDepth 100000 in
theorem withBlanks (F : Nat) (B : Nat) (a : Option Addr) (r cap : Nat) (D : Nat → Int) (T : Nat → List UInt8) (w : World) (hF : ShowV F r D T) (hB : B ≤ w.heap.size) (h : Ints B w a r D) (hr : (r : Int) ≤ 4096) (hT : ∀ k, k < r → (T k).length ≤ 8589934592) (hp : Base.Pows w) :
    Calls Tryz.prog 29 #[.slice a r cap, .func (.func F) #[] #[]] w fun e w' => e = .returned (.string ⟨(blanks T r).toArray⟩) ∧ Below w.heap.size w w' := by
  obtain ⟨W0, hW0⟩ : ∃ W0, w.alloc (.cells #[.pointer none, .slice none 0 0] 71) = W0 := ⟨_, rfl⟩
  have bl : Below w.heap.size w W0 := by rw [← hW0]; exact (Below.refl _ _).alloc (Nat.le_refl _) _
  have z0 : W0.heap.size = w.heap.size + 1 := by rw [← hW0]; simp
  have i0 : Lib.IsBuilderF 71 5 w.heap.size w.heap.size [] W0 := by rw [← hW0]; exact Lib.IsBuilderF.of (Lib.fresh_isBuilder _ _ w)
  have I0 := hide i0
  have BL := hide bl
  have Z0 := hide z0
  have H := hide h
  have HT := hide hT
  have HP := hide hp
  have HF := hide hF.2
  have eF := hF.1
  clear h hT hp hF i0 bl z0
  go_enter Tryz.func29, Tryz.ntmps29
  go_wp2_with fail
  clear hW0
  go_loopw [10] (fun i wx => ∃ k : Nat, k ≤ r ∧ i = .int .i64 k ∧ Lib.IsBuilderF 71 5 w.heap.size w.heap.size (Lib.byteCells (blanks T k)) wx ∧ Below w.heap.size w wx ∧ w.heap.size < wx.heap.size) (fun i _ => r - (intOf i).toNat)
  case atStart => exact ⟨0, Nat.zero_le _, rfl, I0.out, BL.out, by have := Z0.out; omega⟩
  case round =>
    obtain ⟨X, rfl⟩ : ∃ X, X = wr := ⟨_, rfl⟩
    obtain ⟨k, hk, rfl, hbd, hby, hsz⟩ := hrel
    have HBD := hide hbd
    have HBY := hide hby
    clear hbd hby
    by_cases hlt : k < r
    · have kI : (k : Int) < r := by omega
      rcases H.out.below (HBY.out.mono hB) with h0 | ⟨b', off, rfl, hb', hc⟩
      · omega
      have c1 := (hc k hlt).1
      have CF := hide (HF.out k hlt X (Base.pows_below HBY.out HP.out))
      have tl := HT.out k hlt
      have bll := blanks_len (T := T) (n := k) (fun j hj => HT.out j (by omega))
      have hl : 1 + (T k).length ≤ 9223372036854775807 := by omega
      have hl2 : ¬ 9223372036854775807 < 1 + (T k).length := by omega
      clear hc
      go_wp2_with fail
      refine CF.out.mono ?_
      rintro e X1 ⟨rfl, b1⟩
      have BD1 := hide (IsBld.below HBD.out b1)
      have BY1 := hide (HBY.out.trans (b1.mono HBY.out.size))
      have sz1 := b1.size
      clear b1 c1
      have ES := hide (show ((⟨#[32]⟩ : ByteArray) ++ ⟨(T k).toArray⟩) = ⟨(32 :: T k).toArray⟩ by apply ByteArray.ext; simp)
      have CW := hide (writeS w.heap.size w.heap.size (Lib.byteCells (blanks T k)) ⟨(32 :: T k).toArray⟩ X1 BD1.out (by rw [Lib.byteCells_length]; show _ + (32 :: T k).toArray.size ≤ _; simp only [List.size_toArray, List.length_cons]; omega) (by omega))
      rw [← ES.out] at CW
      go_wp2_with fail
      refine CW.out.mono ?_
      rintro e X2 ⟨⟨v, rfl⟩, h2, b2⟩
      have BD2 := hide (show Lib.IsBuilderF 71 5 w.heap.size w.heap.size (Lib.byteCells (blanks T (k + 1))) X2 by
        have e := h2
        rw [ES.out, show Lib.strCells ⟨(32 :: T k).toArray⟩ = Lib.byteCells (32 :: T k) from rfl, ← Lib.byteCells_append] at e
        exact e)
      have BY2 := hide (BY1.out.trans b2)
      have sz2 := b2.size
      clear h2 b2 CW
      go_wp2_with fail
      go_roundw
      all_goals first
        | (simp only [intOf]; omega)
        | (simp [intOf]; omega)
        | exact ⟨k + 1, by omega, by go_num, BD2.out, BY2.out, by omega⟩
    · obtain rfl : k = r := by omega
      have CS := hide (Tryz.Builder_String_any_f w.heap.size w.heap.size (blanks T k) X HBD.out (by omega))
      go_wp2_with fail
      refine CS.out.mono ?_
      rintro e X2 ⟨rfl, _, b2⟩
      have BY2 := hide (HBY.out.trans b2)
      clear b2
      go_wp2_with fail
      go_ret
      exact ⟨rfl, BY2.out⟩
end Vo
end Go.Proofs.YtbbmbgjjhaajjaaGreatDoor
