/- Lemmas for the proof of the law. -/
import Derived.Test.YtejfodkobfdelaaMgah
import Derived.Test.YtejfodkobfdelaaMgai
/- The table of turns by their names. -/
namespace Go.Proofs.Ytejfodkobfdelaa
namespace Vo
open Go.ChangeShapes Go.WideShapes Go.ChangeAt Go.RowKit Go.Joins
open Vl Vp Vr
set_option linter.unusedVariables false

theorem put_alloc (w : World) (o o' : Obj) : (w.alloc o).putObj w.heap.size o' = w.alloc o' := by
  have e : (w.heap.push o).setIfInBounds w.heap.size o' = w.heap.push o' := by
    apply Array.ext_getElem?
    intro i
    rw [Array.getElem?_setIfInBounds, Array.getElem?_push, Array.getElem?_push]
    by_cases h : w.heap.size = i
    · subst h; simp
    · rw [if_neg h, if_neg (by omega), if_neg (by omega)]
  show ({ (w.alloc o) with heap := (w.heap.push o).setIfInBounds w.heap.size o' } : World) = _
  rw [e]; rfl
theorem tmap : Try.prog.underlying 67 = some (.map 9 61) := by kernel_rfl
theorem tstr : Try.prog.underlying 9 = some .string := by kernel_rfl
theorem map_put (w : World) (es : Array MapEntry) (c : Nat) (s : ByteArray) (v : Value) (hn : Instr.findNow .string (.string s) es.toList 0 = some none) :
    (Instr.mapUpdate 67 (.map (some w.heap.size)) (.string s) v).run Try.prog (w.alloc (.map es c)) = .ok () (w.alloc (.map (es.push { key := .string s, val := v, born := c }) (c + 1))) := by
  have hb : (w.alloc (.map es c)).heap[w.heap.size]? = some (.map es c) := new_heap w _
  have hc : (Instr.checkKey false 10000 9 (.string s)).run Try.prog (w.alloc (.map es c)) = .ok () (w.alloc (.map es c)) := MapKept.run_checkKey (k := .string s) tstr (by simp [MapKept.IsKey]) false 9999
  simp [Instr.mapUpdate, run_underlying tmap, MapKept.run_getObj_map hb, hc, MapKept.run_findKey tstr hn, MapKept.run_setObj_map _ hb, Result.andThen]
  exact put_alloc w _ _
theorem map_get (w : World) (es : Array MapEntry) (c i : Nat) (s : ByteArray) (v : Value) (hn : Instr.findNow .string (.string s) es.toList 0 = some (some (i, v))) :
    (Instr.lookup 67 (.map (some w.heap.size)) (.string s) false).run Try.prog (w.alloc (.map es c)) = .ok v (w.alloc (.map es c)) := by
  have hb : (w.alloc (.map es c)).heap[w.heap.size]? = some (.map es c) := new_heap w _
  have hc : ∀ b, (Instr.checkKey b 10000 9 (.string s)).run Try.prog (w.alloc (.map es c)) = .ok () (w.alloc (.map es c)) := fun b => MapKept.run_checkKey (k := .string s) tstr (by simp [MapKept.IsKey]) b 9999
  simp [Instr.lookup, run_underlying tmap, MapKept.run_getObj_map hb, hc, MapKept.run_findKey tstr hn, Result.andThen]
theorem put0 (w : World) : (Instr.mapUpdate 67 (.map (some w.heap.size)) (.string ⟨#[115, 108, 105, 99, 101]⟩) (.func (.func 71) #[] #[])).run Try.prog (w.alloc (.map #[] 0)) = .ok () (w.alloc (.map #[{ key := .string ⟨#[115, 108, 105, 99, 101]⟩, val := (.func (.func 71) #[] #[]), born := 0 }] 1)) := map_put w #[] 0 _ _ (by rfl)
theorem put1 (w : World) : (Instr.mapUpdate 67 (.map (some w.heap.size)) (.string ⟨#[112, 101, 114, 109, 117, 116, 101]⟩) (.func (.func 72) #[] #[])).run Try.prog (w.alloc (.map #[{ key := .string ⟨#[115, 108, 105, 99, 101]⟩, val := (.func (.func 71) #[] #[]), born := 0 }] 1)) = .ok () (w.alloc (.map #[{ key := .string ⟨#[115, 108, 105, 99, 101]⟩, val := (.func (.func 71) #[] #[]), born := 0 }, { key := .string ⟨#[112, 101, 114, 109, 117, 116, 101]⟩, val := (.func (.func 72) #[] #[]), born := 1 }] 2)) := map_put w #[{ key := .string ⟨#[115, 108, 105, 99, 101]⟩, val := (.func (.func 71) #[] #[]), born := 0 }] 1 _ _ (by rfl)
theorem put2 (w : World) : (Instr.mapUpdate 67 (.map (some w.heap.size)) (.string ⟨#[115, 112, 114, 101, 97, 100]⟩) (.func (.func 73) #[] #[])).run Try.prog (w.alloc (.map #[{ key := .string ⟨#[115, 108, 105, 99, 101]⟩, val := (.func (.func 71) #[] #[]), born := 0 }, { key := .string ⟨#[112, 101, 114, 109, 117, 116, 101]⟩, val := (.func (.func 72) #[] #[]), born := 1 }] 2)) = .ok () (w.alloc (.map #[{ key := .string ⟨#[115, 108, 105, 99, 101]⟩, val := (.func (.func 71) #[] #[]), born := 0 }, { key := .string ⟨#[112, 101, 114, 109, 117, 116, 101]⟩, val := (.func (.func 72) #[] #[]), born := 1 }, { key := .string ⟨#[115, 112, 114, 101, 97, 100]⟩, val := (.func (.func 73) #[] #[]), born := 2 }] 3)) := map_put w #[{ key := .string ⟨#[115, 108, 105, 99, 101]⟩, val := (.func (.func 71) #[] #[]), born := 0 }, { key := .string ⟨#[112, 101, 114, 109, 117, 116, 101]⟩, val := (.func (.func 72) #[] #[]), born := 1 }] 2 _ _ (by rfl)
theorem put3 (w : World) : (Instr.mapUpdate 67 (.map (some w.heap.size)) (.string ⟨#[114, 101, 115, 104, 97, 112, 101]⟩) (.func (.func 74) #[] #[])).run Try.prog (w.alloc (.map #[{ key := .string ⟨#[115, 108, 105, 99, 101]⟩, val := (.func (.func 71) #[] #[]), born := 0 }, { key := .string ⟨#[112, 101, 114, 109, 117, 116, 101]⟩, val := (.func (.func 72) #[] #[]), born := 1 }, { key := .string ⟨#[115, 112, 114, 101, 97, 100]⟩, val := (.func (.func 73) #[] #[]), born := 2 }] 3)) = .ok () (w.alloc (.map #[{ key := .string ⟨#[115, 108, 105, 99, 101]⟩, val := (.func (.func 71) #[] #[]), born := 0 }, { key := .string ⟨#[112, 101, 114, 109, 117, 116, 101]⟩, val := (.func (.func 72) #[] #[]), born := 1 }, { key := .string ⟨#[115, 112, 114, 101, 97, 100]⟩, val := (.func (.func 73) #[] #[]), born := 2 }, { key := .string ⟨#[114, 101, 115, 104, 97, 112, 101]⟩, val := (.func (.func 74) #[] #[]), born := 3 }] 4)) := map_put w #[{ key := .string ⟨#[115, 108, 105, 99, 101]⟩, val := (.func (.func 71) #[] #[]), born := 0 }, { key := .string ⟨#[112, 101, 114, 109, 117, 116, 101]⟩, val := (.func (.func 72) #[] #[]), born := 1 }, { key := .string ⟨#[115, 112, 114, 101, 97, 100]⟩, val := (.func (.func 73) #[] #[]), born := 2 }] 3 _ _ (by rfl)
theorem put4 (w : World) : (Instr.mapUpdate 67 (.map (some w.heap.size)) (.string ⟨#[119, 105, 110, 100, 111, 119, 115]⟩) (.func (.func 75) #[] #[])).run Try.prog (w.alloc (.map #[{ key := .string ⟨#[115, 108, 105, 99, 101]⟩, val := (.func (.func 71) #[] #[]), born := 0 }, { key := .string ⟨#[112, 101, 114, 109, 117, 116, 101]⟩, val := (.func (.func 72) #[] #[]), born := 1 }, { key := .string ⟨#[115, 112, 114, 101, 97, 100]⟩, val := (.func (.func 73) #[] #[]), born := 2 }, { key := .string ⟨#[114, 101, 115, 104, 97, 112, 101]⟩, val := (.func (.func 74) #[] #[]), born := 3 }] 4)) = .ok () (w.alloc (.map #[{ key := .string ⟨#[115, 108, 105, 99, 101]⟩, val := (.func (.func 71) #[] #[]), born := 0 }, { key := .string ⟨#[112, 101, 114, 109, 117, 116, 101]⟩, val := (.func (.func 72) #[] #[]), born := 1 }, { key := .string ⟨#[115, 112, 114, 101, 97, 100]⟩, val := (.func (.func 73) #[] #[]), born := 2 }, { key := .string ⟨#[114, 101, 115, 104, 97, 112, 101]⟩, val := (.func (.func 74) #[] #[]), born := 3 }, { key := .string ⟨#[119, 105, 110, 100, 111, 119, 115]⟩, val := (.func (.func 75) #[] #[]), born := 4 }] 5)) := map_put w #[{ key := .string ⟨#[115, 108, 105, 99, 101]⟩, val := (.func (.func 71) #[] #[]), born := 0 }, { key := .string ⟨#[112, 101, 114, 109, 117, 116, 101]⟩, val := (.func (.func 72) #[] #[]), born := 1 }, { key := .string ⟨#[115, 112, 114, 101, 97, 100]⟩, val := (.func (.func 73) #[] #[]), born := 2 }, { key := .string ⟨#[114, 101, 115, 104, 97, 112, 101]⟩, val := (.func (.func 74) #[] #[]), born := 3 }] 4 _ _ (by rfl)
theorem put5 (w : World) : (Instr.mapUpdate 67 (.map (some w.heap.size)) (.string ⟨#[100, 105, 97, 103, 111, 110, 97, 108]⟩) (.func (.func 76) #[] #[])).run Try.prog (w.alloc (.map #[{ key := .string ⟨#[115, 108, 105, 99, 101]⟩, val := (.func (.func 71) #[] #[]), born := 0 }, { key := .string ⟨#[112, 101, 114, 109, 117, 116, 101]⟩, val := (.func (.func 72) #[] #[]), born := 1 }, { key := .string ⟨#[115, 112, 114, 101, 97, 100]⟩, val := (.func (.func 73) #[] #[]), born := 2 }, { key := .string ⟨#[114, 101, 115, 104, 97, 112, 101]⟩, val := (.func (.func 74) #[] #[]), born := 3 }, { key := .string ⟨#[119, 105, 110, 100, 111, 119, 115]⟩, val := (.func (.func 75) #[] #[]), born := 4 }] 5)) = .ok () (w.alloc (.map #[{ key := .string ⟨#[115, 108, 105, 99, 101]⟩, val := (.func (.func 71) #[] #[]), born := 0 }, { key := .string ⟨#[112, 101, 114, 109, 117, 116, 101]⟩, val := (.func (.func 72) #[] #[]), born := 1 }, { key := .string ⟨#[115, 112, 114, 101, 97, 100]⟩, val := (.func (.func 73) #[] #[]), born := 2 }, { key := .string ⟨#[114, 101, 115, 104, 97, 112, 101]⟩, val := (.func (.func 74) #[] #[]), born := 3 }, { key := .string ⟨#[119, 105, 110, 100, 111, 119, 115]⟩, val := (.func (.func 75) #[] #[]), born := 4 }, { key := .string ⟨#[100, 105, 97, 103, 111, 110, 97, 108]⟩, val := (.func (.func 76) #[] #[]), born := 5 }] 6)) := map_put w #[{ key := .string ⟨#[115, 108, 105, 99, 101]⟩, val := (.func (.func 71) #[] #[]), born := 0 }, { key := .string ⟨#[112, 101, 114, 109, 117, 116, 101]⟩, val := (.func (.func 72) #[] #[]), born := 1 }, { key := .string ⟨#[115, 112, 114, 101, 97, 100]⟩, val := (.func (.func 73) #[] #[]), born := 2 }, { key := .string ⟨#[114, 101, 115, 104, 97, 112, 101]⟩, val := (.func (.func 74) #[] #[]), born := 3 }, { key := .string ⟨#[119, 105, 110, 100, 111, 119, 115]⟩, val := (.func (.func 75) #[] #[]), born := 4 }] 5 _ _ (by rfl)
theorem get0 (w : World) : (Instr.lookup 67 (.map (some w.heap.size)) (.string ⟨#[115, 108, 105, 99, 101]⟩) false).run Try.prog (w.alloc (.map #[{ key := .string ⟨#[115, 108, 105, 99, 101]⟩, val := (.func (.func 71) #[] #[]), born := 0 }, { key := .string ⟨#[112, 101, 114, 109, 117, 116, 101]⟩, val := (.func (.func 72) #[] #[]), born := 1 }, { key := .string ⟨#[115, 112, 114, 101, 97, 100]⟩, val := (.func (.func 73) #[] #[]), born := 2 }, { key := .string ⟨#[114, 101, 115, 104, 97, 112, 101]⟩, val := (.func (.func 74) #[] #[]), born := 3 }, { key := .string ⟨#[119, 105, 110, 100, 111, 119, 115]⟩, val := (.func (.func 75) #[] #[]), born := 4 }, { key := .string ⟨#[100, 105, 97, 103, 111, 110, 97, 108]⟩, val := (.func (.func 76) #[] #[]), born := 5 }] 6)) = .ok (.func (.func 71) #[] #[]) (w.alloc (.map #[{ key := .string ⟨#[115, 108, 105, 99, 101]⟩, val := (.func (.func 71) #[] #[]), born := 0 }, { key := .string ⟨#[112, 101, 114, 109, 117, 116, 101]⟩, val := (.func (.func 72) #[] #[]), born := 1 }, { key := .string ⟨#[115, 112, 114, 101, 97, 100]⟩, val := (.func (.func 73) #[] #[]), born := 2 }, { key := .string ⟨#[114, 101, 115, 104, 97, 112, 101]⟩, val := (.func (.func 74) #[] #[]), born := 3 }, { key := .string ⟨#[119, 105, 110, 100, 111, 119, 115]⟩, val := (.func (.func 75) #[] #[]), born := 4 }, { key := .string ⟨#[100, 105, 97, 103, 111, 110, 97, 108]⟩, val := (.func (.func 76) #[] #[]), born := 5 }] 6)) := map_get w _ _ 0 _ _ (by rfl)
theorem sliceNamed (w : World) : Calls Try.prog 46 #[.string ⟨#[115, 108, 105, 99, 101]⟩] w fun e w' => e = .returned (.func (.func 71) #[] #[]) ∧ Below w.heap.size w w' := by
  have hmm := @run_makeMap Try.prog
  have q0 := put0
  have q1 := put1
  have q2 := put2
  have q3 := put3
  have q4 := put4
  have q5 := put5
  have q6 := get0
  go_enter Try.func46, Try.ntmps46
  go_wp2_with fail
  go_ret
  exact ⟨rfl, (Below.refl _ _).alloc (Nat.le_refl _) _⟩
theorem get1 (w : World) : (Instr.lookup 67 (.map (some w.heap.size)) (.string ⟨#[112, 101, 114, 109, 117, 116, 101]⟩) false).run Try.prog (w.alloc (.map #[{ key := .string ⟨#[115, 108, 105, 99, 101]⟩, val := (.func (.func 71) #[] #[]), born := 0 }, { key := .string ⟨#[112, 101, 114, 109, 117, 116, 101]⟩, val := (.func (.func 72) #[] #[]), born := 1 }, { key := .string ⟨#[115, 112, 114, 101, 97, 100]⟩, val := (.func (.func 73) #[] #[]), born := 2 }, { key := .string ⟨#[114, 101, 115, 104, 97, 112, 101]⟩, val := (.func (.func 74) #[] #[]), born := 3 }, { key := .string ⟨#[119, 105, 110, 100, 111, 119, 115]⟩, val := (.func (.func 75) #[] #[]), born := 4 }, { key := .string ⟨#[100, 105, 97, 103, 111, 110, 97, 108]⟩, val := (.func (.func 76) #[] #[]), born := 5 }] 6)) = .ok (.func (.func 72) #[] #[]) (w.alloc (.map #[{ key := .string ⟨#[115, 108, 105, 99, 101]⟩, val := (.func (.func 71) #[] #[]), born := 0 }, { key := .string ⟨#[112, 101, 114, 109, 117, 116, 101]⟩, val := (.func (.func 72) #[] #[]), born := 1 }, { key := .string ⟨#[115, 112, 114, 101, 97, 100]⟩, val := (.func (.func 73) #[] #[]), born := 2 }, { key := .string ⟨#[114, 101, 115, 104, 97, 112, 101]⟩, val := (.func (.func 74) #[] #[]), born := 3 }, { key := .string ⟨#[119, 105, 110, 100, 111, 119, 115]⟩, val := (.func (.func 75) #[] #[]), born := 4 }, { key := .string ⟨#[100, 105, 97, 103, 111, 110, 97, 108]⟩, val := (.func (.func 76) #[] #[]), born := 5 }] 6)) := map_get w _ _ 1 _ _ (by rfl)
theorem permuteNamed (w : World) : Calls Try.prog 46 #[.string ⟨#[112, 101, 114, 109, 117, 116, 101]⟩] w fun e w' => e = .returned (.func (.func 72) #[] #[]) ∧ Below w.heap.size w w' := by
  have hmm := @run_makeMap Try.prog
  have q0 := put0
  have q1 := put1
  have q2 := put2
  have q3 := put3
  have q4 := put4
  have q5 := put5
  have q6 := get1
  go_enter Try.func46, Try.ntmps46
  go_wp2_with fail
  go_ret
  exact ⟨rfl, (Below.refl _ _).alloc (Nat.le_refl _) _⟩
theorem get2 (w : World) : (Instr.lookup 67 (.map (some w.heap.size)) (.string ⟨#[115, 112, 114, 101, 97, 100]⟩) false).run Try.prog (w.alloc (.map #[{ key := .string ⟨#[115, 108, 105, 99, 101]⟩, val := (.func (.func 71) #[] #[]), born := 0 }, { key := .string ⟨#[112, 101, 114, 109, 117, 116, 101]⟩, val := (.func (.func 72) #[] #[]), born := 1 }, { key := .string ⟨#[115, 112, 114, 101, 97, 100]⟩, val := (.func (.func 73) #[] #[]), born := 2 }, { key := .string ⟨#[114, 101, 115, 104, 97, 112, 101]⟩, val := (.func (.func 74) #[] #[]), born := 3 }, { key := .string ⟨#[119, 105, 110, 100, 111, 119, 115]⟩, val := (.func (.func 75) #[] #[]), born := 4 }, { key := .string ⟨#[100, 105, 97, 103, 111, 110, 97, 108]⟩, val := (.func (.func 76) #[] #[]), born := 5 }] 6)) = .ok (.func (.func 73) #[] #[]) (w.alloc (.map #[{ key := .string ⟨#[115, 108, 105, 99, 101]⟩, val := (.func (.func 71) #[] #[]), born := 0 }, { key := .string ⟨#[112, 101, 114, 109, 117, 116, 101]⟩, val := (.func (.func 72) #[] #[]), born := 1 }, { key := .string ⟨#[115, 112, 114, 101, 97, 100]⟩, val := (.func (.func 73) #[] #[]), born := 2 }, { key := .string ⟨#[114, 101, 115, 104, 97, 112, 101]⟩, val := (.func (.func 74) #[] #[]), born := 3 }, { key := .string ⟨#[119, 105, 110, 100, 111, 119, 115]⟩, val := (.func (.func 75) #[] #[]), born := 4 }, { key := .string ⟨#[100, 105, 97, 103, 111, 110, 97, 108]⟩, val := (.func (.func 76) #[] #[]), born := 5 }] 6)) := map_get w _ _ 2 _ _ (by rfl)
theorem spreadNamed (w : World) : Calls Try.prog 46 #[.string ⟨#[115, 112, 114, 101, 97, 100]⟩] w fun e w' => e = .returned (.func (.func 73) #[] #[]) ∧ Below w.heap.size w w' := by
  have hmm := @run_makeMap Try.prog
  have q0 := put0
  have q1 := put1
  have q2 := put2
  have q3 := put3
  have q4 := put4
  have q5 := put5
  have q6 := get2
  go_enter Try.func46, Try.ntmps46
  go_wp2_with fail
  go_ret
  exact ⟨rfl, (Below.refl _ _).alloc (Nat.le_refl _) _⟩
theorem get3 (w : World) : (Instr.lookup 67 (.map (some w.heap.size)) (.string ⟨#[114, 101, 115, 104, 97, 112, 101]⟩) false).run Try.prog (w.alloc (.map #[{ key := .string ⟨#[115, 108, 105, 99, 101]⟩, val := (.func (.func 71) #[] #[]), born := 0 }, { key := .string ⟨#[112, 101, 114, 109, 117, 116, 101]⟩, val := (.func (.func 72) #[] #[]), born := 1 }, { key := .string ⟨#[115, 112, 114, 101, 97, 100]⟩, val := (.func (.func 73) #[] #[]), born := 2 }, { key := .string ⟨#[114, 101, 115, 104, 97, 112, 101]⟩, val := (.func (.func 74) #[] #[]), born := 3 }, { key := .string ⟨#[119, 105, 110, 100, 111, 119, 115]⟩, val := (.func (.func 75) #[] #[]), born := 4 }, { key := .string ⟨#[100, 105, 97, 103, 111, 110, 97, 108]⟩, val := (.func (.func 76) #[] #[]), born := 5 }] 6)) = .ok (.func (.func 74) #[] #[]) (w.alloc (.map #[{ key := .string ⟨#[115, 108, 105, 99, 101]⟩, val := (.func (.func 71) #[] #[]), born := 0 }, { key := .string ⟨#[112, 101, 114, 109, 117, 116, 101]⟩, val := (.func (.func 72) #[] #[]), born := 1 }, { key := .string ⟨#[115, 112, 114, 101, 97, 100]⟩, val := (.func (.func 73) #[] #[]), born := 2 }, { key := .string ⟨#[114, 101, 115, 104, 97, 112, 101]⟩, val := (.func (.func 74) #[] #[]), born := 3 }, { key := .string ⟨#[119, 105, 110, 100, 111, 119, 115]⟩, val := (.func (.func 75) #[] #[]), born := 4 }, { key := .string ⟨#[100, 105, 97, 103, 111, 110, 97, 108]⟩, val := (.func (.func 76) #[] #[]), born := 5 }] 6)) := map_get w _ _ 3 _ _ (by rfl)
theorem reshapeNamed (w : World) : Calls Try.prog 46 #[.string ⟨#[114, 101, 115, 104, 97, 112, 101]⟩] w fun e w' => e = .returned (.func (.func 74) #[] #[]) ∧ Below w.heap.size w w' := by
  have hmm := @run_makeMap Try.prog
  have q0 := put0
  have q1 := put1
  have q2 := put2
  have q3 := put3
  have q4 := put4
  have q5 := put5
  have q6 := get3
  go_enter Try.func46, Try.ntmps46
  go_wp2_with fail
  go_ret
  exact ⟨rfl, (Below.refl _ _).alloc (Nat.le_refl _) _⟩
theorem get4 (w : World) : (Instr.lookup 67 (.map (some w.heap.size)) (.string ⟨#[119, 105, 110, 100, 111, 119, 115]⟩) false).run Try.prog (w.alloc (.map #[{ key := .string ⟨#[115, 108, 105, 99, 101]⟩, val := (.func (.func 71) #[] #[]), born := 0 }, { key := .string ⟨#[112, 101, 114, 109, 117, 116, 101]⟩, val := (.func (.func 72) #[] #[]), born := 1 }, { key := .string ⟨#[115, 112, 114, 101, 97, 100]⟩, val := (.func (.func 73) #[] #[]), born := 2 }, { key := .string ⟨#[114, 101, 115, 104, 97, 112, 101]⟩, val := (.func (.func 74) #[] #[]), born := 3 }, { key := .string ⟨#[119, 105, 110, 100, 111, 119, 115]⟩, val := (.func (.func 75) #[] #[]), born := 4 }, { key := .string ⟨#[100, 105, 97, 103, 111, 110, 97, 108]⟩, val := (.func (.func 76) #[] #[]), born := 5 }] 6)) = .ok (.func (.func 75) #[] #[]) (w.alloc (.map #[{ key := .string ⟨#[115, 108, 105, 99, 101]⟩, val := (.func (.func 71) #[] #[]), born := 0 }, { key := .string ⟨#[112, 101, 114, 109, 117, 116, 101]⟩, val := (.func (.func 72) #[] #[]), born := 1 }, { key := .string ⟨#[115, 112, 114, 101, 97, 100]⟩, val := (.func (.func 73) #[] #[]), born := 2 }, { key := .string ⟨#[114, 101, 115, 104, 97, 112, 101]⟩, val := (.func (.func 74) #[] #[]), born := 3 }, { key := .string ⟨#[119, 105, 110, 100, 111, 119, 115]⟩, val := (.func (.func 75) #[] #[]), born := 4 }, { key := .string ⟨#[100, 105, 97, 103, 111, 110, 97, 108]⟩, val := (.func (.func 76) #[] #[]), born := 5 }] 6)) := map_get w _ _ 4 _ _ (by rfl)
theorem windowsNamed (w : World) : Calls Try.prog 46 #[.string ⟨#[119, 105, 110, 100, 111, 119, 115]⟩] w fun e w' => e = .returned (.func (.func 75) #[] #[]) ∧ Below w.heap.size w w' := by
  have hmm := @run_makeMap Try.prog
  have q0 := put0
  have q1 := put1
  have q2 := put2
  have q3 := put3
  have q4 := put4
  have q5 := put5
  have q6 := get4
  go_enter Try.func46, Try.ntmps46
  go_wp2_with fail
  go_ret
  exact ⟨rfl, (Below.refl _ _).alloc (Nat.le_refl _) _⟩
theorem get5 (w : World) : (Instr.lookup 67 (.map (some w.heap.size)) (.string ⟨#[100, 105, 97, 103, 111, 110, 97, 108]⟩) false).run Try.prog (w.alloc (.map #[{ key := .string ⟨#[115, 108, 105, 99, 101]⟩, val := (.func (.func 71) #[] #[]), born := 0 }, { key := .string ⟨#[112, 101, 114, 109, 117, 116, 101]⟩, val := (.func (.func 72) #[] #[]), born := 1 }, { key := .string ⟨#[115, 112, 114, 101, 97, 100]⟩, val := (.func (.func 73) #[] #[]), born := 2 }, { key := .string ⟨#[114, 101, 115, 104, 97, 112, 101]⟩, val := (.func (.func 74) #[] #[]), born := 3 }, { key := .string ⟨#[119, 105, 110, 100, 111, 119, 115]⟩, val := (.func (.func 75) #[] #[]), born := 4 }, { key := .string ⟨#[100, 105, 97, 103, 111, 110, 97, 108]⟩, val := (.func (.func 76) #[] #[]), born := 5 }] 6)) = .ok (.func (.func 76) #[] #[]) (w.alloc (.map #[{ key := .string ⟨#[115, 108, 105, 99, 101]⟩, val := (.func (.func 71) #[] #[]), born := 0 }, { key := .string ⟨#[112, 101, 114, 109, 117, 116, 101]⟩, val := (.func (.func 72) #[] #[]), born := 1 }, { key := .string ⟨#[115, 112, 114, 101, 97, 100]⟩, val := (.func (.func 73) #[] #[]), born := 2 }, { key := .string ⟨#[114, 101, 115, 104, 97, 112, 101]⟩, val := (.func (.func 74) #[] #[]), born := 3 }, { key := .string ⟨#[119, 105, 110, 100, 111, 119, 115]⟩, val := (.func (.func 75) #[] #[]), born := 4 }, { key := .string ⟨#[100, 105, 97, 103, 111, 110, 97, 108]⟩, val := (.func (.func 76) #[] #[]), born := 5 }] 6)) := map_get w _ _ 5 _ _ (by rfl)
theorem diagonalNamed (w : World) : Calls Try.prog 46 #[.string ⟨#[100, 105, 97, 103, 111, 110, 97, 108]⟩] w fun e w' => e = .returned (.func (.func 76) #[] #[]) ∧ Below w.heap.size w w' := by
  have hmm := @run_makeMap Try.prog
  have q0 := put0
  have q1 := put1
  have q2 := put2
  have q3 := put3
  have q4 := put4
  have q5 := put5
  have q6 := get5
  go_enter Try.func46, Try.ntmps46
  go_wp2_with fail
  go_ret
  exact ⟨rfl, (Below.refl _ _).alloc (Nat.le_refl _) _⟩
end Vo
end Go.Proofs.Ytejfodkobfdelaa

/- A turn of a view: the frame that all of them share. -/
namespace Go.Proofs.Ytejfodkobfdelaa
namespace Vo
open Go.ChangeShapes Go.WideShapes Go.ChangeAt Go.RowKit Go.Joins
open Vl Vp Vr
set_option linter.unusedVariables false
set_option linter.unusedSimpArgs false

theorem drewSize (w : World) : w.drew.heap.size = w.heap.size := rfl
/-- where a list stands no view stands -/
theorem VOwn.apart {B : Nat} {w : World} {a b : Option Addr} {r s : Nat} {D S : Nat → Int} {P : Nat} (h : VOwn B w a b r s D S) (hc : w.cell? ⟨P, 0, none⟩ = some (.slice none 0 0)) : ∀ k, VBlk a b r s k → k ≠ P := by
  have key : ∀ (x : Option Addr) (m : Nat) (E : Nat → Int), OwnL B w x m E → ∀ k, Blk x m k → k ≠ P := by
    rintro x m E ho k ⟨hm, ad, rfl, rfl⟩ e
    rcases ho with h0 | ⟨g, e1, _, hw⟩
    · exact hm h0
    · injection e1 with e1
      subst e1
      have e : g = P := e
      subst e
      have := (hw 0 (by omega)).1
      rw [hc] at this
      injection this with this
      cases this
  rintro k (q | q)
  · exact key _ _ _ h.d k q
  · exact key _ _ _ h.t k q
/-- the new variable, and what a turn has answered in it -/
theorem turn_at {T : PV} {w wc W wE wx : World} {P : Nat} {ta tb : Option Addr} {tc td : Nat} {S : Nat → Prop} (hke : Kept S W wE) (bW : Below wc.heap.size wc W) (hS : ∀ k, S k → w.heap.size + 2 ≤ k) (hM : Box wc (w.heap.size + 1) (.slice none 0 0) (.slice none 0 0) (.int .i64 0) (.int .i64 0)) (hG : Free wc (w.heap.size + 1)) (hW : Below w.heap.size w wc) (hsz : w.heap.size + 2 ≤ wc.heap.size)
    (hvo : VOwn (w.heap.size + 2) wE ta tb T.r T.s T.D T.S) (hk : Kept (· = P) wE wx) (hne : ∀ k, VBlk ta tb T.r T.s k → k ≠ P) (p1 : w.heap.size + 2 ≤ P) (pX : P < wx.heap.size) (hbox : Box wx P (.slice ta T.r tc) (.slice tb T.s td) (.int .i64 T.o) (.int .i64 T.n)) :
    w.heap.size + 2 ≤ P ∧ P < wx.heap.size ∧ Box wx P (.slice ta T.r tc) (.slice tb T.s td) (.int .i64 T.o) (.int .i64 T.n) ∧ VOwn (w.heap.size + 2) wx ta tb T.r T.s T.D T.S ∧ Box wx (w.heap.size + 1) (.slice none 0 0) (.slice none 0 0) (.int .i64 0) (.int .i64 0) ∧ Free wx (w.heap.size + 1) ∧ Below w.heap.size w wx := by
  have s1 := bW.size
  have s2 := hke.size
  have hn1 : ¬ S (w.heap.size + 1) := fun q => by have := hS _ q; omega
  have hW' : Below w.heap.size w wE := (hW.trans (bW.mono hW.size)).trans (hke.below (by omega) (fun j q => by have := hS j q; omega))
  exact ⟨p1, pX, hbox, hvo.kept hk (fun k q e => hne k q e), ((hM.below bW (by omega)).kept hke (by omega) hn1).kept hk (by omega) (by omega), ((hG.below bW (by omega)).kept hke (by omega) hn1).kept hk (by omega) (by omega), hW'.trans (hk.below hW'.size (fun j e => by have e : j = P := e; omega))⟩
set_option maxRecDepth 100000 in
set_option maxHeartbeats 4000000 in
theorem turned (name : ByteArray) (F : Nat) (T : PV) (eF : ∀ args w, (callFunc F args).run Try.prog w = .ok (.enter F args) w) (hn : ∀ W, Calls Try.prog 46 #[.string name] W fun e W' => e = .returned (.func (.func F) #[] #[]) ∧ Below W.heap.size W W')
    (B : Nat) (a b ia : Option Addr) (r s q cap dap ica : Nat) (D S I : Nat → Int) (o n : Int) (w : World) (hB : B ≤ w.heap.size) (h : Ints B w a r D) (h' : Ints B w b s S) (hi : Ints B w ia q I) (hr : (r : Int) ≤ 1048576) (hs : (s : Int) ≤ 1048576)
    (hna : a = none → r = 0 ∧ cap = 0) (hnb : b = none → s = 0 ∧ dap = 0) (hTr : (T.r : Int) ≤ 1048576) (hTs : (T.s : Int) ≤ 1048576)
    (hT : ∀ (va vb : Value) (W : World), VOk r s D S o n → RowV (w.heap.size + 2) W va r D → RowV (w.heap.size + 2) W vb s S → (∀ k, va.ownBlock = some k → vb.ownBlock = some k → False) → Ints B W ia q I → w.heap.size + 2 ≤ W.heap.size →
      Calls Try.prog F #[.agg #[va, vb, .int .i64 o, .int .i64 n], .slice ia q ica] W fun e W' => TurnR (w.heap.size + 2) T va vb W e W') :
    Calls Try.prog 29 #[.string name, .agg #[.slice a r cap, .slice b s dap, .int .i64 o, .int .i64 n], .slice ia q ica] w fun e w' => ViewR w.heap.size (turnedV r s D S o n T) w e w' := by
  have H := hide h
  have H' := hide h'
  have HI := hide hi
  have HT := hide hT
  have HN := hide hn
  have BL := hide (show Below w.heap.size w ((w.alloc (.cells #[.slice a r cap, .slice b s dap, .int .i64 o, .int .i64 n] 26)).alloc (.cells #[.slice none 0 0, .slice none 0 0, .int .i64 0, .int .i64 0] 26)) from ((Below.refl _ _).alloc (Nat.le_refl _) _).alloc (by simp) _)
  have N0 := hide ((box_new w (.slice a r cap) (.slice b s dap) (.int .i64 o) (.int .i64 n) 26).below ((Below.refl (w.heap.size + 1) _).alloc (by simp) (.cells #[.slice none 0 0, .slice none 0 0, .int .i64 0, .int .i64 0] 26)) (by omega))
  have F0 := hide ((free_new w #[.slice a r cap, .slice b s dap, .int .i64 o, .int .i64 n] 26).below ((Below.refl (w.heap.size + 1) _).alloc (by simp) (.cells #[.slice none 0 0, .slice none 0 0, .int .i64 0, .int .i64 0] 26)) (by omega))
  have m0 := box_new (w.alloc (.cells #[.slice a r cap, .slice b s dap, .int .i64 o, .int .i64 n] 26)) (.slice none 0 0) (.slice none 0 0) (.int .i64 0) (.int .i64 0) 26
  have g0 := free_new (w.alloc (.cells #[.slice a r cap, .slice b s dap, .int .i64 o, .int .i64 n] 26)) #[.slice none 0 0, .slice none 0 0, .int .i64 0, .int .i64 0] 26
  rw [World.size_alloc] at m0 g0
  have M0 := hide m0
  have G0 := hide g0
  clear h h' hi hT hn m0 g0
  go_enter Try.func29, Try.ntmps29
  go_wp2_with fail
  refine (viewOk B a b r s cap dap D S o n _ (by simp; omega) (H.out.below (BL.out.mono hB)) (H'.out.below (BL.out.mono hB)) hr hs).mono ?_
  rintro e w1 ⟨rfl, b1⟩
  have B1 := hide (BL.out.trans (b1.mono (by simp; omega)))
  have z1 : w.heap.size + 1 < w1.heap.size := by have := b1.size; simp at this; omega
  have z10 : w.heap.size < w1.heap.size := by omega
  have N1 := hide (N0.out.below b1 (by simp; omega))
  have M1 := hide (M0.out.below b1 (by simp))
  have F1 := hide (F0.out.below b1 (by simp; omega))
  have G1 := hide (G0.out.below b1 (by simp))
  obtain ⟨x0, x1, x2, x3⟩ := N1.out
  obtain ⟨y0, y1, y2, y3⟩ := M1.out
  have f1 := F1.out
  have g1 := G1.out
  clear b1
  cases hv : vok r s D S o n with
  | false =>
    have ez := hide (show turnedV r s D S o n T = PV.zero by unfold turnedV; rw [hv]; simp)
    clear hv
    unfold Free at f1 g1
    go_wp2_with fail
    refine bodyPost_ret (v := .agg #[.slice none 0 0, .slice none 0 0, .int .i64 0, .int .i64 0]) (by simp [results, Try.results29, go_sem, y0, y1, y2, y3]) rfl (by
      rw [ez.out]
      refine viewR_zero ?_
      repeat (refine Below.setCell ?_ (by simp) _)
      exact B1.out)
  | true =>
    have V := hide (vok_iff.1 hv)
    have ez := hide (show turnedV r s D S o n T = T.orZero by unfold turnedV; rw [hv]; simp)
    clear hv
    have CA := hide (fun (W : World) (hW : Below w.heap.size w W) => clone B a r cap D W (H.out.below (hW.mono hB)) (Nat.le_trans hB hW.size) hr hna)
    have CB := hide (fun (W : World) (hW : Below w.heap.size w W) => clone B b s dap S W (H'.out.below (hW.mono hB)) (Nat.le_trans hB hW.size) hs hnb)
    unfold Free at f1 g1
    go_wp2_with fail
    go_cut [14, 17] (fun va vb wx => Box wx w.heap.size va vb (.int .i64 o) (.int .i64 n) ∧ RowV (w.heap.size + 2) wx va r D ∧ RowV (w.heap.size + 2) wx vb s S ∧ (∀ k, va.ownBlock = some k → vb.ownBlock = some k → False) ∧ Box wx (w.heap.size + 1) (.slice none 0 0) (.slice none 0 0) (.int .i64 0) (.int .i64 0) ∧ Free wx (w.heap.size + 1) ∧ w.heap.size + 2 ≤ wx.heap.size ∧ Below w.heap.size w wx)
    case first =>
      go_region_with (first
        | (go_at_call_of 45 (Value.slice a r cap); refine (CA.out _ (by exact B1.out.drew)).mono ?_; rintro e wA ⟨va, rfl, hva, bA⟩; obtain ⟨aa, ac, rfl, _⟩ := RowV.own hva; have cA := fun i => old_cells bA w.heap.size i (by show w.heap.size < w1.heap.size; omega); have mA := fun i => old_marks bA w.heap.size i (by show w.heap.size < w1.heap.size; omega))
        | (go_at_call_of 45 (Value.slice b s dap); refine (CB.out _ (by exact (B1.out.drew).trans (Below.mono bA B1.out.size))).mono ?_; rintro e wB ⟨vb, rfl, hvb, bB⟩; obtain ⟨ab, ad, rfl, _⟩ := RowV.own hvb; have cB := fun i => old_cells bB w.heap.size i (by have := bA.size; show w.heap.size < wA.heap.size; exact Nat.lt_of_lt_of_le z10 this); have mB := fun i => old_marks bB w.heap.size i (by have := bA.size; show w.heap.size < wA.heap.size; exact Nat.lt_of_lt_of_le z10 this)))
      all_goals (go_wp2_with fail)
      all_goals go_meet
      all_goals
        have sA : w1.heap.size ≤ wA.heap.size := bA.size
        have sB : wA.heap.size ≤ wB.heap.size := bB.size
        have nA := N1.out.below (B := w1.heap.size) (w' := wA) ⟨bA.os, bA.tape, bA.output, bA.size, bA.block⟩ z10
        have nB := nA.below bB (by omega)
        have mmA := M1.out.below (B := w1.heap.size) (w' := wA) ⟨bA.os, bA.tape, bA.output, bA.size, bA.block⟩ z1
        have mmB := mmA.below bB (by omega)
        have ggA := G1.out.below (B := w1.heap.size) (w' := wA) ⟨bA.os, bA.tape, bA.output, bA.size, bA.block⟩ z1
        have ggB := ggA.below bB (by omega)
        have ra := (hva.below bB).mono (B' := w.heap.size + 2) (by show w.heap.size + 2 ≤ w1.heap.size; omega)
        have rb := hvb.mono (B' := w.heap.size + 2) (by omega)
        have k1 : Kept (· = w.heap.size) wB ((wB.setCell ⟨w.heap.size, 0, none⟩ (.slice aa r ac)).setCell ⟨w.heap.size, 1, none⟩ (.slice ab s ad)) := (Kept.setCell wB ⟨w.heap.size, 0, none⟩ _).trans (Kept.setCell _ ⟨w.heap.size, 1, none⟩ _)
        refine ⟨box_set01 nB _ _, ra.kept k1 (fun k hk => by have := (ra.lt hk).1; omega), rb.kept k1 (fun k hk => by have := (rb.lt hk).1; omega), fun k h1 h2 => by have := (hva.lt h1).2; have := (hvb.lt h2).1; omega, (mmB.set _ _ (by show w.heap.size + 1 ≠ w.heap.size; omega)).set _ _ (by show w.heap.size + 1 ≠ w.heap.size; omega), (ggB.set _ _).set _ _, by simp [World.setCell]; omega, ?_⟩
        have bw : Below w.heap.size w wB := (B1.out.trans (Below.mono (w := w1) (w' := wA) ⟨bA.os, bA.tape, bA.output, bA.size, bA.block⟩ B1.out.size)).trans (bB.mono (by omega))
        exact (bw.setCell (p := ⟨w.heap.size, 0, none⟩) (Nat.le_refl _) _).setCell (p := ⟨w.heap.size, 1, none⟩) (Nat.le_refl _) _
    case rest =>
      obtain ⟨hx, ra, rb, hne, hm, hg, hsz, hbw⟩ := hcut
      obtain ⟨aa, ac, rfl, _⟩ := ra.own
      obtain ⟨ab, ad, rfl, _⟩ := rb.own
      have RA := hide ra
      have RB := hide rb
      have HX := hide hx
      have HM := hide hm
      have HG := hide hg
      have HW := hide hbw
      have HNE := hide hne
      obtain ⟨p0, p1, p2, p3⟩ := hx
      have HTT := hide (fun (W : World) (hW : Below wc.heap.size wc W) => HT.out (.slice aa r ac) (.slice ab s ad) W V.out (RA.out.below hW) (RB.out.below hW) HNE.out (HI.out.below ((HW.out.trans (hW.mono HW.out.size)).mono hB)) (Nat.le_trans hsz hW.size))
      clear ra rb hm hg hbw hne x0 x1 x2 x3 y0 y1 y2 y3 f1 g1 HT CA CB
      have HOB := hide (show ∀ k, OB (.slice aa r ac) (.slice ab s ad) k → w.heap.size + 2 ≤ k ∧ k < wc.heap.size by
        rintro k (q | q)
        · exact RA.out.lt q
        · exact RB.out.lt q)
      have c0' : ∀ (x : Obj) i, (wc.alloc x).cell? ⟨w.heap.size, i, none⟩ = wc.cell? ⟨w.heap.size, i, none⟩ := fun x i => World.cell?_alloc_old wc x ⟨w.heap.size, i, none⟩ (by show w.heap.size ≠ wc.heap.size; omega)
      have c0 : ∀ (x : Obj) i, (wc.drew.alloc x).cell? ⟨w.heap.size, i, none⟩ = wc.cell? ⟨w.heap.size, i, none⟩ := fun x i => World.cell?_alloc_old wc.drew x ⟨w.heap.size, i, none⟩ (by show w.heap.size ≠ wc.heap.size; omega)
      go_wp2_with fail
      go_cut [7] (fun p7 wx => ∃ (P : Nat) (ta tb : Option Addr) (tc td : Nat), p7 = .pointer (some ⟨P, 0, none⟩) ∧ w.heap.size + 2 ≤ P ∧ P < wx.heap.size ∧ Box wx P (.slice ta T.r tc) (.slice tb T.s td) (.int .i64 T.o) (.int .i64 T.n) ∧ VOwn (w.heap.size + 2) wx ta tb T.r T.s T.D T.S ∧ Box wx (w.heap.size + 1) (.slice none 0 0) (.slice none 0 0) (.int .i64 0) (.int .i64 0) ∧ Free wx (w.heap.size + 1) ∧ Below w.heap.size w wx)
      case first =>
        go_region_with (first
          | (go_at_call 46
             refine (HN.out _).mono ?_
             rintro e wD ⟨rfl, bD⟩
             first
               | (have sD : wc.heap.size + 1 ≤ wD.heap.size := by (have q := bD.size; simp only [World.size_alloc, drewSize] at q; omega)
                  have bD' : Below wc.heap.size wc wD := ((Below.refl _ wc).drew.alloc (Nat.le_refl _) _).trans (bD.mono (by simp only [World.size_alloc, drewSize]; omega))
                  have cD := fun i => bD'.cell (p := ⟨w.heap.size, i, none⟩) (show w.heap.size < wc.heap.size by omega)
                  have eC := fun i => bD.cell (p := ⟨wc.heap.size, i, none⟩) (by simp only [World.size_alloc, drewSize]; omega)
                  have fC := fun i => bD.frozen (p := ⟨wc.heap.size, i, none⟩) (by simp only [World.size_alloc, drewSize]; omega))
               | (have bD' : Below wc.heap.size wc wD := (Below.refl _ wc).drew.trans bD
                  have sD : wc.heap.size ≤ wD.heap.size := bD'.size
                  have cD := fun i => bD'.cell (p := ⟨w.heap.size, i, none⟩) (show w.heap.size < wc.heap.size by omega)
                  have c5 : ∀ (x : Obj) i, (wD.alloc x).cell? ⟨w.heap.size, i, none⟩ = wc.cell? ⟨w.heap.size, i, none⟩ := fun x i => (World.cell?_alloc_old wD x ⟨w.heap.size, i, none⟩ (by show w.heap.size ≠ wD.heap.size; omega)).trans (cD i)))
          | (refine (HTT.out _ (by first | exact bD' | exact bD'.alloc bD'.size _)).mono ?_
             rintro e wE ⟨ta, tb, tc, td, rfl, hvo, hke⟩
             first
               | (have sE : wc.heap.size + 1 ≤ wD.heap.size := sD
                  have hke' : Kept _ wD wE := hke
                  have eE := fun i => World.cell?_of_block (w := wD) (a := ⟨wc.heap.size, i, none⟩) (hke'.block wc.heap.size (by omega) (fun q => by have := (HOB.out _ q).2; omega))
                  have fE := fun i => World.frozen?_of_block (w := wD) (a := ⟨wc.heap.size, i, none⟩) (hke'.block wc.heap.size (by omega) (fun q => by have := (HOB.out _ q).2; omega)))
               | (have eE := fun i => World.cell?_of_block (a := ⟨wD.heap.size, i, none⟩) (hke.block wD.heap.size (by simp only [World.size_alloc]; omega) (fun q => by have := (HOB.out _ q).2; omega))
                  have fE := fun i => World.frozen?_of_block (a := ⟨wD.heap.size, i, none⟩) (hke.block wD.heap.size (by simp only [World.size_alloc]; omega) (fun q => by have := (HOB.out _ q).2; omega)))
               | skip))
        all_goals (go_wp2_with fail)
        all_goals go_meet
        all_goals
          have qs := hke.size
          have qd := bD'.size
          (try simp only [World.size_alloc] at qs)
        all_goals first
          | exact ⟨wE.heap.size, ta, tb, tc, td, rfl, turn_at hke (by first | exact bD' | exact bD'.alloc bD'.size _) (fun k q => (HOB.out k q).1) HM.out HG.out HW.out hsz hvo (Kept.of_below ((Below.refl wE.heap.size wE).alloc (Nat.le_refl _) _)) (fun k q => by have := (hvo.blk q).2; omega) (by omega) (by simp) (box_new wE _ _ _ _ _)⟩
          | (have zb := (box_new wD (.slice none 0 0) (.slice none 0 0) (.int .i64 0) (.int .i64 0) 26).kept hke (by simp) (fun q => by have := (HOB.out _ q).2; omega)
             exact ⟨wD.heap.size, ta, tb, tc, td, rfl, turn_at hke (by first | exact bD' | exact bD'.alloc bD'.size _) (fun k q => (HOB.out k q).1) HM.out HG.out HW.out hsz hvo (kept_sets4 wE wD.heap.size (.slice ta T.r tc) (.slice tb T.s td) (.int .i64 T.o) (.int .i64 T.n)) (hvo.apart zb.1) (by omega) (by simp [World.setCell]; omega) (box_sets4 zb (.slice ta T.r tc) (.slice tb T.s td) (.int .i64 T.o) (.int .i64 T.n))⟩)
          | (have zb := ((box_new wc.drew (.slice none 0 0) (.slice none 0 0) (.int .i64 0) (.int .i64 0) 26).below bD (by simp)).kept hke (by rw [drewSize]; omega) (fun q => by have := (HOB.out _ q).2; rw [drewSize] at this; omega)
             exact ⟨wc.heap.size, ta, tb, tc, td, rfl, turn_at hke (by first | exact bD' | exact bD'.alloc bD'.size _) (fun k q => (HOB.out k q).1) HM.out HG.out HW.out hsz hvo (kept_sets4 wE wc.heap.size (.slice ta T.r tc) (.slice tb T.s td) (.int .i64 T.o) (.int .i64 T.n)) (hvo.apart zb.1) (by omega) (by simp [World.setCell]; omega) (box_sets4 zb (.slice ta T.r tc) (.slice tb T.s td) (.int .i64 T.o) (.int .i64 T.n))⟩)
      case rest =>
        obtain ⟨P, ta, tb, tc, td, rfl, q1, qX, hbx, hvo, hm, hg, hbw⟩ := hcut
        have VO := hide hvo
        have BX := hide hbx
        have HM2 := hide hm
        have HG2 := hide hg
        have HW2 := hide hbw
        obtain ⟨x0, x1, x2, x3⟩ := hbx
        clear hvo hm hg hbw c0 c0' p0 p1 p2 p3 HTT HN
        go_wp2_with fail
        refine (viewOk _ ta tb T.r T.s tc td T.D T.S T.o T.n _ (Nat.le_refl _) VO.out.d.ints VO.out.t.ints hTr hTs).mono ?_
        rintro e w6 ⟨rfl, b6⟩
        have BX6 := hide (BX.out.below b6 qX)
        have HM6 := hide (HM2.out.below b6 (by omega))
        have HG6 := hide (HG2.out.below b6 (by omega))
        have VO6 := hide (VO.out.below b6)
        have HW6 := hide (HW2.out.trans (b6.mono HW2.out.size))
        clear b6 x0 x1 x2 x3
        obtain ⟨x0, x1, x2, x3⟩ := BX6.out
        obtain ⟨y0, y1, y2, y3⟩ := HM6.out
        have gg := HG6.out
        unfold Free at gg
        cases hTv : vok T.r T.s T.D T.S T.o T.n with
        | false =>
          have eo := hide (show T.orZero = PV.zero by unfold PV.orZero PV.ok; rw [hTv]; simp)
          clear hTv
          go_wp2_with fail
          refine bodyPost_ret (v := .agg #[.slice none 0 0, .slice none 0 0, .int .i64 0, .int .i64 0]) (by simp [results, Try.results29, go_sem, y0, y1, y2, y3]) rfl (by
            rw [ez.out, eo.out]
            refine viewR_zero ?_
            repeat (refine Below.setCell ?_ (by simp) _)
            exact HW6.out)
        | true =>
          have eo := hide (show T.orZero = T by unfold PV.orZero PV.ok; rw [hTv]; simp)
          clear hTv
          go_wp2_with fail
          refine bodyPost_ret (v := .agg #[.slice ta T.r tc, .slice tb T.s td, .int .i64 T.o, .int .i64 T.n]) (by simp [results, Try.results29, go_sem, y0, y1, y2, y3]) rfl (by
            rw [ez.out, eo.out]
            have k4 := kept_sets4 w6 (w.heap.size + 1) (.slice ta T.r tc) (.slice tb T.s td) (.int .i64 T.o) (.int .i64 T.n)
            exact ⟨ta, tb, tc, td, rfl, (VO6.out.kept k4 (fun k q e => by have := (VO6.out.blk q).1; have e : k = w.heap.size + 1 := e; omega)).mono (by omega), HW6.out.trans (k4.below HW6.out.size (fun j e => by have e : j = w.heap.size + 1 := e; omega))⟩)
end Vo
end Go.Proofs.Ytejfodkobfdelaa
