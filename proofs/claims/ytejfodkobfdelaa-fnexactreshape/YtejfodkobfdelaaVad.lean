/- The table of turns by their names. -/
import Derived.Test.YtejfodkobfdelaaVac
namespace Go.Proofs.Ytejfodkobfdelaa
namespace Vo
open Go.ChangeShapes Go.WideShapes Go.ChangeAt Go.RowKit Go.Joins
open Vl Vp Vr
set_option linter.unusedVariables false

theorem put_alloc (w : World) (o o' : Obj) : (w.alloc o).putObj w.heap.size o' = w.alloc o' := by
  have e : (w.heap.push o).setIfInBounds w.heap.size o' = w.heap.push o' := by
    apply Array.ext_getElem?
    intro i
    rw [Array.getElem?_setIfInBounds, Array.getElem?_push, Array.getElem?_push]
    by_cases h : w.heap.size = i
    · subst h; simp
    · rw [if_neg h, if_neg (by omega), if_neg (by omega)]
  show ({ (w.alloc o) with heap := (w.heap.push o).setIfInBounds w.heap.size o' } : World) = _
  rw [e]; rfl
theorem tmap : Try.prog.underlying 67 = some (.map 9 61) := by kernel_rfl
theorem tstr : Try.prog.underlying 9 = some .string := by kernel_rfl
theorem map_put (w : World) (es : Array MapEntry) (c : Nat) (s : ByteArray) (v : Value) (hn : Instr.findNow .string (.string s) es.toList 0 = some none) :
    (Instr.mapUpdate 67 (.map (some w.heap.size)) (.string s) v).run Try.prog (w.alloc (.map es c)) = .ok () (w.alloc (.map (es.push { key := .string s, val := v, born := c }) (c + 1))) := by
  have hb : (w.alloc (.map es c)).heap[w.heap.size]? = some (.map es c) := new_heap w _
  have hc : (Instr.checkKey false 10000 9 (.string s)).run Try.prog (w.alloc (.map es c)) = .ok () (w.alloc (.map es c)) := MapKept.run_checkKey (k := .string s) tstr (by simp [MapKept.IsKey]) false 9999
  simp [Instr.mapUpdate, run_underlying tmap, MapKept.run_getObj_map hb, hc, MapKept.run_findKey tstr hn, MapKept.run_setObj_map _ hb, Result.andThen]
  exact put_alloc w _ _
theorem map_get (w : World) (es : Array MapEntry) (c i : Nat) (s : ByteArray) (v : Value) (hn : Instr.findNow .string (.string s) es.toList 0 = some (some (i, v))) :
    (Instr.lookup 67 (.map (some w.heap.size)) (.string s) false).run Try.prog (w.alloc (.map es c)) = .ok v (w.alloc (.map es c)) := by
  have hb : (w.alloc (.map es c)).heap[w.heap.size]? = some (.map es c) := new_heap w _
  have hc : ∀ b, (Instr.checkKey b 10000 9 (.string s)).run Try.prog (w.alloc (.map es c)) = .ok () (w.alloc (.map es c)) := fun b => MapKept.run_checkKey (k := .string s) tstr (by simp [MapKept.IsKey]) b 9999
  simp [Instr.lookup, run_underlying tmap, MapKept.run_getObj_map hb, hc, MapKept.run_findKey tstr hn, Result.andThen]
theorem put0 (w : World) : (Instr.mapUpdate 67 (.map (some w.heap.size)) (.string ⟨#[115, 108, 105, 99, 101]⟩) (.func (.func 71) #[] #[])).run Try.prog (w.alloc (.map #[] 0)) = .ok () (w.alloc (.map #[{ key := .string ⟨#[115, 108, 105, 99, 101]⟩, val := (.func (.func 71) #[] #[]), born := 0 }] 1)) := map_put w #[] 0 _ _ (by rfl)
theorem put1 (w : World) : (Instr.mapUpdate 67 (.map (some w.heap.size)) (.string ⟨#[112, 101, 114, 109, 117, 116, 101]⟩) (.func (.func 72) #[] #[])).run Try.prog (w.alloc (.map #[{ key := .string ⟨#[115, 108, 105, 99, 101]⟩, val := (.func (.func 71) #[] #[]), born := 0 }] 1)) = .ok () (w.alloc (.map #[{ key := .string ⟨#[115, 108, 105, 99, 101]⟩, val := (.func (.func 71) #[] #[]), born := 0 }, { key := .string ⟨#[112, 101, 114, 109, 117, 116, 101]⟩, val := (.func (.func 72) #[] #[]), born := 1 }] 2)) := map_put w #[{ key := .string ⟨#[115, 108, 105, 99, 101]⟩, val := (.func (.func 71) #[] #[]), born := 0 }] 1 _ _ (by rfl)
theorem put2 (w : World) : (Instr.mapUpdate 67 (.map (some w.heap.size)) (.string ⟨#[115, 112, 114, 101, 97, 100]⟩) (.func (.func 73) #[] #[])).run Try.prog (w.alloc (.map #[{ key := .string ⟨#[115, 108, 105, 99, 101]⟩, val := (.func (.func 71) #[] #[]), born := 0 }, { key := .string ⟨#[112, 101, 114, 109, 117, 116, 101]⟩, val := (.func (.func 72) #[] #[]), born := 1 }] 2)) = .ok () (w.alloc (.map #[{ key := .string ⟨#[115, 108, 105, 99, 101]⟩, val := (.func (.func 71) #[] #[]), born := 0 }, { key := .string ⟨#[112, 101, 114, 109, 117, 116, 101]⟩, val := (.func (.func 72) #[] #[]), born := 1 }, { key := .string ⟨#[115, 112, 114, 101, 97, 100]⟩, val := (.func (.func 73) #[] #[]), born := 2 }] 3)) := map_put w #[{ key := .string ⟨#[115, 108, 105, 99, 101]⟩, val := (.func (.func 71) #[] #[]), born := 0 }, { key := .string ⟨#[112, 101, 114, 109, 117, 116, 101]⟩, val := (.func (.func 72) #[] #[]), born := 1 }] 2 _ _ (by rfl)
theorem put3 (w : World) : (Instr.mapUpdate 67 (.map (some w.heap.size)) (.string ⟨#[114, 101, 115, 104, 97, 112, 101]⟩) (.func (.func 74) #[] #[])).run Try.prog (w.alloc (.map #[{ key := .string ⟨#[115, 108, 105, 99, 101]⟩, val := (.func (.func 71) #[] #[]), born := 0 }, { key := .string ⟨#[112, 101, 114, 109, 117, 116, 101]⟩, val := (.func (.func 72) #[] #[]), born := 1 }, { key := .string ⟨#[115, 112, 114, 101, 97, 100]⟩, val := (.func (.func 73) #[] #[]), born := 2 }] 3)) = .ok () (w.alloc (.map #[{ key := .string ⟨#[115, 108, 105, 99, 101]⟩, val := (.func (.func 71) #[] #[]), born := 0 }, { key := .string ⟨#[112, 101, 114, 109, 117, 116, 101]⟩, val := (.func (.func 72) #[] #[]), born := 1 }, { key := .string ⟨#[115, 112, 114, 101, 97, 100]⟩, val := (.func (.func 73) #[] #[]), born := 2 }, { key := .string ⟨#[114, 101, 115, 104, 97, 112, 101]⟩, val := (.func (.func 74) #[] #[]), born := 3 }] 4)) := map_put w #[{ key := .string ⟨#[115, 108, 105, 99, 101]⟩, val := (.func (.func 71) #[] #[]), born := 0 }, { key := .string ⟨#[112, 101, 114, 109, 117, 116, 101]⟩, val := (.func (.func 72) #[] #[]), born := 1 }, { key := .string ⟨#[115, 112, 114, 101, 97, 100]⟩, val := (.func (.func 73) #[] #[]), born := 2 }] 3 _ _ (by rfl)
theorem put4 (w : World) : (Instr.mapUpdate 67 (.map (some w.heap.size)) (.string ⟨#[119, 105, 110, 100, 111, 119, 115]⟩) (.func (.func 75) #[] #[])).run Try.prog (w.alloc (.map #[{ key := .string ⟨#[115, 108, 105, 99, 101]⟩, val := (.func (.func 71) #[] #[]), born := 0 }, { key := .string ⟨#[112, 101, 114, 109, 117, 116, 101]⟩, val := (.func (.func 72) #[] #[]), born := 1 }, { key := .string ⟨#[115, 112, 114, 101, 97, 100]⟩, val := (.func (.func 73) #[] #[]), born := 2 }, { key := .string ⟨#[114, 101, 115, 104, 97, 112, 101]⟩, val := (.func (.func 74) #[] #[]), born := 3 }] 4)) = .ok () (w.alloc (.map #[{ key := .string ⟨#[115, 108, 105, 99, 101]⟩, val := (.func (.func 71) #[] #[]), born := 0 }, { key := .string ⟨#[112, 101, 114, 109, 117, 116, 101]⟩, val := (.func (.func 72) #[] #[]), born := 1 }, { key := .string ⟨#[115, 112, 114, 101, 97, 100]⟩, val := (.func (.func 73) #[] #[]), born := 2 }, { key := .string ⟨#[114, 101, 115, 104, 97, 112, 101]⟩, val := (.func (.func 74) #[] #[]), born := 3 }, { key := .string ⟨#[119, 105, 110, 100, 111, 119, 115]⟩, val := (.func (.func 75) #[] #[]), born := 4 }] 5)) := map_put w #[{ key := .string ⟨#[115, 108, 105, 99, 101]⟩, val := (.func (.func 71) #[] #[]), born := 0 }, { key := .string ⟨#[112, 101, 114, 109, 117, 116, 101]⟩, val := (.func (.func 72) #[] #[]), born := 1 }, { key := .string ⟨#[115, 112, 114, 101, 97, 100]⟩, val := (.func (.func 73) #[] #[]), born := 2 }, { key := .string ⟨#[114, 101, 115, 104, 97, 112, 101]⟩, val := (.func (.func 74) #[] #[]), born := 3 }] 4 _ _ (by rfl)
theorem put5 (w : World) : (Instr.mapUpdate 67 (.map (some w.heap.size)) (.string ⟨#[100, 105, 97, 103, 111, 110, 97, 108]⟩) (.func (.func 76) #[] #[])).run Try.prog (w.alloc (.map #[{ key := .string ⟨#[115, 108, 105, 99, 101]⟩, val := (.func (.func 71) #[] #[]), born := 0 }, { key := .string ⟨#[112, 101, 114, 109, 117, 116, 101]⟩, val := (.func (.func 72) #[] #[]), born := 1 }, { key := .string ⟨#[115, 112, 114, 101, 97, 100]⟩, val := (.func (.func 73) #[] #[]), born := 2 }, { key := .string ⟨#[114, 101, 115, 104, 97, 112, 101]⟩, val := (.func (.func 74) #[] #[]), born := 3 }, { key := .string ⟨#[119, 105, 110, 100, 111, 119, 115]⟩, val := (.func (.func 75) #[] #[]), born := 4 }] 5)) = .ok () (w.alloc (.map #[{ key := .string ⟨#[115, 108, 105, 99, 101]⟩, val := (.func (.func 71) #[] #[]), born := 0 }, { key := .string ⟨#[112, 101, 114, 109, 117, 116, 101]⟩, val := (.func (.func 72) #[] #[]), born := 1 }, { key := .string ⟨#[115, 112, 114, 101, 97, 100]⟩, val := (.func (.func 73) #[] #[]), born := 2 }, { key := .string ⟨#[114, 101, 115, 104, 97, 112, 101]⟩, val := (.func (.func 74) #[] #[]), born := 3 }, { key := .string ⟨#[119, 105, 110, 100, 111, 119, 115]⟩, val := (.func (.func 75) #[] #[]), born := 4 }, { key := .string ⟨#[100, 105, 97, 103, 111, 110, 97, 108]⟩, val := (.func (.func 76) #[] #[]), born := 5 }] 6)) := map_put w #[{ key := .string ⟨#[115, 108, 105, 99, 101]⟩, val := (.func (.func 71) #[] #[]), born := 0 }, { key := .string ⟨#[112, 101, 114, 109, 117, 116, 101]⟩, val := (.func (.func 72) #[] #[]), born := 1 }, { key := .string ⟨#[115, 112, 114, 101, 97, 100]⟩, val := (.func (.func 73) #[] #[]), born := 2 }, { key := .string ⟨#[114, 101, 115, 104, 97, 112, 101]⟩, val := (.func (.func 74) #[] #[]), born := 3 }, { key := .string ⟨#[119, 105, 110, 100, 111, 119, 115]⟩, val := (.func (.func 75) #[] #[]), born := 4 }] 5 _ _ (by rfl)
theorem get0 (w : World) : (Instr.lookup 67 (.map (some w.heap.size)) (.string ⟨#[115, 108, 105, 99, 101]⟩) false).run Try.prog (w.alloc (.map #[{ key := .string ⟨#[115, 108, 105, 99, 101]⟩, val := (.func (.func 71) #[] #[]), born := 0 }, { key := .string ⟨#[112, 101, 114, 109, 117, 116, 101]⟩, val := (.func (.func 72) #[] #[]), born := 1 }, { key := .string ⟨#[115, 112, 114, 101, 97, 100]⟩, val := (.func (.func 73) #[] #[]), born := 2 }, { key := .string ⟨#[114, 101, 115, 104, 97, 112, 101]⟩, val := (.func (.func 74) #[] #[]), born := 3 }, { key := .string ⟨#[119, 105, 110, 100, 111, 119, 115]⟩, val := (.func (.func 75) #[] #[]), born := 4 }, { key := .string ⟨#[100, 105, 97, 103, 111, 110, 97, 108]⟩, val := (.func (.func 76) #[] #[]), born := 5 }] 6)) = .ok (.func (.func 71) #[] #[]) (w.alloc (.map #[{ key := .string ⟨#[115, 108, 105, 99, 101]⟩, val := (.func (.func 71) #[] #[]), born := 0 }, { key := .string ⟨#[112, 101, 114, 109, 117, 116, 101]⟩, val := (.func (.func 72) #[] #[]), born := 1 }, { key := .string ⟨#[115, 112, 114, 101, 97, 100]⟩, val := (.func (.func 73) #[] #[]), born := 2 }, { key := .string ⟨#[114, 101, 115, 104, 97, 112, 101]⟩, val := (.func (.func 74) #[] #[]), born := 3 }, { key := .string ⟨#[119, 105, 110, 100, 111, 119, 115]⟩, val := (.func (.func 75) #[] #[]), born := 4 }, { key := .string ⟨#[100, 105, 97, 103, 111, 110, 97, 108]⟩, val := (.func (.func 76) #[] #[]), born := 5 }] 6)) := map_get w _ _ 0 _ _ (by rfl)
theorem sliceNamed (w : World) : Calls Try.prog 46 #[.string ⟨#[115, 108, 105, 99, 101]⟩] w fun e w' => e = .returned (.func (.func 71) #[] #[]) ∧ Below w.heap.size w w' := by
  have hmm := @run_makeMap Try.prog
  have q0 := put0
  have q1 := put1
  have q2 := put2
  have q3 := put3
  have q4 := put4
  have q5 := put5
  have q6 := get0
  go_enter Try.func46, Try.ntmps46
  go_wp2_with fail
  go_ret
  exact ⟨rfl, (Below.refl _ _).alloc (Nat.le_refl _) _⟩
theorem get1 (w : World) : (Instr.lookup 67 (.map (some w.heap.size)) (.string ⟨#[112, 101, 114, 109, 117, 116, 101]⟩) false).run Try.prog (w.alloc (.map #[{ key := .string ⟨#[115, 108, 105, 99, 101]⟩, val := (.func (.func 71) #[] #[]), born := 0 }, { key := .string ⟨#[112, 101, 114, 109, 117, 116, 101]⟩, val := (.func (.func 72) #[] #[]), born := 1 }, { key := .string ⟨#[115, 112, 114, 101, 97, 100]⟩, val := (.func (.func 73) #[] #[]), born := 2 }, { key := .string ⟨#[114, 101, 115, 104, 97, 112, 101]⟩, val := (.func (.func 74) #[] #[]), born := 3 }, { key := .string ⟨#[119, 105, 110, 100, 111, 119, 115]⟩, val := (.func (.func 75) #[] #[]), born := 4 }, { key := .string ⟨#[100, 105, 97, 103, 111, 110, 97, 108]⟩, val := (.func (.func 76) #[] #[]), born := 5 }] 6)) = .ok (.func (.func 72) #[] #[]) (w.alloc (.map #[{ key := .string ⟨#[115, 108, 105, 99, 101]⟩, val := (.func (.func 71) #[] #[]), born := 0 }, { key := .string ⟨#[112, 101, 114, 109, 117, 116, 101]⟩, val := (.func (.func 72) #[] #[]), born := 1 }, { key := .string ⟨#[115, 112, 114, 101, 97, 100]⟩, val := (.func (.func 73) #[] #[]), born := 2 }, { key := .string ⟨#[114, 101, 115, 104, 97, 112, 101]⟩, val := (.func (.func 74) #[] #[]), born := 3 }, { key := .string ⟨#[119, 105, 110, 100, 111, 119, 115]⟩, val := (.func (.func 75) #[] #[]), born := 4 }, { key := .string ⟨#[100, 105, 97, 103, 111, 110, 97, 108]⟩, val := (.func (.func 76) #[] #[]), born := 5 }] 6)) := map_get w _ _ 1 _ _ (by rfl)
theorem permuteNamed (w : World) : Calls Try.prog 46 #[.string ⟨#[112, 101, 114, 109, 117, 116, 101]⟩] w fun e w' => e = .returned (.func (.func 72) #[] #[]) ∧ Below w.heap.size w w' := by
  have hmm := @run_makeMap Try.prog
  have q0 := put0
  have q1 := put1
  have q2 := put2
  have q3 := put3
  have q4 := put4
  have q5 := put5
  have q6 := get1
  go_enter Try.func46, Try.ntmps46
  go_wp2_with fail
  go_ret
  exact ⟨rfl, (Below.refl _ _).alloc (Nat.le_refl _) _⟩
theorem get2 (w : World) : (Instr.lookup 67 (.map (some w.heap.size)) (.string ⟨#[115, 112, 114, 101, 97, 100]⟩) false).run Try.prog (w.alloc (.map #[{ key := .string ⟨#[115, 108, 105, 99, 101]⟩, val := (.func (.func 71) #[] #[]), born := 0 }, { key := .string ⟨#[112, 101, 114, 109, 117, 116, 101]⟩, val := (.func (.func 72) #[] #[]), born := 1 }, { key := .string ⟨#[115, 112, 114, 101, 97, 100]⟩, val := (.func (.func 73) #[] #[]), born := 2 }, { key := .string ⟨#[114, 101, 115, 104, 97, 112, 101]⟩, val := (.func (.func 74) #[] #[]), born := 3 }, { key := .string ⟨#[119, 105, 110, 100, 111, 119, 115]⟩, val := (.func (.func 75) #[] #[]), born := 4 }, { key := .string ⟨#[100, 105, 97, 103, 111, 110, 97, 108]⟩, val := (.func (.func 76) #[] #[]), born := 5 }] 6)) = .ok (.func (.func 73) #[] #[]) (w.alloc (.map #[{ key := .string ⟨#[115, 108, 105, 99, 101]⟩, val := (.func (.func 71) #[] #[]), born := 0 }, { key := .string ⟨#[112, 101, 114, 109, 117, 116, 101]⟩, val := (.func (.func 72) #[] #[]), born := 1 }, { key := .string ⟨#[115, 112, 114, 101, 97, 100]⟩, val := (.func (.func 73) #[] #[]), born := 2 }, { key := .string ⟨#[114, 101, 115, 104, 97, 112, 101]⟩, val := (.func (.func 74) #[] #[]), born := 3 }, { key := .string ⟨#[119, 105, 110, 100, 111, 119, 115]⟩, val := (.func (.func 75) #[] #[]), born := 4 }, { key := .string ⟨#[100, 105, 97, 103, 111, 110, 97, 108]⟩, val := (.func (.func 76) #[] #[]), born := 5 }] 6)) := map_get w _ _ 2 _ _ (by rfl)
theorem spreadNamed (w : World) : Calls Try.prog 46 #[.string ⟨#[115, 112, 114, 101, 97, 100]⟩] w fun e w' => e = .returned (.func (.func 73) #[] #[]) ∧ Below w.heap.size w w' := by
  have hmm := @run_makeMap Try.prog
  have q0 := put0
  have q1 := put1
  have q2 := put2
  have q3 := put3
  have q4 := put4
  have q5 := put5
  have q6 := get2
  go_enter Try.func46, Try.ntmps46
  go_wp2_with fail
  go_ret
  exact ⟨rfl, (Below.refl _ _).alloc (Nat.le_refl _) _⟩
theorem get3 (w : World) : (Instr.lookup 67 (.map (some w.heap.size)) (.string ⟨#[114, 101, 115, 104, 97, 112, 101]⟩) false).run Try.prog (w.alloc (.map #[{ key := .string ⟨#[115, 108, 105, 99, 101]⟩, val := (.func (.func 71) #[] #[]), born := 0 }, { key := .string ⟨#[112, 101, 114, 109, 117, 116, 101]⟩, val := (.func (.func 72) #[] #[]), born := 1 }, { key := .string ⟨#[115, 112, 114, 101, 97, 100]⟩, val := (.func (.func 73) #[] #[]), born := 2 }, { key := .string ⟨#[114, 101, 115, 104, 97, 112, 101]⟩, val := (.func (.func 74) #[] #[]), born := 3 }, { key := .string ⟨#[119, 105, 110, 100, 111, 119, 115]⟩, val := (.func (.func 75) #[] #[]), born := 4 }, { key := .string ⟨#[100, 105, 97, 103, 111, 110, 97, 108]⟩, val := (.func (.func 76) #[] #[]), born := 5 }] 6)) = .ok (.func (.func 74) #[] #[]) (w.alloc (.map #[{ key := .string ⟨#[115, 108, 105, 99, 101]⟩, val := (.func (.func 71) #[] #[]), born := 0 }, { key := .string ⟨#[112, 101, 114, 109, 117, 116, 101]⟩, val := (.func (.func 72) #[] #[]), born := 1 }, { key := .string ⟨#[115, 112, 114, 101, 97, 100]⟩, val := (.func (.func 73) #[] #[]), born := 2 }, { key := .string ⟨#[114, 101, 115, 104, 97, 112, 101]⟩, val := (.func (.func 74) #[] #[]), born := 3 }, { key := .string ⟨#[119, 105, 110, 100, 111, 119, 115]⟩, val := (.func (.func 75) #[] #[]), born := 4 }, { key := .string ⟨#[100, 105, 97, 103, 111, 110, 97, 108]⟩, val := (.func (.func 76) #[] #[]), born := 5 }] 6)) := map_get w _ _ 3 _ _ (by rfl)
theorem reshapeNamed (w : World) : Calls Try.prog 46 #[.string ⟨#[114, 101, 115, 104, 97, 112, 101]⟩] w fun e w' => e = .returned (.func (.func 74) #[] #[]) ∧ Below w.heap.size w w' := by
  have hmm := @run_makeMap Try.prog
  have q0 := put0
  have q1 := put1
  have q2 := put2
  have q3 := put3
  have q4 := put4
  have q5 := put5
  have q6 := get3
  go_enter Try.func46, Try.ntmps46
  go_wp2_with fail
  go_ret
  exact ⟨rfl, (Below.refl _ _).alloc (Nat.le_refl _) _⟩
theorem get4 (w : World) : (Instr.lookup 67 (.map (some w.heap.size)) (.string ⟨#[119, 105, 110, 100, 111, 119, 115]⟩) false).run Try.prog (w.alloc (.map #[{ key := .string ⟨#[115, 108, 105, 99, 101]⟩, val := (.func (.func 71) #[] #[]), born := 0 }, { key := .string ⟨#[112, 101, 114, 109, 117, 116, 101]⟩, val := (.func (.func 72) #[] #[]), born := 1 }, { key := .string ⟨#[115, 112, 114, 101, 97, 100]⟩, val := (.func (.func 73) #[] #[]), born := 2 }, { key := .string ⟨#[114, 101, 115, 104, 97, 112, 101]⟩, val := (.func (.func 74) #[] #[]), born := 3 }, { key := .string ⟨#[119, 105, 110, 100, 111, 119, 115]⟩, val := (.func (.func 75) #[] #[]), born := 4 }, { key := .string ⟨#[100, 105, 97, 103, 111, 110, 97, 108]⟩, val := (.func (.func 76) #[] #[]), born := 5 }] 6)) = .ok (.func (.func 75) #[] #[]) (w.alloc (.map #[{ key := .string ⟨#[115, 108, 105, 99, 101]⟩, val := (.func (.func 71) #[] #[]), born := 0 }, { key := .string ⟨#[112, 101, 114, 109, 117, 116, 101]⟩, val := (.func (.func 72) #[] #[]), born := 1 }, { key := .string ⟨#[115, 112, 114, 101, 97, 100]⟩, val := (.func (.func 73) #[] #[]), born := 2 }, { key := .string ⟨#[114, 101, 115, 104, 97, 112, 101]⟩, val := (.func (.func 74) #[] #[]), born := 3 }, { key := .string ⟨#[119, 105, 110, 100, 111, 119, 115]⟩, val := (.func (.func 75) #[] #[]), born := 4 }, { key := .string ⟨#[100, 105, 97, 103, 111, 110, 97, 108]⟩, val := (.func (.func 76) #[] #[]), born := 5 }] 6)) := map_get w _ _ 4 _ _ (by rfl)
theorem windowsNamed (w : World) : Calls Try.prog 46 #[.string ⟨#[119, 105, 110, 100, 111, 119, 115]⟩] w fun e w' => e = .returned (.func (.func 75) #[] #[]) ∧ Below w.heap.size w w' := by
  have hmm := @run_makeMap Try.prog
  have q0 := put0
  have q1 := put1
  have q2 := put2
  have q3 := put3
  have q4 := put4
  have q5 := put5
  have q6 := get4
  go_enter Try.func46, Try.ntmps46
  go_wp2_with fail
  go_ret
  exact ⟨rfl, (Below.refl _ _).alloc (Nat.le_refl _) _⟩
theorem get5 (w : World) : (Instr.lookup 67 (.map (some w.heap.size)) (.string ⟨#[100, 105, 97, 103, 111, 110, 97, 108]⟩) false).run Try.prog (w.alloc (.map #[{ key := .string ⟨#[115, 108, 105, 99, 101]⟩, val := (.func (.func 71) #[] #[]), born := 0 }, { key := .string ⟨#[112, 101, 114, 109, 117, 116, 101]⟩, val := (.func (.func 72) #[] #[]), born := 1 }, { key := .string ⟨#[115, 112, 114, 101, 97, 100]⟩, val := (.func (.func 73) #[] #[]), born := 2 }, { key := .string ⟨#[114, 101, 115, 104, 97, 112, 101]⟩, val := (.func (.func 74) #[] #[]), born := 3 }, { key := .string ⟨#[119, 105, 110, 100, 111, 119, 115]⟩, val := (.func (.func 75) #[] #[]), born := 4 }, { key := .string ⟨#[100, 105, 97, 103, 111, 110, 97, 108]⟩, val := (.func (.func 76) #[] #[]), born := 5 }] 6)) = .ok (.func (.func 76) #[] #[]) (w.alloc (.map #[{ key := .string ⟨#[115, 108, 105, 99, 101]⟩, val := (.func (.func 71) #[] #[]), born := 0 }, { key := .string ⟨#[112, 101, 114, 109, 117, 116, 101]⟩, val := (.func (.func 72) #[] #[]), born := 1 }, { key := .string ⟨#[115, 112, 114, 101, 97, 100]⟩, val := (.func (.func 73) #[] #[]), born := 2 }, { key := .string ⟨#[114, 101, 115, 104, 97, 112, 101]⟩, val := (.func (.func 74) #[] #[]), born := 3 }, { key := .string ⟨#[119, 105, 110, 100, 111, 119, 115]⟩, val := (.func (.func 75) #[] #[]), born := 4 }, { key := .string ⟨#[100, 105, 97, 103, 111, 110, 97, 108]⟩, val := (.func (.func 76) #[] #[]), born := 5 }] 6)) := map_get w _ _ 5 _ _ (by rfl)
theorem diagonalNamed (w : World) : Calls Try.prog 46 #[.string ⟨#[100, 105, 97, 103, 111, 110, 97, 108]⟩] w fun e w' => e = .returned (.func (.func 76) #[] #[]) ∧ Below w.heap.size w w' := by
  have hmm := @run_makeMap Try.prog
  have q0 := put0
  have q1 := put1
  have q2 := put2
  have q3 := put3
  have q4 := put4
  have q5 := put5
  have q6 := get5
  go_enter Try.func46, Try.ntmps46
  go_wp2_with fail
  go_ret
  exact ⟨rfl, (Below.refl _ _).alloc (Nat.le_refl _) _⟩
end Vo
end Go.Proofs.Ytejfodkobfdelaa
