/- Nests that come in as arguments; copies of one nest. -/
import Derived.Test.YtgmjijjckedmcaaJk
import Derived.Test.YtgmjijjckedmcaaAr
import Derived.Lib.SmallJoins
namespace Go.Proofs.Ytgmjijjckedmcaa
namespace Vo
open Go.ChangeShapes Go.WideShapes Go.ChangeAt Go.RowKit Go.Joins Go.Sort
open Vl Vp
set_option linter.unusedVariables false
section
variable {H : Type} {enc : TypeId × Value → H} {w : World} {base : Nat} {spare : Nat → Bool} {held : Bool} {fuel : Nat}
theorem av_of {c0 c1 c2 : Value} {x : DataW H × List MemPlace} (h : DataW.trod enc Try.prog w base spare held fuel 78 [c0, c1, c2] = some x) :
    ∃ v : AV, (c0 = .int .i64 v.u ∧ c1 = .int .i64 v.o ∧ c2 = .slice v.a v.r v.cap) ∧ (v.r : Int) ≤ 9223372036854775807 ∧ Ints w.heap.size w v.a v.r v.D ∧ bd v.u ∧ bd v.o := by
  obtain ⟨y0, n0, q0⟩ := field_of Try.underlying78 h 0 _ rfl 1 (by kernel_rfl)
  obtain ⟨y1, n1, q1⟩ := field_of Try.underlying78 h 1 _ rfl 1 (by kernel_rfl)
  obtain ⟨y2, n2, q2⟩ := field_of Try.underlying78 h 2 _ rfl 1 (by kernel_rfl)
  have q0 : DataW.trod enc Try.prog w base spare held n0 3 [c0] = some y0 := q0
  have q1 : DataW.trod enc Try.prog w base spare held n1 3 [c1] = some y1 := q1
  have q2 : DataW.trod enc Try.prog w base spare held n2 22 [c2] = some y2 := q2
  obtain ⟨u, rfl, hu⟩ := int_of q0
  obtain ⟨o, rfl, ho⟩ := int_of q1
  obtain ⟨a, r, cap, rfl, hr, D, hD⟩ := arg_of q2
  exact ⟨⟨u, o, a, r, cap, D⟩, ⟨rfl, rfl, rfl⟩, hr, hD, hu, ho⟩
theorem fv_of {c0 c1 : Value} {x : DataW H × List MemPlace} (h : DataW.trod enc Try.prog w base spare held fuel 74 [c0, c1] = some x) :
    ∃ v : FV, (c0 = .int .i64 v.u ∧ c1 = .slice v.a v.r v.cap) ∧ (v.r : Int) ≤ 9223372036854775807 ∧ Ints w.heap.size w v.a v.r v.D ∧ bd v.u := by
  obtain ⟨y0, n0, q0⟩ := field_of Try.underlying74 h 0 _ rfl 1 (by kernel_rfl)
  obtain ⟨y2, n2, q2⟩ := field_of Try.underlying74 h 1 _ rfl 1 (by kernel_rfl)
  have q0 : DataW.trod enc Try.prog w base spare held n0 3 [c0] = some y0 := q0
  have q2 : DataW.trod enc Try.prog w base spare held n2 22 [c1] = some y2 := q2
  obtain ⟨u, rfl, hu⟩ := int_of q0
  obtain ⟨a, r, cap, rfl, hr, D, hD⟩ := arg_of q2
  exact ⟨⟨u, a, r, cap, D⟩, ⟨rfl, rfl⟩, hr, hD, hu⟩
theorem cv_of {c0 c1 c2 : Value} {x : DataW H × List MemPlace} (h : DataW.trod enc Try.prog w base spare held fuel 140 [c0, c1, c2] = some x) :
    ∃ v : CV, (c0 = .int .i64 v.x ∧ c1 = .int .i64 v.y ∧ c2 = .int .i64 v.z) ∧ bd v.x ∧ bd v.y ∧ bd v.z := by
  obtain ⟨y0, n0, q0⟩ := field_of Try.underlying140 h 0 _ rfl 1 (by kernel_rfl)
  obtain ⟨y1, n1, q1⟩ := field_of Try.underlying140 h 1 _ rfl 1 (by kernel_rfl)
  obtain ⟨y2, n2, q2⟩ := field_of Try.underlying140 h 2 _ rfl 1 (by kernel_rfl)
  have q0 : DataW.trod enc Try.prog w base spare held n0 3 [c0] = some y0 := q0
  have q1 : DataW.trod enc Try.prog w base spare held n1 3 [c1] = some y1 := q1
  have q2 : DataW.trod enc Try.prog w base spare held n2 3 [c2] = some y2 := q2
  obtain ⟨u, rfl, hu⟩ := int_of q0
  obtain ⟨o, rfl, ho⟩ := int_of q1
  obtain ⟨z, rfl, hz⟩ := int_of q2
  exact ⟨⟨u, o, z⟩, ⟨rfl, rfl, rfl⟩, hu, ho, hz⟩
theorem three {cs : List Value} (h : cs.length = 3) : ∃ c0 c1 c2, cs = [c0, c1, c2] := by
  match cs, h with
  | [c0, c1, c2], _ => exact ⟨c0, c1, c2, rfl⟩
theorem two' {cs : List Value} (h : cs.length = 2) : ∃ c0 c1, cs = [c0, c1] := by
  match cs, h with
  | [c0, c1], _ => exact ⟨c0, c1, rfl⟩
theorem seven {cs : List Value} (h : cs.length = 7) : ∃ c0 c1 c2 c3 c4 c5 c6, cs = [c0, c1, c2, c3, c4, c5, c6] := by
  match cs, h with
  | [c0, c1, c2, c3, c4, c5, c6], _ => exact ⟨c0, c1, c2, c3, c4, c5, c6, rfl⟩
theorem la_of {c : Value} {x : DataW H × List MemPlace} (h : DataW.trod enc Try.prog w base spare held fuel 76 [c] = some x) :
    ∃ a l cap A, c = .slice a l cap ∧ (l : Int) ≤ 9223372036854775807 ∧ LA w.heap.size w a l A ∧ ALen l A 9223372036854775807 := by
  obtain ⟨a, l, cap, rfl, hl, h0 | ⟨blk, off, rfl, hb, he⟩⟩ := els_at Try.underlying76 (n := 3) (by kernel_rfl) (by omega) h
  · exact ⟨a, l, cap, fun _ => ⟨0, 0, none, 0, 0, fun _ => 0⟩, rfl, hl, .inl h0, fun i hi => by omega⟩
  · obtain ⟨A, hA⟩ := choose_of (⟨0, 0, none, 0, 0, fun _ => 0⟩ : AV) (l := l) (P := fun i v => (w.cell? ⟨blk, off + i * 3, none⟩ = some (.int .i64 v.u) ∧ w.cell? ⟨blk, off + i * 3 + 1, none⟩ = some (.int .i64 v.o) ∧ w.cell? ⟨blk, off + i * 3 + 2, none⟩ = some (.slice v.a v.r v.cap) ∧ Ints w.heap.size w v.a v.r v.D ∧ bd v.u ∧ bd v.o) ∧ (v.r : Int) ≤ 9223372036854775807) (fun i hi => by
      obtain ⟨cs, m, y, hcl, hce, hy⟩ := he i hi
      obtain ⟨c0, c1, c2, rfl⟩ := three hcl
      obtain ⟨v, ⟨rfl, rfl, rfl⟩, hr, hD, hu, ho⟩ := av_of hy
      exact ⟨v, ⟨hce 0 (by omega), hce 1 (by omega), hce 2 (by omega), hD, hu, ho⟩, hr⟩)
    exact ⟨_, l, cap, A, rfl, hl, .inr ⟨blk, off, rfl, hb, fun i hi => (hA i hi).1⟩, fun i hi => (hA i hi).2⟩
theorem lf_of {c : Value} {x : DataW H × List MemPlace} (h : DataW.trod enc Try.prog w base spare held fuel 23 [c] = some x) :
    ∃ a l cap A, c = .slice a l cap ∧ (l : Int) ≤ 9223372036854775807 ∧ LF w.heap.size w a l A ∧ FLen l A 9223372036854775807 := by
  obtain ⟨a, l, cap, rfl, hl, h0 | ⟨blk, off, rfl, hb, he⟩⟩ := els_at Try.underlying23 (n := 2) (by kernel_rfl) (by omega) h
  · exact ⟨a, l, cap, fun _ => ⟨0, none, 0, 0, fun _ => 0⟩, rfl, hl, .inl h0, fun i hi => by omega⟩
  · obtain ⟨A, hA⟩ := choose_of (⟨0, none, 0, 0, fun _ => 0⟩ : FV) (l := l) (P := fun i v => (w.cell? ⟨blk, off + i * 2, none⟩ = some (.int .i64 v.u) ∧ w.cell? ⟨blk, off + i * 2 + 1, none⟩ = some (.slice v.a v.r v.cap) ∧ Ints w.heap.size w v.a v.r v.D ∧ bd v.u) ∧ (v.r : Int) ≤ 9223372036854775807) (fun i hi => by
      obtain ⟨cs, m, y, hcl, hce, hy⟩ := he i hi
      obtain ⟨c0, c1, rfl⟩ := two' hcl
      obtain ⟨v, ⟨rfl, rfl⟩, hr, hD, hu⟩ := fv_of hy
      exact ⟨v, ⟨hce 0 (by omega), hce 1 (by omega), hD, hu⟩, hr⟩)
    exact ⟨_, l, cap, A, rfl, hl, .inr ⟨blk, off, rfl, hb, fun i hi => (hA i hi).1⟩, fun i hi => (hA i hi).2⟩
theorem lc_of {c : Value} {x : DataW H × List MemPlace} (h : DataW.trod enc Try.prog w base spare held fuel 79 [c] = some x) :
    ∃ a l cap A, c = .slice a l cap ∧ (l : Int) ≤ 9223372036854775807 ∧ LC w.heap.size w a l A := by
  obtain ⟨a, l, cap, rfl, hl, h0 | ⟨blk, off, rfl, hb, he⟩⟩ := els_at Try.underlying79 (n := 3) (by kernel_rfl) (by omega) h
  · exact ⟨a, l, cap, fun _ => ⟨0, 0, 0⟩, rfl, hl, .inl h0⟩
  · obtain ⟨A, hA⟩ := choose_of (⟨0, 0, 0⟩ : CV) (l := l) (P := fun i v => w.cell? ⟨blk, off + i * 3, none⟩ = some (.int .i64 v.x) ∧ w.cell? ⟨blk, off + i * 3 + 1, none⟩ = some (.int .i64 v.y) ∧ w.cell? ⟨blk, off + i * 3 + 2, none⟩ = some (.int .i64 v.z) ∧ bd v.x ∧ bd v.y ∧ bd v.z) (fun i hi => by
      obtain ⟨cs, m, y, hcl, hce, hy⟩ := he i hi
      obtain ⟨c0, c1, c2, rfl⟩ := three hcl
      obtain ⟨v, ⟨rfl, rfl, rfl⟩, hu, ho, hz⟩ := cv_of hy
      exact ⟨v, hce 0 (by omega), hce 1 (by omega), hce 2 (by omega), hu, ho, hz⟩)
    exact ⟨_, l, cap, A, rfl, hl, .inr ⟨blk, off, rfl, hb, hA⟩⟩
theorem kv_of {c0 c1 c2 c3 c4 c5 c6 : Value} {x : DataW H × List MemPlace} (h : DataW.trod enc Try.prog w base spare held fuel 81 [c0, c1, c2, c3, c4, c5, c6] = some x) :
    ∃ k : KV, (c0 = .slice k.la k.lr k.lcap ∧ c1 = .slice k.aa k.an k.acap ∧ c2 = .int .i64 k.st.u ∧ c3 = .int .i64 k.st.o ∧ c4 = .slice k.st.a k.st.r k.st.cap ∧ c5 = .bool k.sm ∧ c6 = .slice k.ca k.cn k.ccap) ∧ k.read w.heap.size w ∧ k.len 9223372036854775807 := by
  obtain ⟨y0, n0, q0⟩ := field_of Try.underlying81 h 0 _ rfl 1 (by kernel_rfl)
  obtain ⟨y1, n1, q1⟩ := field_of Try.underlying81 h 1 _ rfl 1 (by kernel_rfl)
  obtain ⟨y2, n2, q2⟩ := field_of Try.underlying81 h 2 _ rfl 3 (by kernel_rfl)
  obtain ⟨y3, n3, q3⟩ := field_of Try.underlying81 h 3 _ rfl 1 (by kernel_rfl)
  obtain ⟨y4, n4, q4⟩ := field_of Try.underlying81 h 4 _ rfl 1 (by kernel_rfl)
  have q0 : DataW.trod enc Try.prog w base spare held n0 22 [c0] = some y0 := q0
  have q1 : DataW.trod enc Try.prog w base spare held n1 76 [c1] = some y1 := q1
  have q2 : DataW.trod enc Try.prog w base spare held n2 78 [c2, c3, c4] = some y2 := q2
  have q3 : DataW.trod enc Try.prog w base spare held n3 4 [c5] = some y3 := q3
  have q4 : DataW.trod enc Try.prog w base spare held n4 79 [c6] = some y4 := q4
  obtain ⟨a, r, cap, rfl, hr, D, hD⟩ := arg_of q0
  obtain ⟨a1, r1, cap1, A, rfl, hr1, hA, hLA⟩ := la_of q1
  obtain ⟨v, ⟨rfl, rfl, rfl⟩, hr2, hD2, hu, ho⟩ := av_of q2
  obtain ⟨sm, e3, _⟩ := DataW.trod_bool Try.underlying4 q3
  simp at e3
  subst e3
  obtain ⟨a4, r4, cap4, C, rfl, hr4, hC⟩ := lc_of q4
  exact ⟨⟨a, r, cap, D, a1, r1, cap1, A, v, sm, a4, r4, cap4, C⟩, ⟨rfl, rfl, rfl, rfl, rfl, rfl, rfl⟩, ⟨hD, hA, ⟨hD2, hu, ho⟩, hC⟩, hr, hr1, hLA, hr2, hr4⟩
theorem lk_of {c : Value} {x : DataW H × List MemPlace} (h : DataW.trod enc Try.prog w base spare held fuel 24 [c] = some x) :
    ∃ a l cap K, c = .slice a l cap ∧ (l : Int) ≤ 9223372036854775807 ∧ LK w.heap.size w a l K ∧ KLen l K 9223372036854775807 := by
  obtain ⟨a, l, cap, rfl, hl, h0 | ⟨blk, off, rfl, hb, he⟩⟩ := els_at Try.underlying24 (n := 7) (by kernel_rfl) (by omega) h
  · exact ⟨a, l, cap, fun _ => ⟨none, 0, 0, fun _ => 0, none, 0, 0, fun _ => ⟨0, 0, none, 0, 0, fun _ => 0⟩, ⟨0, 0, none, 0, 0, fun _ => 0⟩, false, none, 0, 0, fun _ => ⟨0, 0, 0⟩⟩, rfl, hl, .inl h0, fun i hi => by omega⟩
  · obtain ⟨K, hK⟩ := choose_of (⟨none, 0, 0, fun _ => 0, none, 0, 0, fun _ => ⟨0, 0, none, 0, 0, fun _ => 0⟩, ⟨0, 0, none, 0, 0, fun _ => 0⟩, false, none, 0, 0, fun _ => ⟨0, 0, 0⟩⟩ : KV) (l := l) (P := fun i k => (KAt w blk (off + i * 7) k ∧ k.read w.heap.size w) ∧ k.len 9223372036854775807) (fun i hi => by
      obtain ⟨cs, m, y, hcl, hce, hy⟩ := he i hi
      obtain ⟨c0, c1, c2, c3, c4, c5, c6, rfl⟩ := seven hcl
      obtain ⟨k, ⟨rfl, rfl, rfl, rfl, rfl, rfl, rfl⟩, hr, hl⟩ := kv_of hy
      exact ⟨k, ⟨⟨hce 0 (by omega), hce 1 (by omega), hce 2 (by omega), hce 3 (by omega), hce 4 (by omega), hce 5 (by omega), hce 6 (by omega)⟩, hr⟩, hl⟩)
    exact ⟨_, l, cap, K, rfl, hl, .inr ⟨blk, off, rfl, hb, fun i hi => (hK i hi).1⟩, fun i hi => (hK i hi).2⟩
/-- an argument: a nest -/
def ArgN (w : World) (v : Value) : Prop := ∃ u : NV, v = u.val ∧ u.read w.heap.size w ∧ u.len 9223372036854775807
theorem argN_of {c0 c1 c2 c3 c4 : Value} {x : DataW H × List MemPlace} (h : DataW.trod enc Try.prog w base spare held fuel 26 [c0, c1, c2, c3, c4] = some x) : ArgN w (.agg #[c0, c1, c2, c3, c4]) := by
  obtain ⟨y0, n0, q0⟩ := field_of Try.underlying26 h 0 _ rfl 1 (by kernel_rfl)
  obtain ⟨y1, n1, q1⟩ := field_of Try.underlying26 h 1 _ rfl 1 (by kernel_rfl)
  obtain ⟨y2, n2, q2⟩ := field_of Try.underlying26 h 2 _ rfl 1 (by kernel_rfl)
  obtain ⟨y3, n3, q3⟩ := field_of Try.underlying26 h 3 _ rfl 1 (by kernel_rfl)
  obtain ⟨y4, n4, q4⟩ := field_of Try.underlying26 h 4 _ rfl 1 (by kernel_rfl)
  have q0 : DataW.trod enc Try.prog w base spare held n0 22 [c0] = some y0 := q0
  have q1 : DataW.trod enc Try.prog w base spare held n1 22 [c1] = some y1 := q1
  have q2 : DataW.trod enc Try.prog w base spare held n2 23 [c2] = some y2 := q2
  have q3 : DataW.trod enc Try.prog w base spare held n3 24 [c3] = some y3 := q3
  have q4 : DataW.trod enc Try.prog w base spare held n4 22 [c4] = some y4 := q4
  obtain ⟨a0, r0, p0, rfl, hr0, D0, hD0⟩ := arg_of q0
  obtain ⟨a1, r1, p1, rfl, hr1, D1, hD1⟩ := arg_of q1
  obtain ⟨a2, r2, p2, F, rfl, hr2, hF, hFL⟩ := lf_of q2
  obtain ⟨a3, r3, p3, K, rfl, hr3, hK, hKL⟩ := lk_of q3
  obtain ⟨a4, r4, p4, rfl, hr4, D4, hD4⟩ := arg_of q4
  exact ⟨⟨a0, r0, p0, D0, a1, r1, p1, D1, a2, r2, p2, F, a3, r3, p3, K, a4, r4, p4, D4⟩, rfl, ⟨hD0, hD1, hF, hK, hD4⟩, hr0, hr1, ⟨hr2, hFL⟩, ⟨hr3, hKL⟩, hr4⟩
set_option maxRecDepth 100000 in
theorem argN_at {b0 : Nat} {v : Value} {d : DataW H} {p : List MemPlace} (hv : Value.okWide Try.prog w .any b0 26 v) (h : DataW.Trod enc Try.prog w base spare held 26 v d p) : ArgN w v := by
  obtain ⟨cs, rfl, hsz⟩ := okWide_struct Try.underlying26 hv
  have hC : Try.prog.cellsOf 26 = 5 := by kernel_rfl
  obtain ⟨l⟩ := cs
  match l, hsz.trans hC with
  | [c0, c1, c2, c3, c4], _ =>
    obtain ⟨fuel, hf⟩ := h
    exact argN_of (by simpa [Value.cells] using hf)
end
/-! ### Copies of one nest -/
/-- the same to look at -/
def KEq (k k' : KV) : Prop := k'.lr = k.lr ∧ k'.LD = k.LD ∧ k'.an = k.an ∧ (∀ i, i < k.an → (k'.AA i).u = (k.AA i).u ∧ (k'.AA i).o = (k.AA i).o ∧ (k'.AA i).r = (k.AA i).r ∧ (k'.AA i).D = (k.AA i).D) ∧ (k'.st.u = k.st.u ∧ k'.st.o = k.st.o ∧ k'.st.r = k.st.r ∧ k'.st.D = k.st.D) ∧ k'.cn = k.cn ∧ (∀ i, i < k.cn → k'.CC i = k.CC i)
theorem KEq.symm {k k' : KV} (h : KEq k k') : KEq k' k := by
  obtain ⟨h1, h2, h3, h4, ⟨h5, h6, h7, h8⟩, h9, h10⟩ := h
  refine ⟨h1.symm, h2.symm, h3.symm, fun i hi => ?_, ⟨h5.symm, h6.symm, h7.symm, h8.symm⟩, h9.symm, fun i hi => (h10 i (by omega)).symm⟩
  obtain ⟨a, b, c, d⟩ := h4 i (by omega)
  exact ⟨a.symm, b.symm, c.symm, d.symm⟩
def NEq (v u : NV) : Prop := (u.sn = v.sn ∧ u.SD = v.SD) ∧ (u.i = v.i ∧ u.ID = v.ID) ∧ (u.fn = v.fn ∧ ∀ j, j < v.fn → (u.FF j).u = (v.FF j).u ∧ (u.FF j).r = (v.FF j).r ∧ (u.FF j).D = (v.FF j).D) ∧ (u.kn = v.kn ∧ ∀ j, j < v.kn → KEq (v.KK j) (u.KK j)) ∧ (u.on = v.on ∧ u.OD = v.OD)
theorem NEq.symm {v u : NV} (h : NEq v u) : NEq u v := by
  obtain ⟨⟨h1, h2⟩, ⟨h3, h4⟩, ⟨h5, h6⟩, ⟨h7, h8⟩, h9, h10⟩ := h
  refine ⟨⟨h1.symm, h2.symm⟩, ⟨h3.symm, h4.symm⟩, ⟨h5.symm, fun j hj => ?_⟩, ⟨h7.symm, fun j hj => (h8 j (by omega)).symm⟩, h9.symm, h10.symm⟩
  obtain ⟨a, b, c⟩ := h6 j (by omega)
  exact ⟨a.symm, b.symm, c.symm⟩
theorem NSame.eq {v u : NV} (h : NSame v u) : NEq v u := by
  obtain ⟨h1, h2, ⟨h5, h6⟩, ⟨h7, h8⟩, h9⟩ := h
  refine ⟨h1, h2, ⟨h5, fun j hj => ⟨(h6 j hj).1, (h6 j hj).2.1, (h6 j hj).2.2.1⟩⟩, ⟨h7, fun j hj => ?_⟩, h9⟩
  obtain ⟨k1, k2, k3, k4, k5, _, k7, k8⟩ := h8 j hj
  exact ⟨k1, k2, k3, fun i hi => ⟨(k4 i hi).1, (k4 i hi).2.1, (k4 i hi).2.2.1, (k4 i hi).2.2.2.1⟩, k5, k7, k8⟩
theorem hasB_congr {n : Nat} {G G' : Nat → Int} (h : ∀ j, j < n → G j = G' j) (x : Int) : hasB n G x = hasB n G' x := by
  unfold hasB
  exact decide_eq_decide.2 ⟨fun ⟨t, ht, e⟩ => ⟨t, ht, by rw [← h t ht]; exact e⟩, fun ⟨t, ht, e⟩ => ⟨t, ht, by rw [h t ht]; exact e⟩⟩
theorem gvn_eq {v u : NV} (h : NEq v u) : ∀ j, j < v.i + v.fn → gvn u j = gvn v j := by
  intro j hj
  unfold gvn
  rw [h.2.1.1, h.2.1.2]
  split
  · rfl
  · exact (h.2.2.1.2 (j - v.i) (by omega)).1
theorem acOk_eq {x y : AV} {lr : Nat} {LD : Nat → Int} {sn : Nat} {SD : Nat → Int} (h : y.u = x.u ∧ y.o = x.o ∧ y.r = x.r ∧ y.D = x.D) (hx : AcOk x lr LD sn SD) : AcOk y lr LD sn SD := by
  unfold AcOk at *
  rw [h.1, h.2.1, h.2.2.1, h.2.2.2]
  exact hx
theorem kOk_eq {k k' : KV} {sn : Nat} {SD : Nat → Int} (h : KEq k k') (hk : KOk k sn SD) : KOk k' sn SD := by
  obtain ⟨h1, h2, h3, h4, h5, h9, h10⟩ := h
  obtain ⟨a1, a2, a3, ⟨b1, b2, b3⟩, a5, a6⟩ := hk
  unfold KOk
  rw [h1, h2, h3, h9]
  refine ⟨a1, a2, a3, ⟨b1, b2, fun i hi => by rw [h10 i hi]; exact b3 i hi⟩, acOk_eq h5 a5, fun i hi => ⟨acOk_eq (h4 i hi) (a6 i hi).1, ?_⟩⟩
  rw [(h4 i hi).1, h5.1]
  exact (a6 i hi).2
theorem psum_eq {K K' : Nat → KV} : ∀ (n : Nat), (∀ j, j < n → KEq (K j) (K' j)) → psum K' n = psum K n
  | 0, _ => rfl
  | n + 1, h => by
    show psum K' n + pd (K' n).LD (K' n).lr = psum K n + pd (K n).LD (K n).lr
    rw [psum_eq n (fun j hj => h j (by omega)), (h n (by omega)).1, (h n (by omega)).2.1]
theorem nok_of {v u : NV} (h : NEq v u) (hv : NOk v) : NOk u := by
  have G := gvn_eq h
  obtain ⟨⟨h1, h2⟩, ⟨h3, h4⟩, ⟨h5, h6⟩, ⟨h7, h8⟩, h9, h10⟩ := h
  obtain ⟨a1, a2, a3, a4, a5, a6, a7⟩ := hv
  unfold NOk
  rw [h1, h2, h3, h4, h5, h7, h9, h10]
  refine ⟨a1, a2, a3, fun j hj => ?_, fun j hj => ?_, fun j hj => ⟨kOk_eq (h8 j hj) (a6 j hj).1, ?_⟩, by rw [psum_eq _ h8]; exact a7⟩
  · rw [hasB_congr (G' := gvn v) (fun t ht => G t (by omega))]
    exact a4 j hj
  · have q := a5 j hj
    unfold FxOk at q ⊢
    rw [h1, h2, h3, (h6 j hj).1, (h6 j hj).2.1, (h6 j hj).2.2, hasB_congr (G' := gvn v) (fun t ht => G t (by omega))]
    exact q
  · rw [(h8 j hj).2.2.2.2.1.1, hasB_congr (G' := gvn v) (fun t ht => G t (by omega))]
    exact (a6 j hj).2
theorem nok_same {v u : NV} (h : NSame v u) : decide (NOk u) = decide (NOk v) := decide_eq_decide.2 ⟨nok_of h.eq.symm, nok_of h.eq⟩
theorem KSame.both {k k1 k2 : KV} (h : KSame k k1) (h' : KSame k k2) : KSame k1 k2 := by
  obtain ⟨a1, a2, a3, a4, ⟨a5, a6, a7, a8⟩, a9, a10, a11⟩ := h
  obtain ⟨b1, b2, b3, b4, ⟨b5, b6, b7, b8⟩, b9, b10, b11⟩ := h'
  refine ⟨by rw [a1, b1], by rw [a2, b2], by rw [a3, b3], fun i hi => ?_, ⟨by rw [a5, b5], by rw [a6, b6], by rw [a7, b7], by rw [a8, b8]⟩, by rw [a9, b9], by rw [a10, b10], fun i hi => ?_⟩
  · obtain ⟨c1, c2, c3, c4, c5⟩ := a4 i (by omega)
    obtain ⟨d1, d2, d3, d4, d5⟩ := b4 i (by omega)
    exact ⟨by rw [c1, d1], by rw [c2, d2], by rw [c3, d3], by rw [c4, d4], by rw [c3, d5]⟩
  · rw [a11 i (by omega), b11 i (by omega)]
theorem NSame.both {v u1 u2 : NV} (h : NSame v u1) (h' : NSame v u2) : NSame u1 u2 := by
  obtain ⟨⟨a1, a2⟩, ⟨a3, a4⟩, ⟨a5, a6⟩, ⟨a7, a8⟩, a9, a10⟩ := h
  obtain ⟨⟨b1, b2⟩, ⟨b3, b4⟩, ⟨b5, b6⟩, ⟨b7, b8⟩, b9, b10⟩ := h'
  refine ⟨⟨by rw [a1, b1], by rw [a2, b2]⟩, ⟨by rw [a3, b3], by rw [a4, b4]⟩, ⟨by rw [a5, b5], fun j hj => ?_⟩, ⟨by rw [a7, b7], fun j hj => (a8 j (by omega)).both (b8 j (by omega))⟩, by rw [a9, b9], by rw [a10, b10]⟩
  obtain ⟨c1, c2, c3, c4⟩ := a6 j (by omega)
  obtain ⟨d1, d2, d3, d4⟩ := b6 j (by omega)
  exact ⟨by rw [c1, d1], by rw [c2, d2], by rw [c3, d3], by rw [c2, d4]⟩
theorem NSame.len {v u : NV} {m : Int} (h : NSame v u) (hl : v.len m) : u.len m := by
  obtain ⟨⟨a1, a2⟩, ⟨a3, a4⟩, ⟨a5, a6⟩, ⟨a7, a8⟩, a9, a10⟩ := h
  obtain ⟨l1, l2, ⟨l3, l4⟩, ⟨l5, l6⟩, l7⟩ := hl
  unfold NV.len
  rw [a1, a3, a5, a7, a9]
  refine ⟨l1, l2, ⟨l3, fun j hj => ?_⟩, ⟨l5, fun j hj => ?_⟩, l7⟩
  · rw [(a6 j hj).2.1]; exact l4 j hj
  · obtain ⟨b1, b2, b3, b4, ⟨b5, b6, b7, b8⟩, b9, b10, b11⟩ := a8 j hj
    obtain ⟨k1, k2, k3, k4, k5⟩ := l6 j hj
    unfold KV.len
    rw [b1, b3, b7, b10]
    exact ⟨k1, k2, fun i hi => by rw [(b4 i hi).2.2.1]; exact k3 i hi, k4, k5⟩
theorem neq_of {v u : NV} (h : NSame v u) : (u.sn = v.sn ∧ u.SD = v.SD) ∧ (u.i = v.i ∧ u.ID = v.ID) ∧ (u.fn = v.fn ∧ ∀ j, j < v.fn → (u.FF j).u = (v.FF j).u ∧ (u.FF j).r = (v.FF j).r ∧ (u.FF j).D = (v.FF j).D) ∧ (u.kn = v.kn ∧ ∀ j, j < v.kn → KSame (v.KK j) (u.KK j)) ∧ (u.on = v.on ∧ u.OD = v.OD) :=
  ⟨h.1, h.2.1, h.eq.2.2.1, h.2.2.2.1, h.2.2.2.2⟩
end Vo
end Go.Proofs.Ytgmjijjckedmcaa
