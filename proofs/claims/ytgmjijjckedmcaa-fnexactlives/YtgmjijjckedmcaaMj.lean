/- What a buffer's life is, plain: what the program finds. -/
import Derived.Test.YtgmjijjckedmcaaMi
namespace Go.Proofs.Ytgmjijjckedmcaa
namespace Vo
open Go.ChangeShapes Go.WideShapes Go.ChangeAt Go.RowKit Go.Joins Go.Sort
open Vl Vp
set_option linter.unusedVariables false
set_option linter.unusedSimpArgs false
def loadsB (k : KV) (b : Int) : Bool := hasB k.an (fun i => (k.AA i).u) b
/-- does the kernel touch the buffer? -/
def touchB (k : KV) (b : Int) : Bool := decide (k.st.u = b) || loadsB k b
/-- the first kernel that touches it; the last -/
def fs (KK : Nat → KV) (b : Int) : Nat → Int | 0 => -1 | t + 1 => if fs KK b t < 0 ∧ touchB (KK t) b = true then t else fs KK b t
def ls (KK : Nat → KV) (b : Int) : Nat → Int | 0 => 0 | t + 1 => if touchB (KK t) b = true then t else ls KK b t
def gvB (v : NV) (b : Int) : Bool := hasB (v.i + v.fn) (gvn v) b
def ouB (v : NV) (b : Int) : Bool := hasB v.on v.OD b
/-- a buffer's life -/
def lifeV (v : NV) (b : Nat) : MV := ⟨b, v.SD b, if gvB v b = true then 0 else if 0 < fs v.KK b v.kn then fs v.KK b v.kn else 0, if ouB v b = true then v.kn else ls v.KK b v.kn⟩
/-- is it ever alive? -/
def lifeB (v : NV) (b : Nat) : Bool := decide (0 < v.SD b) && (gvB v b || (ouB v b || decide (0 ≤ fs v.KK b v.kn)))
def lvs (v : NV) (j : Nat) : List Nat := (List.range j).filter (fun q => lifeB v q)
theorem fs_rng (KK : Nat → KV) (b : Int) : ∀ t, fs KK b t = -1 ∨ 0 ≤ fs KK b t
  | 0 => .inl rfl
  | t + 1 => by
    unfold fs
    split
    · exact .inr (by omega)
    · exact fs_rng KK b t
theorem fs_lt (KK : Nat → KV) (b : Int) : ∀ t : Nat, fs KK b t < (t : Int)
  | 0 => by unfold fs; omega
  | t + 1 => by
    unfold fs
    split
    · omega
    · have := fs_lt KK b t; omega
theorem ls_rng (KK : Nat → KV) (b : Int) : ∀ t : Nat, 0 ≤ ls KK b t ∧ ls KK b t ≤ (t : Int)
  | 0 => by unfold ls; omega
  | t + 1 => by
    unfold ls
    split
    · omega
    · have := ls_rng KK b t; omega
theorem fs_ls (KK : Nat → KV) (b : Int) : ∀ t : Nat, fs KK b t = -1 ∨ fs KK b t ≤ ls KK b t
  | 0 => .inl rfl
  | t + 1 => by
    have ih := fs_ls KK b t
    have f1 := fs_lt KK b t
    unfold fs ls
    by_cases c : touchB (KK t) b = true
    · rw [if_pos c]
      by_cases d : fs KK b t < 0
      · rw [if_pos ⟨d, c⟩]; exact .inr (Int.le_refl _)
      · rw [if_neg (fun z => d z.1)]; exact .inr (by omega)
    · rw [if_neg c, if_neg (fun z => c z.2)]; exact ih
theorem rch_rch (x : MV) {t : Int} (ht : 0 ≤ t) : rch1 (rch1 x t) t = rch1 x t := by
  unfold rch1
  by_cases c : x.f = -1
  · simp [c]
  · simp [c]
theorem ou_ou (x : MV) {t : Int} (ht : 0 ≤ t) : ou1 (ou1 x t) t = ou1 x t := by
  unfold ou1 rch1
  by_cases c : x.f = -1
  · simp [c]
  · simp [c]
theorem lds_is (K : KV) {t : Int} (ht : 0 ≤ t) (C : Nat → MV) : ∀ m, (∀ i, i < m → 0 ≤ (K.AA i).u) → ∀ b : Nat, lds K t C m b = if hasB m (fun i => (K.AA i).u) b = true then rch1 (C b) t else C b
  | 0, _, b => by
    have : hasB 0 (fun i => (K.AA i).u) b = false := decide_eq_false (by rintro ⟨q, hq, _⟩; omega)
    rw [this]
    rfl
  | m + 1, h, b => by
    obtain ⟨n, hn⟩ : ∃ n : Nat, (K.AA m).u = n := ⟨(K.AA m).u.toNat, by have := h m (by omega); omega⟩
    have ih := lds_is K ht C m (fun i hi => h i (by omega))
    show updM (lds K t C m) (K.AA m).u.toNat (rch1 (lds K t C m (K.AA m).u.toNat) t) b = _
    rw [hasB_succ m (fun i => (K.AA i).u) b hn, hn]
    show updM (lds K t C m) n (rch1 (lds K t C m n) t) b = _
    unfold updM
    by_cases c : b = n
    · subst c
      rw [if_pos rfl, if_pos rfl, ih, if_pos rfl]
      split
      · exact rch_rch _ ht
      · rfl
    · rw [if_neg c, if_neg c, ih]
theorem kst_succ (S : Nat → MV) (KK : Nat → KV) (t : Nat) (h0 : 0 ≤ (KK t).st.u) (h : ∀ i, i < (KK t).an → 0 ≤ ((KK t).AA i).u) (b : Nat) : kst S KK (t + 1) b = if touchB (KK t) b = true then rch1 (kst S KK t b) t else kst S KK t b := by
  obtain ⟨n, hn⟩ : ∃ n : Nat, (KK t).st.u = n := ⟨(KK t).st.u.toNat, by omega⟩
  show lds (KK t) t (updM (kst S KK t) (KK t).st.u.toNat (rch1 (kst S KK t (KK t).st.u.toNat) t)) (KK t).an b = _
  rw [lds_is (KK t) (by omega) _ _ h b, hn]
  show (if hasB (KK t).an (fun i => ((KK t).AA i).u) b = true then rch1 (updM (kst S KK t) n (rch1 (kst S KK t n) t) b) t else updM (kst S KK t) n (rch1 (kst S KK t n) t) b) = _
  unfold touchB loadsB updM
  rw [hn]
  by_cases c : b = n
  · subst c
    rw [if_pos rfl]
    simp only [decide_true, Bool.true_or, if_true]
    split
    · exact rch_rch _ (by omega)
    · rfl
  · rw [if_neg c]
    have : decide ((n : Int) = (b : Int)) = false := decide_eq_false (by omega)
    rw [this, Bool.false_or]
theorem kst_is (SD : Nat → Int) (has : Nat → Bool) (n : Nat) (KK : Nat → KV) : ∀ (t : Nat), (∀ q, q < t → 0 ≤ (KK q).st.u ∧ ∀ i, i < (KK q).an → 0 ≤ ((KK q).AA i).u) → ∀ b, b < n → kst (gst SD has n) KK t b = ⟨b, SD b, if has b = true then 0 else fs KK b t, ls KK b t⟩
  | 0, _, b, hb => by
    show gst SD has n b = _
    unfold gst st0 fs ls
    by_cases c : has b = true
    · rw [if_pos ⟨hb, c⟩, if_pos c]
    · rw [if_neg (fun z => c z.2), if_neg c]
  | t + 1, h, b, hb => by
    have ih := kst_is SD has n KK t (fun q hq => h q (by omega)) b hb
    rw [kst_succ _ _ _ (h t (by omega)).1 (h t (by omega)).2, ih]
    have r := fs_rng KK b t
    show _ = (⟨b, SD b, if has b = true then 0 else (if fs KK b t < 0 ∧ touchB (KK t) b = true then (t : Int) else fs KK b t), if touchB (KK t) b = true then (t : Int) else ls KK b t⟩ : MV)
    by_cases c : touchB (KK t) b = true
    · rw [if_pos c, if_pos c]
      unfold rch1
      by_cases d : has b = true
      · simp [d]
      · rw [if_neg d, if_neg d]
        by_cases e : fs KK b t = -1
        · rw [if_pos e, if_pos ⟨by omega, c⟩]
        · rw [if_neg e, if_neg (fun z => by omega)]
    · rw [if_neg c, if_neg c, if_neg (show ¬ (fs KK b t < 0 ∧ touchB (KK t) b = true) from fun z => c z.2)]
theorem ost_is (S : Nat → MV) (OD : Nat → Int) {kn : Int} (hk : 0 ≤ kn) : ∀ m, (∀ i, i < m → 0 ≤ OD i) → ∀ b : Nat, ost S OD kn m b = if hasB m OD b = true then ou1 (S b) kn else S b
  | 0, _, b => by
    have : hasB 0 OD b = false := decide_eq_false (by rintro ⟨q, hq, _⟩; omega)
    rw [this]
    rfl
  | m + 1, h, b => by
    obtain ⟨n, hn⟩ : ∃ n : Nat, OD m = n := ⟨(OD m).toNat, by have := h m (by omega); omega⟩
    have ih := ost_is S OD hk m (fun i hi => h i (by omega))
    show updM (ost S OD kn m) (OD m).toNat (ou1 (ost S OD kn m (OD m).toNat) kn) b = _
    rw [hasB_succ m OD b hn, hn]
    show updM (ost S OD kn m) n (ou1 (ost S OD kn m n) kn) b = _
    unfold updM
    by_cases c : b = n
    · subst c
      rw [if_pos rfl, if_pos rfl, ih, if_pos rfl]
      split
      · exact ou_ou _ hk
      · rfl
    · rw [if_neg c, if_neg c, ih]
theorem allst_is {v : NV} (h : NOk v) {b : Nat} (hb : b < v.sn) : allst v b = if ouB v b = true then ou1 ⟨b, v.SD b, if gvB v b = true then 0 else fs v.KK b v.kn, ls v.KK b v.kn⟩ v.kn else ⟨b, v.SD b, if gvB v b = true then 0 else fs v.KK b v.kn, ls v.KK b v.kn⟩ := by
  unfold allst
  rw [ost_is _ _ (by omega) _ (fun i hi => (h.2.1.2 i hi).1), kst_is _ _ _ _ _ (fun q hq => by
    have k := (h.2.2.2.2.2.1 q hq).1
    exact ⟨k.2.2.2.2.1.1.1, fun i hi => (k.2.2.2.2.2 i hi).1.1.1⟩) b hb]
  rfl
theorem life_del {v : NV} (h : NOk v) {b : Nat} (hb : b < v.sn) : delM (allst v b) ↔ lifeB v b = false := by
  rw [allst_is h hb]
  have s := (h.2.2.1 b hb).1
  have r := fs_rng v.KK b v.kn
  unfold delM lifeB ou1 rch1
  cases g : gvB v b <;> cases o : ouB v b <;> simp [g, o]
  · omega
  · split <;> simp_all <;> omega
  · omega
  · omega
theorem life_is {v : NV} (h : NOk v) {b : Nat} (hb : b < v.sn) (hl : lifeB v b = true) : allst v b = lifeV v b := by
  rw [allst_is h hb]
  have r := fs_rng v.KK b v.kn
  unfold lifeB at hl
  unfold lifeV ou1 rch1
  cases g : gvB v b <;> cases o : ouB v b <;> simp [g, o] at hl ⊢
  · omega
  · rcases r with r | r
    · simp [r]
    · have : ¬ fs v.KK b v.kn = -1 := by omega
      simp [this]
      omega
theorem kl_lvs {v : NV} (h : NOk v) : kl (allst v) v.sn = lvs v v.sn := by
  unfold kl lvs
  refine List.filter_congr (fun q hq => ?_)
  have hq := List.mem_range.1 hq
  cases c : lifeB v q
  · rw [decide_eq_true ((life_del h hq).2 c)]; rfl
  · rw [decide_eq_false (fun z => by rw [(life_del h hq).1 z] at c; cases c)]; rfl
theorem lvs_at {v : NV} {j i : Nat} (h : i < (lvs v j).length) : (lvs v j).getD i 0 < j ∧ lifeB v ((lvs v j).getD i 0) = true := by
  have m : (lvs v j).getD i 0 ∈ lvs v j := by
    rw [List.getD_eq_getElem?_getD, List.getElem?_eq_getElem h]
    exact List.getElem_mem h
  have q := List.mem_filter.1 m
  exact ⟨List.mem_range.1 q.1, q.2⟩
theorem lvs_succ (v : NV) (j : Nat) : lvs v (j + 1) = if lifeB v j = true then lvs v j ++ [j] else lvs v j := by
  unfold lvs
  rw [List.range_succ, List.filter_append]
  cases c : lifeB v j <;> simp [c]
theorem lvs_len (v : NV) (j : Nat) : (lvs v j).length ≤ j := by
  have := List.length_filter_le (fun q => lifeB v q) (List.range j)
  unfold lvs
  simpa using this
/-- the list of lives -/
def LVS (v : NV) : Nat → MV := fun q => lifeV v ((lvs v v.sn).getD q 0)
def lvn (v : NV) : Nat := (lvs v v.sn).length
theorem livesL (B : Nat) (v : NV) (w : World) (hB : B ≤ w.heap.size) (h : v.read B w) (hl : v.len 1048576) (hok : NOk v) :
    Calls Try.prog 28 #[v.val] w fun e w' => ∃ g, e = .returned (.slice (some ⟨g, 0, none⟩) (lvn v) v.sn) ∧ OML w.heap.size w' g (lvn v) (lvn v) (LVS v) ∧ Below w.heap.size w w' := by
  refine (livesF B v w hB h hl hok).mono ?_
  rintro e w' ⟨g, e1, o, b⟩
  rw [kl_lvs hok] at e1 o
  refine ⟨g, e1, o.same (fun i hi => ?_), b⟩
  have q := lvs_at hi
  exact (life_is hok q.1 q.2).symm
end Vo
end Go.Proofs.Ytgmjijjckedmcaa
