/- A stable sort, plain: blocks turned round, merges by halves. -/
import Derived.Below
namespace Go.Proofs.Ytbdcbanbnbaoiaa
namespace So
set_option linter.unusedVariables false
/-- ahead by the key; of one key the lesser place -/
def lt (K : Int → Int) (p q : Int) : Prop := K p < K q ∨ (K p = K q ∧ p < q)
theorem lt_trans {K : Int → Int} {p q r : Int} (h : lt K p q) (g : lt K q r) : lt K p r := by unfold lt at *; omega
theorem lt_irrefl {K : Int → Int} {p : Int} : ¬ lt K p p := by unfold lt; omega
theorem lt_total {K : Int → Int} {p q : Int} (h : p ≠ q) : lt K p q ∨ lt K q p := by unfold lt; omega
def Srt (K : Int → Int) (D : Nat → Int) (a b : Nat) : Prop := ∀ i j, a ≤ i → i < j → j < b → lt K (D i) (D j)
def Bef (D : Nat → Int) (a m b : Nat) : Prop := ∀ i j, a ≤ i → i < m → m ≤ j → j < b → D i < D j
theorem Srt.sub {K : Int → Int} {D : Nat → Int} {a b a' b' : Nat} (h : Srt K D a b) (h1 : a ≤ a') (h2 : b' ≤ b) : Srt K D a' b' := fun i j h3 h4 h5 => h i j (by omega) h4 (by omega)
theorem Srt.same {K : Int → Int} {D E : Nat → Int} {a b : Nat} (h : Srt K D a b) (e : ∀ t, a ≤ t → t < b → E t = D t) : Srt K E a b := fun i j h1 h2 h3 => by rw [e i h1 (by omega), e j (by omega) h3]; exact h i j h1 h2 h3
/-- the same in another order, between a and b -/
def Per (D D' : Nat → Int) (a b : Nat) : Prop := ∃ f g : Nat → Nat, (∀ t, f (g t) = t) ∧ (∀ t, g (f t) = t) ∧ (∀ t, (t < a ∨ b ≤ t) → f t = t) ∧ ∀ t, D' t = D (f t)
theorem Per.refl (D : Nat → Int) (a b : Nat) : Per D D a b := ⟨id, id, fun _ => rfl, fun _ => rfl, fun _ _ => rfl, fun _ => rfl⟩
theorem Per.trans {D E F : Nat → Int} {a b : Nat} (h : Per D E a b) (k : Per E F a b) : Per D F a b := by
  obtain ⟨f, g, h1, h2, h3, h4⟩ := h
  obtain ⟨f', g', k1, k2, k3, k4⟩ := k
  exact ⟨fun t => f (f' t), fun t => g' (g t), fun t => by show f (f' (g' (g t))) = t; rw [k1, h1], fun t => by show g' (g (f (f' t))) = t; rw [h2, k2], fun t ht => by show f (f' t) = t; rw [k3 t ht, h3 t ht], fun t => by rw [k4, h4]⟩
theorem Per.wide {D E : Nat → Int} {a b a' b' : Nat} (h : Per D E a b) (h1 : a' ≤ a) (h2 : b ≤ b') : Per D E a' b' := by
  obtain ⟨f, g, e1, e2, e3, e4⟩ := h
  exact ⟨f, g, e1, e2, fun t ht => e3 t (by omega), e4⟩
theorem Per.out {D E : Nat → Int} {a b t : Nat} (h : Per D E a b) (ht : t < a ∨ b ≤ t) : E t = D t := by
  obtain ⟨f, g, e1, e2, e3, e4⟩ := h
  rw [e4, e3 t ht]
/-- what stands there stood between a and b -/
theorem Per.at {D E : Nat → Int} {a b t : Nat} (h : Per D E a b) (h1 : a ≤ t) (h2 : t < b) : ∃ q, a ≤ q ∧ q < b ∧ E t = D q := by
  obtain ⟨f, g, e1, e2, e3, e4⟩ := h
  refine ⟨f t, ?_, ?_, e4 t⟩
  · rcases Nat.lt_or_ge (f t) a with c | c
    · have q := e3 (f t) (.inl c)
      have r := congrArg g q
      rw [e2, e2] at r
      omega
    · exact c
  · rcases Nat.lt_or_ge (f t) b with c | c
    · exact c
    · have q := e3 (f t) (.inr c)
      have r := congrArg g q
      rw [e2, e2] at r
      omega
/-- two blocks of one length changed -/
def swp (D : Nat → Int) (a b n : Nat) : Nat → Int := fun t => if a ≤ t ∧ t < a + n then D (t - a + b) else if b ≤ t ∧ t < b + n then D (t - b + a) else D t
/-- two blocks side by side changed: [s, m) and [m, e) -/
def rot (D : Nat → Int) (s m e : Nat) : Nat → Int := fun t => if s ≤ t ∧ t < s + (e - m) then D (t - s + m) else if s ≤ t ∧ t < e then D (t - (e - m)) else D t
theorem rot_gt {D : Nat → Int} {m i j : Nat} (hi : i ≤ m) (hj : j < i) : rot (swp D (m - i) m j) (m - (i - j)) m (m + j) = rot D (m - i) m (m + j) := by
  funext t
  unfold rot swp
  repeat' split
  all_goals first | omega | (congr 1; omega)
theorem rot_lt {D : Nat → Int} {m i j : Nat} (hi : i ≤ m) (hj : i < j) : rot (swp D (m - i) (m + j - i) i) (m - i) m (m + (j - i)) = rot D (m - i) m (m + j) := by
  funext t
  unfold rot swp
  repeat' split
  all_goals first | omega | (congr 1; omega)
theorem rot_eq {D : Nat → Int} {m i : Nat} (hi : i ≤ m) : swp D (m - i) m i = rot D (m - i) m (m + i) := by
  funext t
  unfold rot swp
  repeat' split
  all_goals first | omega | (congr 1; omega)
theorem rot_per (D : Nat → Int) {s m e : Nat} (h1 : s ≤ m) (h2 : m ≤ e) : Per D (rot D s m e) s e := by
  refine ⟨fun t => if s ≤ t ∧ t < s + (e - m) then t - s + m else if s ≤ t ∧ t < e then t - (e - m) else t, fun t => if s ≤ t ∧ t < m then t + (e - m) else if m ≤ t ∧ t < e then t - m + s else t, fun t => ?_, fun t => ?_, fun t ht => ?_, fun t => ?_⟩
  · dsimp only
    repeat' split
    all_goals omega
  · dsimp only
    repeat' split
    all_goals omega
  · dsimp only
    repeat' split
    all_goals omega
  · unfold rot
    dsimp only
    repeat' split
    all_goals rfl
/-- the two halves that a turn leaves -/
structure Half (K : Int → Int) (D : Nat → Int) (a s mid e b : Nat) : Prop where
  l1 : Srt K D a s
  l2 : Srt K D s mid
  lb : Bef D a s mid
  r1 : Srt K D mid e
  r2 : Srt K D e b
  rb : Bef D mid e b
  x : ∀ i j, a ≤ i → i < mid → mid ≤ j → j < b → lt K (D i) (D j)
theorem halves {K : Int → Int} {D : Nat → Int} {a s m mid e b : Nat} (hL : Srt K D a m) (hR : Srt K D m b) (hB : Bef D a m b) (h1 : a ≤ s) (h2 : s ≤ m) (h3 : m ≤ e) (h4 : e ≤ b) (hm : mid = s + (e - m))
    (p1 : s = a ∨ e = b ∨ K (D (s - 1)) ≤ K (D e)) (p2 : s = m ∨ e = m ∨ K (D (e - 1)) < K (D s)) : Half K (rot D s m e) a s mid e b := by
  subst hm
  have A : ∀ t, t < s → rot D s m e t = D t := fun t ht => by unfold rot; rw [if_neg (by omega), if_neg (by omega)]
  have B : ∀ t, s ≤ t → t < s + (e - m) → rot D s m e t = D (t - s + m) := fun t g1 g2 => by unfold rot; rw [if_pos ⟨g1, g2⟩]
  have C : ∀ t, s + (e - m) ≤ t → t < e → rot D s m e t = D (t - (e - m)) := fun t g1 g2 => by unfold rot; rw [if_neg (by omega), if_pos ⟨by omega, g2⟩]
  have E : ∀ t, e ≤ t → rot D s m e t = D t := fun t g1 => by unfold rot; rw [if_neg (by omega), if_neg (by omega)]
  -- the four parts against one another
  have LL : ∀ i j, a ≤ i → i < j → j < m → lt K (D i) (D j) := fun i j g1 g2 g3 => hL i j g1 g2 g3
  have RR : ∀ i j, m ≤ i → i < j → j < b → lt K (D i) (D j) := fun i j g1 g2 g3 => hR i j g1 g2 g3
  have LR : ∀ i j, a ≤ i → i < s → e ≤ j → j < b → lt K (D i) (D j) := by
    intro i j g1 g2 g3 g4
    have q : K (D (s - 1)) ≤ K (D e) := by
      rcases p1 with c | c | c
      · omega
      · omega
      · exact c
    have q1 : K (D i) ≤ K (D (s - 1)) := by
      by_cases c : i = s - 1
      · rw [c]; omega
      · have := hL i (s - 1) g1 (by omega) (by omega); unfold lt at this; omega
    have q2 : K (D e) ≤ K (D j) := by
      by_cases c : j = e
      · rw [c]; omega
      · have := hR e j (by omega) (by omega) g4; unfold lt at this; omega
    have q3 := hB i j g1 (by omega) (by omega) g4
    unfold lt
    omega
  have RL : ∀ i j, m ≤ i → i < e → s ≤ j → j < m → lt K (D i) (D j) := by
    intro i j g1 g2 g3 g4
    have q : K (D (e - 1)) < K (D s) := by
      rcases p2 with c | c | c
      · omega
      · omega
      · exact c
    have q1 : K (D i) ≤ K (D (e - 1)) := by
      by_cases c : i = e - 1
      · rw [c]; omega
      · have := hR i (e - 1) g1 (by omega) (by omega); unfold lt at this; omega
    have q2 : K (D s) ≤ K (D j) := by
      by_cases c : j = s
      · rw [c]; omega
      · have := hL s j (by omega) (by omega) g4; unfold lt at this; omega
    unfold lt
    omega
  refine ⟨fun i j g1 g2 g3 => ?_, fun i j g1 g2 g3 => ?_, fun i j g1 g2 g3 g4 => ?_, fun i j g1 g2 g3 => ?_, fun i j g1 g2 g3 => ?_, fun i j g1 g2 g3 g4 => ?_, fun i j g1 g2 g3 g4 => ?_⟩
  · rw [A i (by omega), A j (by omega)]; exact LL i j g1 g2 (by omega)
  · rw [B i (by omega) (by omega), B j (by omega) g3]; exact RR _ _ (by omega) (by omega) (by omega)
  · rw [A i g2, B j g3 g4]; exact hB _ _ g1 (by omega) (by omega) (by omega)
  · rw [C i g1 (by omega), C j (by omega) g3]; exact LL _ _ (by omega) (by omega) (by omega)
  · rw [E i g1, E j (by omega)]; exact RR _ _ (by omega) g2 g3
  · rw [C i g1 g2, E j g3]; exact hB _ _ (by omega) (by omega) (by omega) g4
  · by_cases c1 : i < s
    · rw [A i c1]
      by_cases c2 : j < e
      · rw [C j g3 c2]; exact LL _ _ g1 (by omega) (by omega)
      · rw [E j (by omega)]; exact LR _ _ g1 c1 (by omega) g4
    · rw [B i (by omega) g2]
      by_cases c2 : j < e
      · rw [C j g3 c2]; exact RL _ _ (by omega) (by omega) (by omega) (by omega)
      · rw [E j (by omega)]; exact RR _ _ (by omega) (by omega) g4
/-- both halves merged: all is in order -/
theorem joined {K : Int → Int} {D1 D2 D3 : Nat → Int} {a mid b : Nat} (h1 : a ≤ mid) (h2 : mid ≤ b) (hx : ∀ i j, a ≤ i → i < mid → mid ≤ j → j < b → lt K (D1 i) (D1 j)) (p2 : Per D1 D2 a mid) (s2 : Srt K D2 a mid) (p3 : Per D2 D3 mid b) (s3 : Srt K D3 mid b) : Srt K D3 a b := by
  have e3 : ∀ t, t < mid → D3 t = D2 t := fun t ht => p3.out (.inl ht)
  intro i j g1 g2 g3
  by_cases c : j < mid
  · rw [e3 i (by omega), e3 j c]; exact s2 i j g1 g2 c
  · by_cases d : i < mid
    · obtain ⟨q, q1, q2, q3⟩ := p3.at (t := j) (by omega) g3
      obtain ⟨r, r1, r2, r3⟩ := p2.at (t := i) g1 d
      rw [e3 i d, q3, r3, p2.out (t := q) (.inr q1)]
      exact hx r q r1 r2 q1 q2
    · exact s3 i j (by omega) g2 g3
/-- two lists that are in order and the same but for the order are one -/
theorem one_way {K : Int → Int} {D E : Nat → Int} {a b : Nat} (hp : Per D E a b) (hD : Srt K D a b) (hE : Srt K E a b) : ∀ t, a ≤ t → t < b → E t = D t := by
  intro t
  induction t using Nat.strongRecOn with
  | ind t ih =>
    intro h1 h2
    -- what D has at t stands in E at some place, and the other way round
    obtain ⟨f, g, e1, e2, e3, e4⟩ := hp
    have hp' : Per D E a b := ⟨f, g, e1, e2, e3, e4⟩
    have hq' : Per E D a b := ⟨g, f, e2, e1, fun u hu => by have := congrArg g (e3 u hu); rw [e2] at this; exact this.symm, fun u => by rw [e4, e1]⟩
    obtain ⟨q, q1, q2, q3⟩ := hp'.at h1 h2
    obtain ⟨r, r1, r2, r3⟩ := hq'.at h1 h2
    rcases Nat.lt_trichotomy q t with c | c | c
    · have w := ih q c q1 q2
      have := hE q t q1 c h2
      rw [w, q3] at this
      exact absurd this lt_irrefl
    · rw [q3, c]
    · rcases Nat.lt_trichotomy r t with d | d | d
      · have w := ih r d r1 r2
        have := hD r t r1 d h2
        rw [r3, w] at this
        exact absurd this lt_irrefl
      · rw [r3, d]
      · have x1 := hD t q h1 c q2
        have x2 := hE t r h1 d r2
        rw [← q3] at x1
        rw [← r3] at x2
        exact absurd (lt_trans x1 x2) lt_irrefl
end So
end Go.Proofs.Ytbdcbanbnbaoiaa
