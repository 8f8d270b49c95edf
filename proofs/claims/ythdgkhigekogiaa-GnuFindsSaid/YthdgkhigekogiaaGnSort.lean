/-
  Plain mathematics of a merge sort's steps over a row told as a function: exchanges, turns of two neighbouring pieces, an insertion, the symmetric merge. No program is spoken of here.
-/
namespace Go.Proofs.Ythdgkhigekogiaa

/-- The two exchanged. -/
def xch (i j : Nat) (f : Nat → Nat) (x : Nat) : Nat := if x = j then f i else if x = i then f j else f x
/-- Two pieces of n exchanged. -/
def swp (a b n : Nat) (f : Nat → Nat) (x : Nat) : Nat := if a ≤ x ∧ x < a + n then f (x - a + b) else if b ≤ x ∧ x < b + n then f (x - b + a) else f x
/-- The pieces from a to m and from m to b, one in the other's place. -/
def rot (a m b : Nat) (f : Nat → Nat) (x : Nat) : Nat := if a ≤ x ∧ x < a + (b - m) then f (x + (m - a)) else if a + (b - m) ≤ x ∧ x < b then f (x - (b - m)) else f x

/-- Only what stands from a to b has been turned about. -/
def Mix (a b : Nat) (f g : Nat → Nat) : Prop := (∀ x, x < a ∨ b ≤ x → g x = f x) ∧ ∀ x, a ≤ x → x < b → ∃ y, a ≤ y ∧ y < b ∧ g x = f y
/-- The keys rise from a to b. -/
def Rise (key : Nat → Nat) (a b : Nat) (f : Nat → Nat) : Prop := ∀ x y, a ≤ x → x ≤ y → y < b → key (f x) ≤ key (f y)

section
variable {a b m : Nat} {f g h : Nat → Nat} {key : Nat → Nat}
theorem Mix.refl (a b : Nat) (f : Nat → Nat) : Mix a b f f := ⟨fun _ _ => rfl, fun x h1 h2 => ⟨x, h1, h2, rfl⟩⟩
theorem Mix.trans (h1 : Mix a b f g) (h2 : Mix a b g h) : Mix a b f h := ⟨fun x hx => (h2.1 x hx).trans (h1.1 x hx), fun x ha hb => by
  obtain ⟨y, y1, y2, e⟩ := h2.2 x ha hb
  obtain ⟨z, z1, z2, e'⟩ := h1.2 y y1 y2
  exact ⟨z, z1, z2, e.trans e'⟩⟩
theorem Mix.mono {a' b' : Nat} (h1 : Mix a b f g) (ha : a' ≤ a) (hb : b ≤ b') : Mix a' b' f g := ⟨fun x hx => h1.1 x (by omega), fun x h2 h3 => by
  by_cases hx : a ≤ x ∧ x < b
  · obtain ⟨y, y1, y2, e⟩ := h1.2 x hx.1 hx.2
    exact ⟨y, by omega, by omega, e⟩
  · exact ⟨x, h2, h3, h1.1 x (by omega)⟩⟩
theorem Mix.lt {N n : Nat} (h1 : Mix a b f g) (hb : b ≤ n) (hf : ∀ x, x < n → f x < N) : ∀ x, x < n → g x < N := fun x hx => by
  by_cases hh : a ≤ x ∧ x < b
  · obtain ⟨y, y1, y2, e⟩ := h1.2 x hh.1 hh.2
    rw [e]; exact hf y (by omega)
  · rw [h1.1 x (by omega)]; exact hf x hx
theorem Rise.of_mix {c d : Nat} (hr : Rise key c d f) (h1 : Mix a b f g) (hd : d ≤ a ∨ b ≤ c) : Rise key c d g := fun x y h2 h3 h4 => by
  rw [h1.1 x (by omega), h1.1 y (by omega)]; exact hr x y h2 h3 h4
theorem Rise.one (key : Nat → Nat) (a b : Nat) (f : Nat → Nat) (hb : b ≤ a + 1) : Rise key a b f := fun x y h1 h2 h3 => by
  have : x = y := by omega
  subst this
  exact Nat.le_refl _

theorem mix_xch {i j : Nat} (f : Nat → Nat) (hi : a ≤ i ∧ i < b) (hj : a ≤ j ∧ j < b) : Mix a b f (xch i j f) := by
  refine ⟨fun x hx => ?_, fun x h1 h2 => ?_⟩
  · rw [xch, if_neg (by omega), if_neg (by omega)]
  · unfold xch
    split
    · exact ⟨i, hi.1, hi.2, rfl⟩
    · split
      · exact ⟨j, hj.1, hj.2, rfl⟩
      · exact ⟨x, h1, h2, rfl⟩
theorem mix_rot (f : Nat → Nat) (h1 : a ≤ m) (h2 : m ≤ b) : Mix a b f (rot a m b f) := by
  refine ⟨fun x hx => ?_, fun x h3 h4 => ?_⟩
  · rw [rot, if_neg (by omega), if_neg (by omega)]
  · unfold rot
    split
    · exact ⟨_, by omega, by omega, rfl⟩
    · split
      · exact ⟨_, by omega, by omega, rfl⟩
      · exact ⟨x, h3, h4, rfl⟩
theorem rot_left (a b : Nat) (f : Nat → Nat) : rot a b b f = f := by
  funext x
  unfold rot
  repeat' split
  all_goals first | rfl | (exfalso; omega) | (congr 1; omega)
theorem rot_right (a b : Nat) (f : Nat → Nat) (h : a ≤ b) : rot a a b f = f := by
  funext x
  unfold rot
  repeat' split
  all_goals first | rfl | (exfalso; omega) | (congr 1; omega)

/-- One step of an exchange of pieces. -/
theorem swp_zero (a b : Nat) (f : Nat → Nat) : swp a b 0 f = f := by
  funext x
  unfold swp
  repeat' split
  all_goals first | rfl | (exfalso; omega)
theorem swp_succ (a b i : Nat) (f : Nat → Nat) (h : a + i < b) : xch (a + i) (b + i) (swp a b i f) = swp a b (i + 1) f := by
  funext x
  unfold xch swp
  repeat' split
  all_goals first | rfl | (exfalso; omega) | (congr 1; omega)

/-- The steps of a turn by exchanges of pieces. -/
theorem rot_one (m i j : Nat) (f : Nat → Nat) (hj : j < i) (hi : i ≤ m) : rot (m - (i - j)) m (m + j) (swp (m - i) m j f) = rot (m - i) m (m + j) f := by
  funext x
  unfold rot swp
  repeat' split
  all_goals first | rfl | (exfalso; omega) | (congr 1; omega)
theorem rot_two (m i j : Nat) (f : Nat → Nat) (hj : i < j) (hi : i ≤ m) : rot (m - i) m (m + (j - i)) (swp (m - i) (m + j - i) i f) = rot (m - i) m (m + j) f := by
  funext x
  unfold rot swp
  repeat' split
  all_goals first | rfl | (exfalso; omega) | (congr 1; omega)
theorem rot_three (m i : Nat) (f : Nat → Nat) (hi : i ≤ m) : swp (m - i) m i f = rot (m - i) m (m + i) f := by
  funext x
  unfold rot swp
  repeat' split
  all_goals first | rfl | (exfalso; omega) | (congr 1; omega)

/-- One that is moved up, or down, step by step. -/
theorem rot_up (a k : Nat) (f : Nat → Nat) (h : a ≤ k) : xch k (k + 1) (rot a (a + 1) (k + 1) f) = rot a (a + 1) (k + 2) f := by
  funext x
  unfold xch rot
  repeat' split
  all_goals first | rfl | (exfalso; omega) | (congr 1; omega)
theorem rot_down (k m : Nat) (f : Nat → Nat) (h : k + 1 ≤ m) : xch (k + 1) k (rot (k + 1) m (m + 1) f) = rot k m (m + 1) f := by
  funext x
  unfold xch rot
  repeat' split
  all_goals first | rfl | (exfalso; omega) | (congr 1; omega)

/-! ### Insertion -/
/-- All rise up to i, but for what stands at j. -/
def Near (key : Nat → Nat) (a i j : Nat) (f : Nat → Nat) : Prop := ∀ x y, a ≤ x → x < y → y ≤ i → y ≠ j → key (f x) ≤ key (f y)
theorem near_start {i : Nat} (h : Rise key a i f) : Near key a i i f := fun x y h1 h2 h3 h4 => h x y h1 (by omega) (by omega)
theorem near_step {i j : Nat} (h : Near key a i (j + 1) f) (ha : a ≤ j) (hj : j + 1 ≤ i) (hl : key (f (j + 1)) < key (f j)) : Near key a i j (xch (j + 1) j f) := by
  intro x y h1 h2 h3 h4
  by_cases hy : y = j + 1
  · subst hy
    have e1 : xch (j + 1) j f (j + 1) = f j := by simp [xch]
    rw [e1]
    by_cases hx : x = j
    · subst hx
      simp only [xch, if_true]
      omega
    · have e2 : xch (j + 1) j f x = f x := by simp only [xch]; rw [if_neg hx, if_neg (by omega)]
      rw [e2]
      exact h x j h1 (by omega) (by omega) (by omega)
  · have e1 : xch (j + 1) j f y = f y := by simp only [xch]; rw [if_neg h4, if_neg hy]
    rw [e1]
    unfold xch
    split
    · rename_i e; subst e
      exact h (x + 1) y (by omega) (by omega) h3 hy
    · split
      · rename_i e; subst e
        exact h j y ha (by omega) h3 hy
      · exact h x y h1 h2 h3 hy
theorem near_out {i j : Nat} (h : Near key a i j f) (hj : j ≤ i) (hs : j ≤ a ∨ ∃ q, j = q + 1 ∧ a ≤ q ∧ key (f q) ≤ key (f j)) : Rise key a (i + 1) f := by
  intro x y h1 h2 h3
  rcases Nat.lt_or_eq_of_le h2 with h4 | h4
  · by_cases hy : y = j
    · subst hy
      rcases hs with hs | ⟨q, rfl, haq, hq⟩
      · omega
      · by_cases hx : x = q
        · subst hx; exact hq
        · exact Nat.le_trans (h x q h1 (by omega) (by omega) (by omega)) hq
    · exact h x y h1 h4 (by omega) hy
  · subst h4; exact Nat.le_refl _

/-! ### The symmetric merge -/
/-- One in front is put in its place. -/
theorem rise_up {i : Nat} (ha : a < i) (hb : i ≤ b) (hr : Rise key (a + 1) b f) (h1 : ∀ x, a + 1 ≤ x → x < i → key (f x) ≤ key (f a)) (h2 : ∀ x, i ≤ x → x < b → key (f a) ≤ key (f x)) : Rise key a b (rot a (a + 1) i f) := by
  have e1 : ∀ x, a ≤ x → x + 1 < i → rot a (a + 1) i f x = f (x + 1) := fun x hx hx2 => by
    unfold rot; rw [if_pos (by omega)]; congr 1; omega
  have e2 : ∀ x, x + 1 = i → rot a (a + 1) i f x = f a := fun x hx => by
    unfold rot; rw [if_neg (by omega), if_pos (by omega)]; congr 1; omega
  have e3 : ∀ x, i ≤ x → rot a (a + 1) i f x = f x := fun x hx => by
    unfold rot; rw [if_neg (by omega), if_neg (by omega)]
  intro x y hx hxy hy
  rcases Nat.lt_trichotomy (y + 1) i with c | c | c
  · rw [e1 x hx (by omega), e1 y (by omega) c]; exact hr _ _ (by omega) (by omega) (by omega)
  · rw [e2 y c]
    rcases Nat.lt_or_ge (x + 1) i with d | d
    · rw [e1 x hx d]; exact h1 _ (by omega) d
    · rw [e2 x (by omega)]; exact Nat.le_refl _
  · rw [e3 y (by omega)]
    rcases Nat.lt_trichotomy (x + 1) i with d | d | d
    · rw [e1 x hx d]; exact hr _ _ (by omega) (by omega) hy
    · rw [e2 x d]; exact h2 y (by omega) hy
    · rw [e3 x (by omega)]; exact hr _ _ (by omega) hxy hy
/-- One behind is put in its place. -/
theorem rise_down {i : Nat} (ha : a ≤ i) (hb : i ≤ m) (hr : Rise key a m f) (h1 : ∀ x, a ≤ x → x < i → key (f x) ≤ key (f m)) (h2 : ∀ x, i ≤ x → x < m → key (f m) ≤ key (f x)) : Rise key a (m + 1) (rot i m (m + 1) f) := by
  have e1 : ∀ x, x < i → rot i m (m + 1) f x = f x := fun x hx => by
    unfold rot; rw [if_neg (by omega), if_neg (by omega)]
  have e2 : rot i m (m + 1) f i = f m := by
    unfold rot; rw [if_pos (by omega)]; congr 1; omega
  have e3 : ∀ x, i < x → x ≤ m → rot i m (m + 1) f x = f (x - 1) := fun x hx hx2 => by
    unfold rot; rw [if_neg (by omega), if_pos (by omega)]; congr 1; omega
  intro x y hx hxy hy
  rcases Nat.lt_trichotomy y i with c | c | c
  · rw [e1 x (by omega), e1 y c]; exact hr _ _ hx hxy (by omega)
  · subst c
    rw [e2]
    rcases Nat.lt_or_ge x y with d | d
    · rw [e1 x d]; exact h1 x hx d
    · have : x = y := by omega
      subst this; rw [e2]; exact Nat.le_refl _
  · rw [e3 y c (by omega)]
    rcases Nat.lt_trichotomy x i with d | d | d
    · rw [e1 x d]; exact hr _ _ hx (by omega) (by omega)
    · subst d; rw [e2]; exact h2 _ (by omega) (by omega)
    · rw [e3 x d (by omega)]; exact hr _ _ (by omega) (by omega) (by omega)

/-- Where the search begins, and where it ends. -/
def symS (a m b : Nat) : Nat := if (a + b) / 2 < m then (a + b) / 2 + m - b else a
def symR (a m b : Nat) : Nat := if (a + b) / 2 < m then (a + b) / 2 else m
theorem symS_ge : a ≤ symS a m b := by unfold symS; split <;> omega
theorem sym_le (_h1 : a < m) (_h2 : m < b) : symS a m b ≤ symR a m b := by unfold symS symR; split <;> omega
theorem symR_le : symR a m b ≤ m ∧ symR a m b ≤ (a + b) / 2 := by unfold symR; split <;> omega
/-- What the search looks at is there. -/
theorem sym_at (h1 : a < m) {c : Nat} (hs : symS a m b ≤ c) (hr : c < symR a m b) : a ≤ c ∧ c < m ∧ m ≤ (a + b) / 2 + m - 1 - c ∧ (a + b) / 2 + m - 1 - c < b ∧ c ≤ (a + b) / 2 + m - 1 := by
  unfold symS at hs; unfold symR at hr
  split at hs <;> simp_all <;> omega
theorem search_up (h1 : a < m) (hl : Rise key a m f) (hr : Rise key m b f) {s c : Nat} (hs : symS a m b ≤ s) (hsc : s ≤ c) (hc : c < symR a m b) (hk : key (f c) ≤ key (f ((a + b) / 2 + m - 1 - c))) :
    ∀ x, symS a m b ≤ x → x < c + 1 → key (f x) ≤ key (f ((a + b) / 2 + m - 1 - x)) := fun x hx hx2 => by
  have A := sym_at h1 (by omega) hc
  have B := sym_at h1 hx (by omega)
  exact Nat.le_trans (hl x c B.1 (by omega) A.2.1) (Nat.le_trans hk (hr _ _ A.2.2.1 (by omega) B.2.2.2.1))
theorem search_down (h1 : a < m) (hl : Rise key a m f) (hr : Rise key m b f) {r c : Nat} (hs : symS a m b ≤ c) (hr1 : c < r) (hr2 : r ≤ symR a m b) (hk : key (f ((a + b) / 2 + m - 1 - c)) < key (f c)) :
    ∀ x, c ≤ x → x < symR a m b → key (f ((a + b) / 2 + m - 1 - x)) < key (f x) := fun x hx hx2 => by
  have A := sym_at h1 hs (by omega)
  have B := sym_at h1 (by omega) hx2
  exact Nat.lt_of_le_of_lt (hr _ _ B.2.2.1 (by omega) A.2.2.2.1) (Nat.lt_of_lt_of_le hk (hl c x A.1 hx B.2.1))

/-- What is there behind the turn. -/
structure Halves (key : Nat → Nat) (a m b s : Nat) (h : Nat → Nat) : Prop where
  as : a ≤ s
  sm : s ≤ (a + b) / 2
  me : (a + b) / 2 ≤ (a + b) / 2 + m - s
  eb : (a + b) / 2 + m - s ≤ b
  r1 : Rise key a s h
  r2 : Rise key s ((a + b) / 2) h
  r3 : Rise key ((a + b) / 2) ((a + b) / 2 + m - s) h
  r4 : Rise key ((a + b) / 2 + m - s) b h
  le : ∀ x y, a ≤ x → x < (a + b) / 2 → (a + b) / 2 ≤ y → y < b → key (h x) ≤ key (h y)
theorem halves (h1 : a < m) (h2 : m < b) (hl : Rise key a m f) (hr : Rise key m b f) {s : Nat} (hs : symS a m b ≤ s) (hs2 : s ≤ symR a m b)
    (ho : ∀ x, symS a m b ≤ x → x < s → key (f x) ≤ key (f ((a + b) / 2 + m - 1 - x)))
    (hu : ∀ x, s ≤ x → x < symR a m b → key (f ((a + b) / 2 + m - 1 - x)) < key (f x)) : Halves key a m b s (rot s m ((a + b) / 2 + m - s) f) := by
  have hR := symR_le (a := a) (m := m) (b := b)
  have hS := symS_ge (a := a) (m := m) (b := b)
  obtain ⟨d, hd⟩ : ∃ d, d = (a + b) / 2 := ⟨_, rfl⟩
  have hd2 : 2 * d ≤ a + b ∧ a + b ≤ 2 * d + 1 := by omega
  rw [← hd] at ho hu hR ⊢
  obtain ⟨e, he⟩ : ∃ e, e = d + m - s := ⟨_, rfl⟩
  have hsm : s ≤ m := by omega
  have hsd : s ≤ d := by omega
  have heb : e ≤ b := by
    unfold symS at hs
    rw [← hd] at hs
    split at hs <;> omega
  rw [← he]
  -- the pieces behind the turn
  have e1 : ∀ x, x < s → rot s m e f x = f x := fun x hx => by unfold rot; rw [if_neg (by omega), if_neg (by omega)]
  have e2 : ∀ x, s ≤ x → x < d → rot s m e f x = f (x + (m - s)) := fun x hx hx2 => by unfold rot; rw [if_pos (by omega)]
  have e3 : ∀ x, d ≤ x → x < e → rot s m e f x = f (x - (e - m)) := fun x hx hx2 => by unfold rot; rw [if_neg (by omega), if_pos (by omega)]
  have e4 : ∀ x, e ≤ x → rot s m e f x = f x := fun x hx => by unfold rot; rw [if_neg (by omega), if_neg (by omega)]
  -- what is in front is not above what is behind
  have k1 : s ≤ a ∨ e = b ∨ (e < b ∧ key (f (s - 1)) ≤ key (f e)) := by
    by_cases hss : s = symS a m b
    · unfold symS at hss
      rw [← hd] at hss
      split at hss <;> omega
    · have := ho (s - 1) (by omega) (by omega)
      rw [show d + m - 1 - (s - 1) = e by omega] at this
      by_cases heb' : e < b
      · exact .inr (.inr ⟨heb', this⟩)
      · omega
  have k2 : s = m ∨ e = m ∨ (m < e ∧ s < m ∧ key (f (e - 1)) ≤ key (f s)) := by
    by_cases hss : s = symR a m b
    · unfold symR at hss
      rw [← hd] at hss
      split at hss <;> omega
    · have := hu s (Nat.le_refl _) (by omega)
      rw [show d + m - 1 - s = e - 1 by omega] at this
      by_cases hm : s < m ∧ m < e
      · exact .inr (.inr ⟨hm.2, hm.1, Nat.le_of_lt this⟩)
      · omega
  refine ⟨by omega, by omega, ?_, ?_, ?_, ?_, ?_, ?_, ?_⟩
  all_goals try rw [← hd]
  all_goals try rw [← he]
  · omega
  · exact heb
  · intro x y hx hxy hy
    rw [e1 x (by omega), e1 y hy]; exact hl x y hx hxy (by omega)
  · intro x y hx hxy hy
    rw [e2 x hx (by omega), e2 y (by omega) hy]; exact hr _ _ (by omega) (by omega) (by omega)
  · intro x y hx hxy hy
    rw [e3 x hx (by omega), e3 y (by omega) hy]; exact hl _ _ (by omega) (by omega) (by omega)
  · intro x y hx hxy hy
    rw [e4 x hx, e4 y (by omega)]; exact hr _ _ (by omega) hxy hy
  · intro x y hx hxd hy hyb
    rcases Nat.lt_or_ge x s with c | c
    · rw [e1 x c]
      rcases Nat.lt_or_ge y e with c' | c'
      · rw [e3 y hy c']; exact hl _ _ hx (by omega) (by omega)
      · rw [e4 y c']
        rcases k1 with k | k | ⟨_, k⟩
        · omega
        · omega
        · exact Nat.le_trans (hl x (s - 1) hx (by omega) (by omega)) (Nat.le_trans k (hr e y (by omega) c' hyb))
    · rw [e2 x c hxd]
      rcases Nat.lt_or_ge y e with c' | c'
      · rw [e3 y hy c']
        rcases k2 with k | k | ⟨_, _, k⟩
        · omega
        · omega
        · exact Nat.le_trans (hr _ (e - 1) (by omega) (by omega) (by omega)) (Nat.le_trans k (hl s _ (by omega) (by omega) (by omega)))
      · rw [e4 y c']; exact hr _ _ (by omega) (by omega) hyb
/-- The halves, each sorted, are the whole, sorted. -/
theorem rise_halves {d : Nat} (hle : ∀ x y, a ≤ x → x < d → d ≤ y → y < b → key (h x) ≤ key (h y)) {g1 g2 : Nat → Nat} (m1 : Mix a d h g1) (r1 : Rise key a d g1) (m2 : Mix d b g1 g2) (r2 : Rise key d b g2) : Rise key a b g2 := by
  intro x y hx hxy hy
  rcases Nat.lt_or_ge y d with c | c
  · rw [m2.1 x (by omega), m2.1 y (by omega)]; exact r1 x y hx hxy c
  · rcases Nat.lt_or_ge x d with c' | c'
    · obtain ⟨y', y1, y2, ey⟩ := m2.2 y c hy
      obtain ⟨x', x1, x2, ex⟩ := m1.2 x hx c'
      rw [m2.1 x (by omega), ex, ey, m1.1 y' (by omega)]
      exact hle x' y' x1 x2 y1 y2
    · exact r2 x y c' hxy hy

/-! ### Runs -/
/-- Every piece of z, as far as there are n, rises. -/
def Runs (key : Nat → Nat) (z n : Nat) (f : Nat → Nat) : Prop := ∀ k, Rise key (k * z) (min ((k + 1) * z) n) f
theorem runs_all {z n : Nat} (h : Runs key z n f) (hz : n ≤ z) : Rise key 0 n f := by
  have := h 0
  simpa [Nat.min_eq_right hz] using this
end
end Go.Proofs.Ythdgkhigekogiaa
