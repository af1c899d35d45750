/-
  puny: plain mathematics: reading one number of a string.
-/
import Derived.Test.YtmnnpfohjffniaaPkZZA
import Derived.Test.YtmnnpfohjffniaaPkL
set_option linter.unusedSimpArgs false
set_option linter.unusedVariables false
namespace Go.Proofs.Ytmnnpfohjffniaa
set_option linter.unusedVariables false

theorem pnums_drop (s : ByteArray) (j : Nat) (h : j < s.size) : (nums s).drop j = (s[j].toNat : Int) :: (nums s).drop (j + 1) := by
  have hl : j < (nums s).length := by rw [nums_length]; exact h
  rw [List.drop_eq_getElem_cons hl]
  congr 1
  simp [nums]
  rfl
theorem pnums_getD (s : ByteArray) (j : Nat) (h : j < s.size) : (nums s).getD j 0 = (s[j].toNat : Int) := by
  have hl : j < (nums s).length := by rw [nums_length]; exact h
  rw [List.getD_eq_getElem?_getD, List.getElem?_eq_getElem hl, Option.getD_some]
  simp [nums]
  rfl

/-- How many bytes the next number has. -/
def sizD (b : Nat) : Nat → List Int → Option Nat
  | _, [] => none
  | j, c :: r => match digV c with
    | none => none
    | some d => if d < thr b j then some (j + 1) else sizD b (j + 1) r
theorem sizD_take (b : Nat) : ∀ (s : List Int) (j : Nat), sizD b j s = match takeD b j s with | none => none | some (D, _) => some (j + D.length)
  | [], j => rfl
  | c :: r, j => by
    rw [sizD, takeD]
    cases digV c with
    | none => rfl
    | some d =>
      simp only
      split
      · rfl
      · rw [sizD_take b r (j + 1)]
        cases takeD b (j + 1) r with
        | none => rfl
        | some X => obtain ⟨D, q⟩ := X; simp; omega

theorem takeD_parts (b : Nat) : ∀ (s : List Int) (j : Nat) (D : List Nat) (r : List Int), takeD b j s = some (D, r) →
    1 ≤ D.length ∧ D.length ≤ s.length ∧ r = s.drop D.length ∧ ∀ k, k < D.length → digV (s.getD k 0) = some (D.getD k 0)
  | [], j, D, r, h => by cases h
  | c :: s, j, D, r, h => by
    rw [takeD] at h
    cases hd : digV c with
    | none => rw [hd] at h; cases h
    | some d =>
      rw [hd] at h
      simp only at h
      split at h
      · injection h with h
        injection h with h1 h2
        subst h1; subst h2
        refine ⟨by simp, by simp, by simp, fun k hk => ?_⟩
        have : k = 0 := by simp at hk; exact hk
        subst this
        simpa using hd
      · cases ht : takeD b (j + 1) s with
        | none => rw [ht] at h; cases h
        | some X =>
          obtain ⟨D', q⟩ := X
          rw [ht] at h
          injection h with h
          injection h with h1 h2
          subst h1; subst h2
          obtain ⟨i1, i2, i3, i4⟩ := takeD_parts b s (j + 1) D' q ht
          refine ⟨by simp, by simpa using i2, by simpa using i3, fun k hk => ?_⟩
          cases k with
          | zero => simpa using hd
          | succ k => simpa using i4 k (by simpa using hk)

theorem pvalS_step (b : Nat) (D : List Nat) (k : Nat) (h : k < D.length) : pvalS b k (D.drop k) = D.getD k 0 + (36 - thr b k) * pvalS b (k + 1) (D.drop (k + 1)) := by
  rw [List.drop_eq_getElem_cons h, pvalS]
  simp [List.getD, h]

/-- One number: its value, how many bytes, the error. -/
def rdN (b : Nat) (L : List Int) : Nat × Nat × Int := match takeD b 0 L with
  | none => (0, 0, 12)
  | some (D, _) => if 2147483647 < pvalS b 0 D then (0, 0, 8) else (pvalS b 0 D, D.length, 0)

/-- The state behind k digits: what is summed, the weight, both as they are and as they are kept. -/
structure NumSt (b : Nat) (D : List Nat) (k : Nat) (S W : Nat) : Prop where
  sum : S + W * pvalS b k (D.drop k) = pvalS b 0 D
  pos : 1 ≤ W
theorem NumSt.start (b : Nat) (D : List Nat) : NumSt b D 0 0 1 := ⟨by simp, by omega⟩
theorem NumSt.step {b : Nat} {D : List Nat} {k S W : Nat} (h : NumSt b D k S W) (hk : k < D.length) : NumSt b D (k + 1) (S + D.getD k 0 * W) (W * (36 - thr b k)) where
  sum := by
    rw [← h.sum, pvalS_step b D k hk, Nat.mul_add, Nat.mul_assoc, Nat.mul_comm (D.getD k 0) W]; omega
  pos := by
    have h1 := h.pos
    have h2 := (thr_bd b k).2
    exact Nat.mul_pos h1 (by omega)
theorem NumSt.done {b : Nat} {D : List Nat} {S W : Nat} (h : NumSt b D D.length S W) : S = pvalS b 0 D := by
  have := h.sum
  rw [List.drop_of_length_le (Nat.le_refl _)] at this
  simpa [pvalS] using this
theorem NumSt.le {b : Nat} {D : List Nat} {k S W : Nat} (h : NumSt b D k S W) (hk : k < D.length) : S + D.getD k 0 * W ≤ pvalS b 0 D := by
  have := (h.step hk).sum
  omega

/-- The program's weight and sum: all weights above the limit are the same. -/
structure KeptP (S W Sk Wk : Nat) : Prop where
  sum : Sk = S
  w : Wk = min W 2147483648
  small : S ≤ 2147483647
theorem KeptP.over {S W Sk Wk d : Nat} (h : KeptP S W Sk Wk) (hW : 1 ≤ W) (hd : (2147483647 - Sk) / Wk < d) : 2147483647 < S + d * W := by
  obtain ⟨h1, h2, h3⟩ := h
  subst h1
  have hk : 1 ≤ Wk := by omega
  have h4 : 2147483647 - Sk < d * Wk := (Nat.div_lt_iff_lt_mul hk).1 hd
  have h5 : d * Wk ≤ d * W := Nat.mul_le_mul_left d (by omega)
  omega
theorem KeptP.next {S W Sk Wk d f : Nat} (h : KeptP S W Sk Wk) (hW : 1 ≤ W) (hf : 1 ≤ f) (hf2 : f ≤ 36) (hd : ¬ (2147483647 - Sk) / Wk < d) : KeptP (S + d * W) (W * f) (Sk + d * Wk) (if 2147483647 / f < Wk then 2147483648 else Wk * f) ∧ Sk + d * Wk ≤ 2147483647 := by
  obtain ⟨h1, h2, h3⟩ := h
  subst h1
  have hk : 1 ≤ Wk := by omega
  have h4 : d * Wk ≤ 2147483647 - Sk := by
    have : d ≤ (2147483647 - Sk) / Wk := by omega
    exact (Nat.le_div_iff_mul_le hk).1 this
  have h5 : d * W = d * Wk := by
    rcases Nat.lt_or_ge W 2147483648 with hw | hw
    · rw [h2, Nat.min_eq_left (by omega)]
    · have hd0 : d = 0 := by
        rcases Nat.eq_zero_or_pos d with e | e
        · exact e
        · have : 1 * Wk ≤ d * Wk := Nat.mul_le_mul_right Wk e
          omega
      subst hd0; simp
  refine ⟨⟨by rw [h5], ?_, by rw [h5]; omega⟩, by omega⟩
  split
  · rename_i hlt
    have : 2147483647 < Wk * f := (Nat.div_lt_iff_lt_mul hf).1 hlt
    have h6 : Wk * f ≤ W * f := Nat.mul_le_mul_right f (by omega)
    omega
  · rename_i hlt
    have hle : Wk * f ≤ 2147483647 := (Nat.le_div_iff_mul_le hf).1 (by omega)
    have hWs : W < 2147483648 := by
      have : Wk * 1 ≤ Wk * f := Nat.mul_le_mul_left Wk hf
      omega
    have : Wk = W := by omega
    rw [this] at hle ⊢
    omega

/-- The reference's weight and sum: both stop at 2^31. -/
structure KeptR (S W Sk Wk : Nat) : Prop where
  sum : Sk = min S 2147483648
  w : Wk = min W 2147483648
theorem KeptR.next {S W Sk Wk d f : Nat} (h : KeptR S W Sk Wk) (hW : 1 ≤ W) (hf : 1 ≤ f) (hd : d < 36) : KeptR (S + d * W) (W * f) (min 2147483648 (Sk + d * Wk)) (min 2147483648 (Wk * f)) := by
  obtain ⟨h1, h2⟩ := h
  constructor
  · rcases Nat.lt_or_ge W 2147483648 with hw | hw
    · have : Wk = W := by omega
      rw [this]
      omega
    · have hWk : Wk = 2147483648 := by omega
      rw [hWk]
      rcases Nat.eq_zero_or_pos d with e | e
      · subst e; simp; omega
      · have a1 : 1 * 2147483648 ≤ d * 2147483648 := Nat.mul_le_mul_right _ e
        have a2 : d * 2147483648 ≤ d * W := Nat.mul_le_mul_left d hw
        omega
  · rcases Nat.lt_or_ge W 2147483648 with hw | hw
    · have : Wk = W := by omega
      rw [this]
      omega
    · have hWk : Wk = 2147483648 := by omega
      rw [hWk]
      have a1 : 2147483648 * 1 ≤ 2147483648 * f := Nat.mul_le_mul_left _ hf
      have a2 : 2147483648 * f ≤ W * f := Nat.mul_le_mul_right f hw
      omega

end Go.Proofs.Ytmnnpfohjffniaa
