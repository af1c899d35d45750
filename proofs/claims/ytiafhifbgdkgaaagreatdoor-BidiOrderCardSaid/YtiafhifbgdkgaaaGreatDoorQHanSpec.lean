/-
  hangul: plain mathematics: kinds, parts, decompositions, compositions.
-/
import Derived.Test.YtiafhifbgdkgaaaGreatDoorPkA
set_option linter.unusedSimpArgs false
set_option linter.unusedVariables false
namespace Go.Proofs.YtiafhifbgdkgaaaGreatDoor
open Go.RowKit

/-- The kind of a number. -/
def kindS (c : Int) : Int :=
  if 4352 ≤ c ∧ c ≤ 4370 then 1 else if 4449 ≤ c ∧ c ≤ 4469 then 2 else if 4520 ≤ c ∧ c ≤ 4546 then 3
  else if c < 44032 ∨ 55203 < c then 0 else if (c - 44032) % 28 = 0 then 4 else 5

/-- The numbers of the parts of a syllable. -/
def partsS (c : Int) : Int × Int × Int × Bool :=
  if 44032 ≤ c ∧ c ≤ 55203 then ((c - 44032) / 28 / 21, (c - 44032) / 28 % 21, (c - 44032) % 28, true) else (0, 0, 0, false)

/-- The decomposition of a syllable. -/
def decS (c : Int) : List Int :=
  if 44032 ≤ c ∧ c ≤ 55203 then
    (if (c - 44032) % 28 = 0 then [4352 + (c - 44032) / 28 / 21, 4449 + (c - 44032) / 28 % 21]
     else [4352 + (c - 44032) / 28 / 21, 4449 + (c - 44032) / 28 % 21, 4519 + (c - 44032) % 28])
  else []

/-- The composition of a pair. -/
def compS (a b : Int) : Int × Bool :=
  if kindS a = 1 ∧ kindS b = 2 then (44032 + (21 * (a - 4352) + b - 4449) * 28, true)
  else if kindS a = 4 ∧ kindS b = 3 then (a + b - 4519, true) else (0, false)

def flatS (c : Int) : List Int := if decS c = [] then [c] else decS c

theorem kindS_1 {c : Int} : kindS c = 1 ↔ 4352 ≤ c ∧ c ≤ 4370 := by
  unfold kindS; constructor
  · intro h; by_cases h1 : 4352 ≤ c ∧ c ≤ 4370
    · exact h1
    · rw [if_neg h1] at h; split at h <;> first | omega | (split at h <;> first | omega | (split at h <;> first | omega | (split at h <;> omega)))
  · intro h; rw [if_pos h]

theorem kindS_2 {c : Int} : kindS c = 2 ↔ 4449 ≤ c ∧ c ≤ 4469 := by
  unfold kindS; constructor
  · intro h; by_cases h1 : 4449 ≤ c ∧ c ≤ 4469
    · exact h1
    · rw [if_neg h1] at h; split at h <;> first | omega | (split at h <;> first | omega | (split at h <;> first | omega | (split at h <;> omega)))
  · intro h; rw [if_neg (by omega), if_pos h]

theorem kindS_3 {c : Int} : kindS c = 3 ↔ 4520 ≤ c ∧ c ≤ 4546 := by
  unfold kindS; constructor
  · intro h; by_cases h1 : 4520 ≤ c ∧ c ≤ 4546
    · exact h1
    · rw [if_neg h1] at h; split at h <;> first | omega | (split at h <;> first | omega | (split at h <;> first | omega | (split at h <;> omega)))
  · intro h; rw [if_neg (by omega), if_neg (by omega), if_pos h]

theorem kindS_4 {c : Int} : kindS c = 4 ↔ 44032 ≤ c ∧ c ≤ 55203 ∧ (c - 44032) % 28 = 0 := by
  unfold kindS; constructor
  · intro h; split at h <;> first | omega | (split at h <;> first | omega | (split at h <;> first | omega | (split at h <;> first | omega | (split at h <;> omega))))
  · intro h; rw [if_neg (by omega), if_neg (by omega), if_neg (by omega), if_neg (by omega), if_pos h.2.2]

theorem kindS_5 {c : Int} : kindS c = 5 ↔ 44032 ≤ c ∧ c ≤ 55203 ∧ (c - 44032) % 28 ≠ 0 := by
  unfold kindS; constructor
  · intro h; split at h <;> first | omega | (split at h <;> first | omega | (split at h <;> first | omega | (split at h <;> first | omega | (split at h <;> omega))))
  · intro h; rw [if_neg (by omega), if_neg (by omega), if_neg (by omega), if_neg (by omega), if_neg h.2.2]

theorem kindS_0 {c : Int} (h1 : ¬(4352 ≤ c ∧ c ≤ 4370)) (h2 : ¬(4449 ≤ c ∧ c ≤ 4469)) (h3 : ¬(4520 ≤ c ∧ c ≤ 4546)) (h : c < 44032 ∨ 55203 < c) : kindS c = 0 := by
  unfold kindS; rw [if_neg h1, if_neg h2, if_neg h3, if_pos h]

theorem partsS_cases {c i j k : Int} {b : Bool} (h : partsS c = (i, j, k, b)) :
    (b = false ∧ i = 0 ∧ j = 0 ∧ k = 0 ∧ (c < 44032 ∨ 55203 < c)) ∨
    (b = true ∧ 0 ≤ i ∧ i < 19 ∧ 0 ≤ j ∧ j < 21 ∧ 0 ≤ k ∧ k < 28 ∧ c = 44032 + (21 * i + j) * 28 + k) := by
  unfold partsS at h
  split at h
  · rename_i hc
    simp only [Prod.mk.injEq] at h
    obtain ⟨rfl, rfl, rfl, rfl⟩ := h
    right; refine ⟨rfl, ?_⟩; omega
  · simp only [Prod.mk.injEq] at h
    obtain ⟨rfl, rfl, rfl, rfl⟩ := h
    left; exact ⟨rfl, rfl, rfl, rfl, by omega⟩

theorem partsS_in {i j k : Int} (h0 : 0 ≤ i) (h1 : i < 19) (h2 : 0 ≤ j) (h3 : j < 21) (h4 : 0 ≤ k) (h5 : k < 28) :
    partsS (44032 + (21 * i + j) * 28 + k) = (i, j, k, true) := by
  unfold partsS
  rw [if_pos (by omega)]
  simp only [Prod.mk.injEq, and_true]
  omega

theorem decS_of {c i j k : Int} {b : Bool} (h : partsS c = (i, j, k, b)) :
    decS c = (bif b then (if k = 0 then [4352 + i, 4449 + j] else [4352 + i, 4449 + j, 4519 + k]) else []) := by
  unfold partsS at h
  unfold decS
  split at h
  · rename_i hc
    rw [if_pos hc]
    simp only [Prod.mk.injEq] at h
    obtain ⟨rfl, rfl, rfl, rfl⟩ := h
    rfl
  · rename_i hc
    rw [if_neg hc]
    simp only [Prod.mk.injEq] at h
    obtain ⟨rfl, rfl, rfl, rfl⟩ := h
    rfl

theorem compS_12 {a b : Int} (h1 : kindS a = 1) (h2 : kindS b = 2) : compS a b = (44032 + (21 * (a - 4352) + b - 4449) * 28, true) := by
  unfold compS; rw [if_pos ⟨h1, h2⟩]
theorem compS_43 {a b : Int} (h1 : kindS a = 4) (h2 : kindS b = 3) : compS a b = (a + b - 4519, true) := by
  unfold compS; rw [if_neg (by rw [h1, h2]; decide), if_pos ⟨h1, h2⟩]
theorem compS_no {a b : Int} (h1 : ¬(kindS a = 1 ∧ kindS b = 2)) (h2 : ¬(kindS a = 4 ∧ kindS b = 3)) : compS a b = (0, false) := by
  unfold compS; rw [if_neg h1, if_neg h2]

/-- What Compose answers. -/
theorem compS_cases {a b x : Int} {o : Bool} (h : compS a b = (x, o)) :
    (o = true ∧ kindS a = 1 ∧ kindS b = 2 ∧ x = 44032 + (21 * (a - 4352) + b - 4449) * 28) ∨
    (o = true ∧ kindS a = 4 ∧ kindS b = 3 ∧ x = a + b - 4519) ∨ (o = false ∧ x = 0) := by
  unfold compS at h
  split at h
  · rename_i hc; simp only [Prod.mk.injEq] at h; exact .inl ⟨h.2.symm, hc.1, hc.2, h.1.symm⟩
  · split at h
    · rename_i hc; simp only [Prod.mk.injEq] at h; exact .inr (.inl ⟨h.2.symm, hc.1, hc.2, h.1.symm⟩)
    · simp only [Prod.mk.injEq] at h; exact .inr (.inr ⟨h.2.symm, h.1.symm⟩)

/-- Composing closes: the syllable's kind, and its decomposition. -/
theorem comp_lv {a b x : Int} (h1 : kindS a = 1) (h2 : kindS b = 2) (hx : x = 44032 + (21 * (a - 4352) + b - 4449) * 28) :
    kindS x = 4 ∧ decS x = flatS a ++ [b] := by
  rw [kindS_1] at h1
  rw [kindS_2] at h2
  refine ⟨kindS_4.2 (by omega), ?_⟩
  have ha : decS a = [] := by unfold decS; rw [if_neg (by omega)]
  unfold flatS
  rw [if_pos ha]
  unfold decS
  rw [if_pos (by omega), if_pos (by omega)]
  simp only [List.cons_append, List.nil_append, List.cons.injEq, and_true]
  omega

theorem comp_lvt {a b x : Int} (h1 : kindS a = 4) (h2 : kindS b = 3) (hx : x = a + b - 4519) :
    kindS x = 5 ∧ decS x = flatS a ++ [b] := by
  rw [kindS_4] at h1
  rw [kindS_3] at h2
  refine ⟨kindS_5.2 (by omega), ?_⟩
  have ha : decS a = [4352 + (a - 44032) / 28 / 21, 4449 + (a - 44032) / 28 % 21] := by unfold decS; rw [if_pos (by omega), if_pos h1.2.2]
  unfold flatS
  rw [if_neg (by rw [ha]; simp), ha]
  unfold decS
  rw [if_pos (by omega), if_neg (by omega)]
  simp only [List.cons_append, List.nil_append, List.cons.injEq, and_true]
  omega

end Go.Proofs.YtiafhifbgdkgaaaGreatDoor
