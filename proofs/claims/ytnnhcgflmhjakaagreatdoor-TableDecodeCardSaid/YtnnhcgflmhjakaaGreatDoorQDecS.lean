/-
  The reader's index stays within the text, plain mathematics.
-/
import Derived.Test.YtnnhcgflmhjakaaGreatDoorQDecC
import Derived.Test.YtnnhcgflmhjakaaGreatDoorPkF
set_option linter.unusedSimpArgs false
set_option linter.unusedVariables false
namespace Go.Proofs.YtnnhcgflmhjakaaGreatDoor
open Go Go.RowKit
set_option linter.unusedVariables false

def Bd (s : ByteArray) (i : Int) : Prop := 0 ≤ i ∧ i ≤ s.size

theorem getR_len (k : Nat) (u : Int) (l : List Int) (h : (getR k u l).1 = 0) : (getR k u l).2.2 ≤ k + l.length := by
  induction l generalizing k u with
  | nil => simp [getR] at h
  | cons b r ih =>
    rw [getR] at h ⊢
    split
    · rename_i h1; rw [if_pos h1] at h; simp at h
    · rename_i h1
      rw [if_neg h1] at h
      split
      · rename_i h2
        rw [if_pos h2] at h
        split
        · rename_i h3; rw [if_pos h3] at h; simp at h
        · simp
      · rename_i h2
        rw [if_neg h2] at h
        have := ih _ _ h
        simp only [List.length_cons]; omega

theorem getS_bd {s : ByteArray} {i : Int} (h : Bd s i) (h0 : (getS s i).2.2 = 0) : Bd s (getS s i).2.1 := by
  obtain ⟨h1, h2⟩ := h
  unfold getS at h0 ⊢
  split
  · rename_i h3; omega
  · rename_i h3
    rw [if_neg h3] at h0
    split
    · rename_i h4
      have h5 := getR_len _ _ _ h4
      rw [List.length_drop, nums_length] at h5
      exact ⟨by simp only; omega, by simp only; omega⟩
    · exact ⟨h1, h2⟩

theorem getLF_bd {s : ByteArray} {a : Int} (n : Nat) {i last : Int} {out : List Int} (h : Bd s i) (h0 : (getLF s a n i last out).2.2 = 0) : Bd s (getLF s a n i last out).2.1 := by
  induction n generalizing i last out with
  | zero => exact h
  | succ n ih =>
    rw [getLF] at h0 ⊢
    split
    · rename_i h1; rw [if_pos h1] at h0; exact absurd h0 h1
    · rename_i h1
      rw [if_neg h1] at h0
      split
      · rename_i h2; rw [if_pos h2] at h0; simp at h0
      · rename_i h2
        rw [if_neg h2] at h0
        exact ih (getS_bd h (by simpa using h1)) h0

theorem getListS_bd {s : ByteArray} {i : Int} (h : Bd s i) (h0 : (getListS s i).2.2 = 0) : Bd s (getListS s i).2.1 := by
  rw [getListS] at h0 ⊢
  split
  · rename_i h1; rw [if_pos h1] at h0; exact absurd h0 h1
  · rename_i h1
    rw [if_neg h1] at h0
    split
    · rename_i h2; rw [if_pos h2] at h0; simp at h0
    · rename_i h2
      rw [if_neg h2] at h0
      exact getLF_bd _ (getS_bd h (by simpa using h1)) h0

theorem getSF_bd {s : ByteArray} {a : Int} (n : Nat) {first : Bool} {i last : Int} {out : List Sp} (h : Bd s i) (h0 : (getSF s a n first i last out).2.2 = 0) : Bd s (getSF s a n first i last out).2.1 := by
  induction n generalizing first i last out with
  | zero => exact h
  | succ n ih =>
    rw [getSF] at h0 ⊢
    simp only at h0 ⊢
    split
    · rename_i h1; rw [if_pos h1] at h0; exact absurd h0 h1
    · rename_i h1
      rw [if_neg h1] at h0
      have b1 := getS_bd h (by simpa using h1)
      split
      · rename_i h2; rw [if_pos h2] at h0; simp at h0
      · rename_i h2
        rw [if_neg h2] at h0
        split
        · rename_i h3; rw [if_pos h3] at h0; exact absurd h0 h3
        · rename_i h3
          rw [if_neg h3] at h0
          have b2 := getS_bd b1 (by simpa using h3)
          split
          · rename_i h4; rw [if_pos h4] at h0; simp at h0
          · rename_i h4
            rw [if_neg h4] at h0
            split
            · rename_i h5; rw [if_pos h5] at h0; exact absurd h0 h5
            · rename_i h5
              rw [if_neg h5] at h0
              have b3 := getS_bd b2 (by simpa using h5)
              split
              · rename_i h6; rw [if_pos h6] at h0; simp at h0
              · rename_i h6
                rw [if_neg h6] at h0
                exact ih b3 h0

theorem getSpansS_bd {s : ByteArray} {i : Int} (h : Bd s i) (h0 : (getSpansS s i).2.2 = 0) : Bd s (getSpansS s i).2.1 := by
  rw [getSpansS] at h0 ⊢
  split
  · rename_i h1; rw [if_pos h1] at h0; exact absurd h0 h1
  · rename_i h1
    rw [if_neg h1] at h0
    split
    · rename_i h2; rw [if_pos h2] at h0; simp at h0
    · rename_i h2
      rw [if_neg h2] at h0
      exact getSF_bd _ (getS_bd h (by simpa using h1)) h0

theorem rdI_bd {s : ByteArray} {i : Int} (er : Int) (h : Bd s i) : Bd s (rdI s i er).2.1 := by
  unfold rdI
  split
  · exact h
  · split
    · exact h
    · rename_i h1; exact getS_bd h (by simpa using h1)
theorem rdL_bd {s : ByteArray} {i : Int} (er : Int) (h : Bd s i) : Bd s (rdL s i er).2.1 := by
  unfold rdL
  split
  · exact h
  · split
    · exact h
    · rename_i h1; exact getListS_bd h (by simpa using h1)
theorem rdS_bd {s : ByteArray} {i : Int} (er : Int) (h : Bd s i) : Bd s (rdS s i er).2.1 := by
  unfold rdS
  split
  · exact h
  · split
    · exact h
    · rename_i h1; exact getSpansS_bd h (by simpa using h1)
theorem rdMF_bd {s : ByteArray} (n : Nat) {i : Int} {out : List Mp} (h : Bd s i) : Bd s (rdMF s n i out).2.1 := by
  induction n generalizing i out with
  | zero => exact h
  | succ n ih =>
    rw [rdMF]
    split
    · exact rdL_bd _ (rdI_bd _ h)
    · exact ih (rdL_bd _ (rdI_bd _ h))
theorem rdM_bd {s : ByteArray} {i : Int} (er : Int) (h : Bd s i) : Bd s (rdM s i er).2.1 := by
  unfold rdM
  split
  · exact rdI_bd _ h
  · split
    · exact rdI_bd _ h
    · exact rdMF_bd _ (rdI_bd _ h)
theorem rdT_bd {s : ByteArray} {i : Int} (er : Int) (h : Bd s i) : Bd s (rdT s i er).2.1 := by
  unfold rdT
  exact rdL_bd _ (rdM_bd _ (rdM_bd _ (rdM_bd _ (rdM_bd _ (rdS_bd _ (rdS_bd _ (rdS_bd _ (rdS_bd _ (rdS_bd _ (rdS_bd _ (rdS_bd _ h)))))))))))

/-- The error that the sum and the end leave. -/
def endS (s : ByteArray) (i er : Int) : Int :=
  if (rdI s i er).2.2 ≠ 0 then (rdI s i er).2.2
  else if (rdI s i er).1 ≠ sumS (s.extract 0 i.toNat) then 6
  else if (rdI s i er).2.1 ≠ s.size then 4 else 0

/-- Decode. -/
def itemsT (s : ByteArray) : Tb × Int :=
  if 32768 < s.size then (noT, 7) else if s.size < 4 then (noT, 5) else if s.extract 0 4 ≠ sigB then (noT, 4)
  else ((rdT s 4 0).1, endS s (rdT s 4 0).2.1 (rdT s 4 0).2.2)
def decT (s : ByteArray) : Tb × Int :=
  if (itemsT s).2 ≠ 0 then (noT, (itemsT s).2) else if checkT (itemsT s).1 ≠ 0 then (noT, 2) else ((itemsT s).1, 0)

end Go.Proofs.YtnnhcgflmhjakaaGreatDoor
