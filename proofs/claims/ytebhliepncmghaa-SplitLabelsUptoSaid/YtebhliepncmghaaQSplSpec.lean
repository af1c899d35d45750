/-
  split: plain mathematics: labels, and names made of them.
-/
import Derived.Test.YtebhliepncmghaaPkA
set_option linter.unusedSimpArgs false
set_option linter.unusedVariables false
namespace Go.Proofs.Ytebhliepncmghaa
set_option linter.unusedVariables false

/-- Dividing at the full stops: the labels that are closed, the one that is open, what is to come. -/
def cutG (D : List (List Int)) (cur : List Int) : List Int → List (List Int)
  | [] => D ++ [cur]
  | c :: r => if c = 46 then cutG (D ++ [cur]) [] r else cutG D (cur ++ [c]) r
def cutD (l : List Int) : List (List Int) := cutG [] [] l
def joinD : List (List Int) → List Int
  | [] => []
  | x :: t => match t with
    | [] => x
    | _ :: _ => x ++ 46 :: joinD t

theorem cutG_dot (D : List (List Int)) (cur r : List Int) : cutG D cur (46 :: r) = cutG (D ++ [cur]) [] r := by rw [cutG, if_pos rfl]
theorem cutG_no (D : List (List Int)) (cur r : List Int) {c : Int} (h : c ≠ 46) : cutG D cur (c :: r) = cutG D (cur ++ [c]) r := by rw [cutG, if_neg h]
theorem cutG_pre (D : List (List Int)) (cur l : List Int) : cutG D cur l = D ++ cutG [] cur l := by
  induction l generalizing D cur with
  | nil => rfl
  | cons c r ih =>
    by_cases h : c = 46
    · subst h
      rw [cutG_dot, cutG_dot, ih, ih ([] ++ [cur])]; simp
    · rw [cutG_no _ _ _ h, cutG_no _ _ _ h, ih]
theorem cutG_ne (cur l : List Int) : cutG [] cur l ≠ [] := by
  cases l with
  | nil => simp [cutG]
  | cons c r =>
    by_cases h : c = 46
    · subst h; rw [cutG_dot, cutG_pre]; simp
    · rw [cutG_no _ _ _ h]
      exact cutG_ne (cur ++ [c]) r
termination_by l.length
theorem cutD_ne (l : List Int) : cutD l ≠ [] := cutG_ne [] l

theorem joinD_cons (x : List Int) {t : List (List Int)} (h : t ≠ []) : joinD (x :: t) = x ++ 46 :: joinD t := by
  cases t with
  | nil => exact absurd rfl h
  | cons y r => rfl
theorem join_cutG (cur l : List Int) : joinD (cutG [] cur l) = cur ++ l := by
  induction l generalizing cur with
  | nil => simp [cutG, joinD]
  | cons c r ih =>
    by_cases h : c = 46
    · subst h
      rw [cutG_dot, cutG_pre, List.nil_append, List.singleton_append, joinD_cons _ (cutG_ne [] r), ih]; simp
    · rw [cutG_no _ _ _ h, ih]; simp
/-- Join is the inverse of Labels. -/
theorem join_cut (l : List Int) : joinD (cutD l) = l := by unfold cutD; rw [join_cutG]; rfl

theorem cutG_len (D : List (List Int)) (cur l : List Int) : (cutG D cur l).length = D.length + 1 + l.count 46 := by
  induction l generalizing D cur with
  | nil => simp [cutG]
  | cons c r ih =>
    by_cases h : c = 46
    · subst h; rw [cutG_dot, ih]; simp; omega
    · rw [cutG_no _ _ _ h, ih, List.count_cons_of_ne (by simpa using h)]
theorem cutD_len (l : List Int) : (cutD l).length = l.count 46 + 1 := by unfold cutD; rw [cutG_len]; simp; omega
theorem cutG_mem {D : List (List Int)} {cur l : List Int} (hD : ∀ y ∈ D, (46 : Int) ∉ y) (hc : (46 : Int) ∉ cur) : ∀ y ∈ cutG D cur l, (46 : Int) ∉ y := by
  induction l generalizing D cur with
  | nil =>
    intro y hy
    rw [cutG] at hy
    rcases List.mem_append.1 hy with h | h
    · exact hD y h
    · rw [List.mem_singleton] at h; subst h; exact hc
  | cons c r ih =>
    by_cases h : c = 46
    · subst h
      rw [cutG_dot]
      refine ih (fun y hy => ?_) (by simp)
      rcases List.mem_append.1 hy with h | h
      · exact hD y h
      · rw [List.mem_singleton] at h; subst h; exact hc
    · rw [cutG_no _ _ _ h]
      refine ih hD (fun e => ?_)
      rcases List.mem_append.1 e with e | e
      · exact hc e
      · rw [List.mem_singleton] at e; exact h e.symm
theorem cutD_mem (l : List Int) : ∀ y ∈ cutD l, (46 : Int) ∉ y := cutG_mem (by intro y h; cases h) (by simp)

theorem cutG_run {x : List Int} (hx : (46 : Int) ∉ x) (D : List (List Int)) (cur r : List Int) : cutG D cur (x ++ r) = cutG D (cur ++ x) r := by
  induction x generalizing cur with
  | nil => simp
  | cons c t ih =>
    rw [List.cons_append, cutG_no _ _ _ (fun e => hx (by simp [e])), ih (fun h => hx (by simp [h]))]; simp
/-- The labels of a name are found again. -/
theorem cut_join : ∀ (L : List (List Int)), L ≠ [] → (∀ y ∈ L, (46 : Int) ∉ y) → cutD (joinD L) = L
  | [], h, _ => absurd rfl h
  | [x], _, hx => by
    have := cutG_run (hx x (by simp)) [] [] []
    rw [List.append_nil] at this
    unfold cutD joinD
    rw [this]; simp [cutG]
  | x :: y :: t, _, hx => by
    have ih := cut_join (y :: t) (by simp) (fun z hz => hx z (by simp [hz]))
    unfold cutD at ih ⊢
    rw [joinD_cons x (by simp), cutG_run (hx x (by simp)), cutG_dot, cutG_pre, ih]; simp

theorem join_len : ∀ (L : List (List Int)), (joinD L).length = (L.map List.length).sum + (L.length - 1)
  | [] => rfl
  | [x] => by simp [joinD]
  | x :: y :: t => by
    have ih := join_len (y :: t)
    rw [joinD_cons x (by simp), List.length_append, List.length_cons, ih]
    simp only [List.map_cons, List.sum_cons, List.length_cons]
    omega

/-- Check, by the lengths of the labels: the number and the error (10 empty, 11 long). -/
def chkK : Nat → List Nat → Option (Nat × Int)
  | _, [] => none
  | k, n :: r => if n = 0 then some (k, 10) else if 63 < n then some (k, 11) else chkK (k + 1) r
def chkD (L : List Nat) : Nat × Int :=
  if L = [] then (0, 10) else match chkK 0 L with
    | some p => p
    | none => if 127 < L.length ∨ 253 < L.sum + (L.length - 1) then (0, 11) else (0, 0)
theorem chkK_none : ∀ (k : Nat) (L : List Nat), chkK k L = none → ∀ n ∈ L, 1 ≤ n ∧ n ≤ 63
  | _, [], _, n, h => by cases h
  | k, m :: r, he, n, h => by
    rw [chkK] at he
    split at he
    · cases he
    · split at he
      · cases he
      · rcases List.mem_cons.1 h with rfl | h
        · omega
        · exact chkK_none (k + 1) r he n h
theorem chkK_all : ∀ (k : Nat) (L : List Nat), (∀ n ∈ L, 1 ≤ n ∧ n ≤ 63) → chkK k L = none
  | _, [], _ => rfl
  | k, m :: r, h => by
    have := h m (by simp)
    rw [chkK, if_neg (by omega), if_neg (by omega)]
    exact chkK_all (k + 1) r (fun n hn => h n (by simp [hn]))
theorem chkK_err : ∀ (k : Nat) (L : List Nat) (p : Nat × Int), chkK k L = some p → ¬ p.2 = 0
  | _, [], p, h => by cases h
  | k, m :: r, p, h => by
    rw [chkK] at h
    split at h
    · injection h with h; subst h; simp
    · split at h
      · injection h with h; subst h; simp
      · exact chkK_err (k + 1) r p h
theorem chkD_ok {L : List Nat} (h : (chkD L).2 = 0) : L ≠ [] ∧ (∀ n ∈ L, 1 ≤ n ∧ n ≤ 63) ∧ L.length ≤ 127 ∧ L.sum + (L.length - 1) ≤ 253 := by
  unfold chkD at h
  split at h
  · simp at h
  · rename_i hne
    cases hk : chkK 0 L with
    | some p =>
      rw [hk] at h
      simp only at h
      exact absurd h (chkK_err 0 L p hk)
    | none =>
      rw [hk] at h
      simp only at h
      split at h
      · simp at h
      · exact ⟨hne, chkK_none 0 L hk, by omega, by omega⟩

end Go.Proofs.Ytebhliepncmghaa
