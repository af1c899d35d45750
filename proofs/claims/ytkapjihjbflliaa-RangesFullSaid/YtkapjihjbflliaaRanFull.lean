/-
  Rows with gaps, and one code point that is set in them: plain mathematics.
-/
import Derived.Test.YtkapjihjbflliaaRanSpec2
namespace Go.Proofs.Ytkapjihjbflliaa

/-- n rows of six code points, ten apart, from row i on. -/
def rowsF (i : Int) : Nat → List Sp
  | 0 => []
  | n + 1 => (10 * i, 10 * i + 5, 1) :: rowsF (i + 1) n

theorem rowsF_snoc (i : Int) (n : Nat) : rowsF i (n + 1) = rowsF i n ++ [(10 * (i + n), 10 * (i + n) + 5, 1)] := by
  induction n generalizing i with
  | zero => simp [rowsF]
  | succ n ih =>
    rw [rowsF, ih]
    simp only [rowsF, List.cons_append]
    rw [show i + 1 + (n : Int) = i + ((n + 1 : Nat) : Int) by omega]

theorem rowsF_length (i : Int) (n : Nat) : (rowsF i n).length = n := by
  induction n generalizing i with
  | zero => rfl
  | succ n ih => simp [rowsF, ih]

def gapB (lo : Int) : List Sp → Bool
  | [] => true
  | s :: r => decide (lo ≤ s.1) && (decide (s.1 ≤ s.2.1) && gapB (s.2.1 + 2) r)

theorem gap_cons {lo : Int} {s : Sp} {r : List Sp} : gapB lo (s :: r) = true ↔ lo ≤ s.1 ∧ s.1 ≤ s.2.1 ∧ gapB (s.2.1 + 2) r = true := by simp [gapB]

theorem gap_weak {lo lo' : Int} {l : List Sp} (h : gapB lo' l = true) (hl : lo ≤ lo') : gapB lo l = true := by
  cases l with
  | nil => rfl
  | cons s r => rw [gap_cons] at h ⊢; exact ⟨by omega, h.2⟩

theorem gap_nrm {lo : Int} {l : List Sp} (h : gapB lo l = true) : nrmB l = true := by
  induction l generalizing lo with
  | nil => rfl
  | cons s r ih =>
    rw [gap_cons] at h
    cases r with
    | nil => rfl
    | cons t r =>
      have h2 := gap_cons.1 h.2.2
      rw [nrm_cons2]
      refine ⟨?_, ih h.2.2⟩
      simp only [touch, Bool.and_eq_false_iff, decide_eq_false_iff_not]
      left; omega

theorem gap_before {lo c : Int} {l : List Sp} (h : gapB lo l = true) : gapB lo (beforeS c l) = true := by
  induction l generalizing lo with
  | nil => rfl
  | cons s r ih =>
    rw [gap_cons] at h
    simp only [beforeS]
    split
    · rw [gap_cons]; exact ⟨h.1, by simp only; omega, gap_weak (ih h.2.2) (by simp only; omega)⟩
    · exact gap_weak (ih h.2.2) (by omega)

theorem gap_after {lo c : Int} {l : List Sp} (h : gapB lo l = true) : gapB lo (afterS c l) = true := by
  induction l generalizing lo with
  | nil => rfl
  | cons s r ih =>
    rw [gap_cons] at h
    simp only [afterS]
    split
    · rw [gap_cons]; exact ⟨by simp only; omega, by simp only; omega, ih h.2.2⟩
    · exact gap_weak (ih h.2.2) (by omega)

theorem rowsF_gap (i : Int) (n : Nat) : gapB (10 * i) (rowsF i n) = true := by
  induction n generalizing i with
  | zero => rfl
  | succ n ih => rw [rowsF, gap_cons]; exact ⟨Int.le_refl _, by simp only; omega, gap_weak (ih (i + 1)) (by simp only; omega)⟩

theorem rowsF_asc (i : Int) (n : Nat) (h : i + n ≤ 300) : ascB (10 * i) (rowsF i n) = true := by
  induction n generalizing i with
  | zero => rfl
  | succ n ih => rw [rowsF, asc_cons]; exact ⟨Int.le_refl _, by simp only; omega, by simp only; omega, asc_weak (ih (i + 1) (by omega)) (by simp only; omega)⟩

def onesB (l : List Sp) : Bool := l.all fun s => decide (s.2.2 = 1)

theorem rowsF_ones (i : Int) (n : Nat) : onesB (rowsF i n) = true := by
  induction n generalizing i with
  | zero => rfl
  | succ n ih => simp only [rowsF, onesB, List.all_cons, decide_true, Bool.true_and]; exact ih _

theorem before_ones {c : Int} {l : List Sp} (h : onesB l = true) : onesB (beforeS c l) = true := by
  induction l with
  | nil => rfl
  | cons s r ih =>
    simp only [onesB, List.all_cons, Bool.and_eq_true] at h
    simp only [beforeS]
    split
    · simp only [onesB, List.all_cons, Bool.and_eq_true]; exact ⟨h.1, ih h.2⟩
    · exact ih h.2

theorem after_ones {c : Int} {l : List Sp} (h : onesB l = true) : onesB (afterS c l) = true := by
  induction l with
  | nil => rfl
  | cons s r ih =>
    simp only [onesB, List.all_cons, Bool.and_eq_true] at h
    simp only [afterS]
    split
    · simp only [onesB, List.all_cons, Bool.and_eq_true]; exact ⟨h.1, ih h.2⟩
    · exact ih h.2

/-- A span of value 2 between spans of value 1. -/
theorem nrm_between {a b : List Sp} {s : Sp} (ha : nrmB a = true) (hb : nrmB b = true) (oa : onesB a = true) (ob : onesB b = true) (hs : s.2.2 = 2) : nrmB (a ++ [s] ++ b) = true := by
  induction a with
  | nil =>
    cases b with
    | nil => rfl
    | cons t r =>
      simp only [onesB, List.all_cons, Bool.and_eq_true, decide_eq_true_eq] at ob
      simp only [List.nil_append, List.cons_append]
      rw [nrm_cons2]
      refine ⟨?_, hb⟩
      simp only [touch, Bool.and_eq_false_iff, decide_eq_false_iff_not]
      right; omega
  | cons t r ih =>
    simp only [onesB, List.all_cons, Bool.and_eq_true, decide_eq_true_eq] at oa
    have := ih (nrm_tail ha) oa.2
    cases r with
    | nil =>
      simp only [List.nil_append, List.cons_append] at this ⊢
      rw [nrm_cons2]
      refine ⟨?_, this⟩
      simp only [touch, Bool.and_eq_false_iff, decide_eq_false_iff_not]
      right; omega
    | cons u r =>
      simp only [List.cons_append] at this ⊢
      rw [nrm_cons2]
      exact ⟨(nrm_cons2.1 ha).1, this⟩

theorem rowsF_val (i at' : Int) (n : Nat) (h0 : i ≤ at') (h1 : at' < i + n) : val (rowsF i n) (10 * at' + 2) = some 1 := by
  induction n generalizing i with
  | zero => omega
  | succ n ih =>
    rw [rowsF, val_cons]
    by_cases h : at' = i
    · rw [if_pos (by simp only; omega)]
    · rw [if_neg (by simp only; omega)]
      exact ih (i + 1) (by omega) (by omega)

theorem rowsF_before (i at' : Int) (n : Nat) : ((beforeS (10 * at' + 2) (rowsF i n)).length : Int) = max 0 (min (n : Int) (at' + 1 - i)) := by
  induction n generalizing i with
  | zero => simp only [rowsF, beforeS, List.length_nil]; omega
  | succ n ih =>
    have := ih (i + 1)
    simp only [rowsF, beforeS]
    split
    · simp only [List.length_cons]; omega
    · omega

theorem rowsF_after (i at' : Int) (n : Nat) : ((afterS (10 * at' + 2) (rowsF i n)).length : Int) = max 0 (min (n : Int) (i + n - at')) := by
  induction n generalizing i with
  | zero => simp only [rowsF, afterS, List.length_nil]; omega
  | succ n ih =>
    have := ih (i + 1)
    simp only [rowsF, afterS]
    split
    · simp only [List.length_cons]; omega
    · omega

theorem rows_valid (k : Nat) (hk : k ≤ 256) : validS (rowsF 0 k) = true := by
  have h : ascB 0 (rowsF 0 k) = true := rowsF_asc 0 k (by omega)
  rw [validS, rowsF_length, decide_eq_true hk, h]; rfl

/-- The same value: the rows stay as they are. -/
theorem full_same (k : Nat) (at' : Int) (hk : k ≤ 256) (h0 : 0 ≤ at') (h1 : at' < k) : setS (rowsF 0 k) (10 * at' + 2) (10 * at' + 2) 1 = (rowsF 0 k, 0) := by
  have hv := rows_valid k hk
  have ha : ascB 0 (rowsF 0 k) = true := by simp only [validS, Bool.and_eq_true] at hv; exact hv.2
  obtain ⟨p1, p2⟩ := put_facts (l := rowsF 0 k) (by' := [(10 * at' + 2, 10 * at' + 2, 1)]) (f := 10 * at' + 2) (t := 10 * at' + 2) ha (by omega) (by rw [asc_cons]; exact ⟨Int.le_refl _, Int.le_refl _, by simp only; omega, rfl⟩) (by simp only [ends]; omega) (Int.le_refl _)
  have e : joinS (beforeS (10 * at' + 2) (rowsF 0 k) ++ [(10 * at' + 2, 10 * at' + 2, 1)] ++ afterS (10 * at' + 2) (rowsF 0 k)) = rowsF 0 k := by
    refine uniq (join_asc p1) ha (join_nrm p1) (gap_nrm (rowsF_gap 0 k)) fun c => ?_
    rw [join_val p1, p2]
    by_cases hc : 10 * at' + 2 ≤ c ∧ c ≤ 10 * at' + 2
    · have : c = 10 * at' + 2 := by omega
      subst this
      rw [if_pos hc, val_cons, if_pos hc, rowsF_val 0 at' k h0 (by omega)]
    · rw [if_neg hc]
  rw [setS, replS, if_neg (by simp [hv]), if_neg (by omega), e, limS, if_neg (by rw [rowsF_length]; omega)]

/-- Another value: two rows more. -/
theorem full_other (k : Nat) (at' : Int) (hk : k ≤ 256) (h0 : 0 ≤ at') (h1 : at' < k) : ∃ L : List Sp, L.length = k + 2 ∧ setS (rowsF 0 k) (10 * at' + 2) (10 * at' + 2) 2 = limS L := by
  have hv := rows_valid k hk
  have ha : ascB 0 (rowsF 0 k) = true := by simp only [validS, Bool.and_eq_true] at hv; exact hv.2
  obtain ⟨p1, p2⟩ := put_facts (l := rowsF 0 k) (by' := [(10 * at' + 2, 10 * at' + 2, 2)]) (f := 10 * at' + 2) (t := 10 * at' + 2) ha (by omega) (by rw [asc_cons]; exact ⟨Int.le_refl _, Int.le_refl _, by simp only; omega, rfl⟩) (by simp only [ends]; omega) (Int.le_refl _)
  have hn : nrmB (beforeS (10 * at' + 2) (rowsF 0 k) ++ [(10 * at' + 2, 10 * at' + 2, 2)] ++ afterS (10 * at' + 2) (rowsF 0 k)) = true :=
    nrm_between (gap_nrm (gap_before (rowsF_gap 0 k))) (gap_nrm (gap_after (rowsF_gap 0 k))) (before_ones (rowsF_ones 0 k)) (after_ones (rowsF_ones 0 k)) rfl
  have hb := rowsF_before 0 at' k
  have hc := rowsF_after 0 at' k
  refine ⟨_, ?_, by rw [setS, replS, if_neg (by simp [hv]), if_neg (by omega), join_of_nrm p1 hn]⟩
  simp only [List.length_append, List.length_cons, List.length_nil]
  omega

end Go.Proofs.Ytkapjihjbflliaa
