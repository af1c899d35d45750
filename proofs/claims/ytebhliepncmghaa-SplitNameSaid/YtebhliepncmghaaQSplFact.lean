/-
  split: plain mathematics: names as strings; one label more.
-/
import Derived.Test.YtebhliepncmghaaQSplSpec
import Derived.Test.YtebhliepncmghaaQNumFact
set_option linter.unusedSimpArgs false
set_option linter.unusedVariables false
namespace Go.Proofs.Ytebhliepncmghaa
open Go.RowKit
set_option linter.unusedVariables false

theorem sstr_append (a b : List Int) : strOfNums (a ++ b) = strOfNums a ++ strOfNums b := by
  apply ByteArray.ext
  apply Array.ext'
  simp [strOfNums]

theorem joinD_snoc : ∀ (l : List (List Int)) (x : List Int), joinD (l ++ [x]) = if l = [] then x else joinD l ++ 46 :: x
  | [], x => rfl
  | [y], x => by simp [joinD]
  | y :: z :: t, x => by
    have ih := joinD_snoc (z :: t) x
    rw [List.cons_append, joinD_cons y (by simp), ih, if_neg (by simp), if_neg (by simp), joinD_cons y (by simp)]
    simp

/-- The labels of a string. -/
def strsD (s : ByteArray) : List ByteArray := (cutD (nums s)).map strOfNums
/-- Labels with full stops between them. -/
def nameB (L : List ByteArray) : ByteArray := strOfNums (joinD (L.map nums))
/-- Name: the string and the error. -/
def nameE (L : List ByteArray) : ByteArray × Int := if (chkD (L.map ByteArray.size)).2 ≠ 0 then (ByteArray.empty, (chkD (L.map ByteArray.size)).2) else (nameB L, 0)

theorem nameB_nil : nameB [] = ByteArray.empty := rfl
theorem nameB_snoc (l : List ByteArray) (x : ByteArray) : nameB (l ++ [x]) = if l = [] then x else (nameB l ++ ByteArray.mk #[46]) ++ x := by
  unfold nameB
  rw [List.map_append, List.map_singleton, joinD_snoc]
  cases l with
  | nil => simp [sOfN]
  | cons y t =>
    rw [if_neg (by simp), if_neg (by simp), sstr_append, show (46 :: nums x) = [46] ++ nums x from rfl, sstr_append, sOfN, ByteArray.append_assoc]
    rfl
theorem nameB_size (L : List ByteArray) : (nameB L).size = (L.map ByteArray.size).sum + (L.length - 1) := by
  unfold nameB
  rw [strOfNums_size, join_len, List.map_map, List.length_map]
  congr 2
  exact List.map_congr_left (fun x _ => nums_length x)
theorem take_snocB (L : List ByteArray) (k : Nat) (h : k < L.length) : L.take (k + 1) = L.take k ++ [L.getD k ByteArray.empty] := by
  rw [List.take_succ_eq_append_getElem h]; simp [h]
theorem take_snocL (L : List (List Int)) (k : Nat) (h : k < L.length) : L.take (k + 1) = L.take k ++ [L.getD k []] := by
  rw [List.take_succ_eq_append_getElem h]; simp [h]

/-- The labels of a name are found again. -/
theorem strs_name {L : List ByteArray} (hne : L ≠ []) (h : ∀ x ∈ L, (46 : Int) ∉ nums x) : strsD (nameB L) = L := by
  have hb : ∀ x ∈ joinD (L.map nums), 0 ≤ x ∧ x < 256 := by
    have key : ∀ (l : List (List Int)), (∀ y ∈ l, ∀ x ∈ y, (0 : Int) ≤ x ∧ x < 256) → ∀ x ∈ joinD l, (0 : Int) ≤ x ∧ x < 256 := by
      intro l
      induction l with
      | nil => intro _ x hx; cases hx
      | cons y t ih =>
        intro hy x hx
        cases t with
        | nil => exact hy y (by simp) x hx
        | cons z t =>
          rw [joinD_cons y (by simp)] at hx
          rcases List.mem_append.1 hx with e | e
          · exact hy y (by simp) x e
          · rcases List.mem_cons.1 e with e | e
            · omega
            · exact ih (fun y' hy' => hy y' (by simp [hy'])) x e
    refine key _ (fun y hy => ?_)
    obtain ⟨s, _, rfl⟩ := List.mem_map.1 hy
    exact nums_bytes s
  unfold strsD nameB
  rw [nums_of _ hb, cut_join _ (by simpa using hne) (by
    intro y hy
    obtain ⟨s, hs, rfl⟩ := List.mem_map.1 hy
    exact h s hs), List.map_map]
  have : (strOfNums ∘ nums) = id := by funext s; exact sOfN s
  rw [this, List.map_id]

theorem nameE_ok {L : List ByteArray} (h : (nameE L).2 = 0) : (chkD (L.map ByteArray.size)).2 = 0 ∧ nameE L = (nameB L, 0) := by
  unfold nameE at h ⊢
  by_cases he : (chkD (L.map ByteArray.size)).2 = 0
  · exact ⟨he, if_neg (by simp [he])⟩
  · rw [if_pos he] at h; exact absurd h he
theorem chkK_err2 : ∀ (k : Nat) (L : List Nat) (p : Nat × Int), chkK k L = some p → p.2 = 10 ∨ p.2 = 11
  | _, [], p, h => by cases h
  | k, m :: r, p, h => by
    rw [chkK] at h
    split at h
    · injection h with h; subst h; simp
    · split at h
      · injection h with h; subst h; simp
      · exact chkK_err2 (k + 1) r p h
theorem chkD_err {L : List Nat} : (chkD L).2 = 0 ∨ (chkD L).2 = 10 ∨ (chkD L).2 = 11 := by
  unfold chkD
  split
  · simp
  · cases hk : chkK 0 L with
    | some p => exact .inr (chkK_err2 0 L p hk)
    | none => simp only; split <;> simp
theorem nameE_err {L : List ByteArray} (h : (nameE L).2 ≠ 0) : (nameE L).1 = ByteArray.empty ∧ ((nameE L).2 = 10 ∨ (nameE L).2 = 11) := by
  unfold nameE at h ⊢
  by_cases he : (chkD (L.map ByteArray.size)).2 = 0
  · rw [if_neg (by simp [he])] at h; simp at h
  · rw [if_pos he]
    rcases chkD_err (L := L.map ByteArray.size) with e | e
    · exact absurd e he
    · exact ⟨rfl, e⟩

/-- One element more. -/
theorem cut_dot {D : List (List Int)} {cur l : List Int} {k : Nat} (hk : k < l.length) (h : l.getD k 0 = 46) : cutG D cur (l.drop k) = cutG (D ++ [cur]) [] (l.drop (k + 1)) := by
  rw [List.drop_eq_getElem_cons hk]
  have : l[k] = 46 := by rw [← h]; simp [hk]
  rw [this, cutG_dot]
theorem cut_no {D : List (List Int)} {cur l : List Int} {k : Nat} {c : Int} (hk : k < l.length) (h : l.getD k 0 = c) (hc : c ≠ 46) : cutG D cur (l.drop k) = cutG D (cur ++ [c]) (l.drop (k + 1)) := by
  rw [List.drop_eq_getElem_cons hk]
  have : l[k] = c := by rw [← h]; simp [hk]
  rw [this, cutG_no _ _ _ hc]
theorem cut_end {D : List (List Int)} {cur l : List Int} {k : Nat} (hk : l.length ≤ k) : cutG D cur (l.drop k) = D ++ [cur] := by
  rw [List.drop_of_length_le hk]; rfl
theorem cutG_tot (D : List (List Int)) (cur l : List Int) : ((cutG D cur l).map List.length).sum ≤ (D.map List.length).sum + cur.length + l.length := by
  induction l generalizing D cur with
  | nil => simp [cutG]
  | cons c r ih =>
    by_cases h : c = 46
    · subst h
      rw [cutG_dot]
      have := ih (D ++ [cur]) []
      simp at this ⊢; omega
    · rw [cutG_no _ _ _ h]
      have := ih D (cur ++ [c])
      simp at this ⊢; omega
theorem sum_mem {L : List (List Int)} {x : List Int} (h : x ∈ L) : x.length ≤ (L.map List.length).sum := by
  induction L with
  | nil => cases h
  | cons y t ih =>
    rcases List.mem_cons.1 h with rfl | h
    · simp
    · have := ih h; simp; omega
theorem cutD_lab (l : List Int) : ∀ x ∈ cutD l, x.length ≤ l.length := by
  intro x hx
  have h1 := sum_mem hx
  have h2 := cutG_tot [] [] l
  unfold cutD at h1 hx
  simp at h2; omega
theorem cutD_num (l : List Int) : (cutD l).length ≤ l.length + 1 := by
  rw [cutD_len]
  have := List.count_le_length (a := (46 : Int)) (l := l)
  omega

end Go.Proofs.Ytebhliepncmghaa
