/-
  What the rules give, plain mathematics.
-/
import Derived.Test.YtmkaclfjekjabaaDoorTabR
namespace Go.Proofs.YtmkaclfjekjabaaDoor

theorem r2_sp {T : Tb} (h : r2 T = true) : ascB 0 T.cat = true ∧ ascB 0 T.cls = true ∧ ascB 0 T.joi = true ∧ ascB 0 T.bid = true ∧ ascB 0 T.scr = true ∧ ascB 0 T.sta = true ∧ ascB 0 T.ign = true := by
  simp only [r2, spansT, spOk, Bool.and_eq_true, List.all_cons, List.all_nil] at h
  exact ⟨h.1.1.1, h.1.2.1.1, h.1.2.2.1.1, h.1.2.2.2.1.1, h.1.2.2.2.2.1.1, h.1.2.2.2.2.2.1.1, h.1.2.2.2.2.2.2.1.1⟩
theorem r2_key {T : Tb} (h : r2 T = true) : ascI 0 1114111 (froms T.ext) = true ∧ ascI 0 1114111 (froms T.map) = true ∧ ascI 0 1114111 (froms T.dec) = true ∧ ascI 0 1114111 (froms T.pro) = true ∧ ascI 0 1114111 T.exc = true := by
  simp only [r2, keyOk, keyOkP, Bool.and_eq_true] at h
  exact ⟨h.2.1.1, h.2.2.1.1, h.2.2.2.1.1, h.2.2.2.2.1.1, h.2.2.2.2.2.1⟩

theorem val_mem {l : List Sp} {c v : Int} (h : val l c = some v) : ∃ s ∈ l, s.1 ≤ c ∧ c ≤ s.2.1 ∧ s.2.2 = v := by
  induction l with
  | nil => cases h
  | cons s r ih =>
    rw [val_cons] at h
    by_cases hc : s.1 ≤ c ∧ c ≤ s.2.1
    · rw [if_pos hc] at h
      injection h with h
      exact ⟨s, by simp, hc.1, hc.2, h⟩
    · rw [if_neg hc] at h
      obtain ⟨t, ht, h2⟩ := ih h
      exact ⟨t, by simp [ht], h2⟩

theorem r3_cls {T : Tb} (h : r3 T = true) (c : Int) : 0 ≤ clsT T c := by
  simp only [r3, Bool.and_eq_true, valOk, List.all_eq_true, decide_eq_true_eq] at h
  unfold clsT
  cases hv : val T.cls c with
  | none => simp
  | some v =>
    obtain ⟨s, hs, _, _, rfl⟩ := val_mem hv
    have := (h.2.1 s hs).1
    simp; omega

theorem r4_ne {T : Tb} (h : r4 T = true) : ∀ m ∈ T.dec, m.2 ≠ [] := by
  simp only [r4, Bool.and_eq_true, List.all_eq_true, seqS, decide_eq_true_eq] at h
  intro m hm he
  have := (h.2.2.1 m hm).1.1
  rw [he] at this; simp at this
theorem r4_sca {T : Tb} (h : r4 T = true) : ∀ m ∈ T.dec, m.2.all scaB = true := by
  simp only [r4, Bool.and_eq_true, List.all_eq_true, seqS, decide_eq_true_eq] at h
  intro m hm
  rw [List.all_eq_true]
  exact (h.2.2.1 m hm).2

theorem r6_fin {T : Tb} (h : r6 T = true) (c : Int) : siz T.dec c ≤ 18 := by
  simp only [r6, Bool.and_eq_true, List.all_eq_true, decide_eq_true_eq] at h
  cases hc : hasM T.dec c with
  | false => rw [siz_nil (findM_nil hc)]; omega
  | true => exact h.2 _ (findM_has hc)

theorem cmpH_of {T : Tb} (h1 : r1 T = true) (h2 : r2 T = true) (h3 : r3 T = true) (h4 : r4 T = true) (h6 : r6 T = true) : CmpH T :=
  ⟨(r2_key h2).2.2.1, (r2_sp h2).2.1, (r2_key h2).2.2.2.2, (few_mp h1).2.2.1, r6_fin h6, r3_cls h3, r4_ne h4⟩

theorem check_1 {T : Tb} (h : r1 T = false) : checkT T = 1 := by simp [checkT, h]
theorem check_2 {T : Tb} (h1 : r1 T = true) (h : r2 T = false) : checkT T = 2 := by simp [checkT, h1, h]
theorem check_3 {T : Tb} (h1 : r1 T = true) (h2 : r2 T = true) (h : r3 T = false) : checkT T = 3 := by simp [checkT, h1, h2, h]
theorem check_4 {T : Tb} (h1 : r1 T = true) (h2 : r2 T = true) (h3 : r3 T = true) (h : r4 T = false) : checkT T = 4 := by simp [checkT, h1, h2, h3, h]
theorem check_5 {T : Tb} (h1 : r1 T = true) (h2 : r2 T = true) (h3 : r3 T = true) (h4 : r4 T = true) (h : r5 T = false) : checkT T = 5 := by simp [checkT, h1, h2, h3, h4, h]
theorem check_6 {T : Tb} (h1 : r1 T = true) (h2 : r2 T = true) (h3 : r3 T = true) (h4 : r4 T = true) (h5 : r5 T = true) (h : r6 T = false) : checkT T = 6 := by simp [checkT, h1, h2, h3, h4, h5, h]
theorem check_7 {T : Tb} (h1 : r1 T = true) (h2 : r2 T = true) (h3 : r3 T = true) (h4 : r4 T = true) (h5 : r5 T = true) (h6 : r6 T = true) : checkT T = if r7 T = false then 7 else if r8 T = false then 8 else if r9 T = false then 9 else 0 := by simp [checkT, h1, h2, h3, h4, h5, h6]

end Go.Proofs.YtmkaclfjekjabaaDoor
