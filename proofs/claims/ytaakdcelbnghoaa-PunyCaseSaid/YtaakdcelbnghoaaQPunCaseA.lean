/-
  PunyCase: capital letters among the digits; bytes of the call's own that are stored into.
-/
import Derived.Test.YtaakdcelbnghoaaQPunEnv
import Derived.Test.YtaakdcelbnghoaaPkZZC
import Derived.Test.YtaakdcelbnghoaaPkZZD
set_option linter.unusedSimpArgs false
set_option linter.unusedVariables false
namespace Go.Proofs.Ytaakdcelbnghoaa
open Go.RowKit
set_option linter.unusedVariables false

/-- Behind the last hyphen. -/
def lastH (l : List Int) : Nat → Nat
  | 0 => 0
  | j + 1 => if l.getD j 0 = 45 then j + 1 else lastH l j
theorem lastH_le (l : List Int) : ∀ j, lastH l j ≤ j
  | 0 => Nat.le_refl _
  | j + 1 => by
    rw [lastH]
    split
    · exact Nat.le_refl _
    · have := lastH_le l j; omega
theorem lastH_no (l : List Int) : ∀ j i, lastH l j ≤ i → i < j → l.getD i 0 ≠ 45
  | 0, i, _, h => by omega
  | j + 1, i, h1, h2 => by
    rw [lastH] at h1
    split at h1
    · omega
    · rename_i hne
      by_cases e : i = j
      · rw [e]; exact hne
      · exact lastH_no l j i h1 (by omega)

/-- From K on, some letters of X are capital ones in Y. -/
def CapR (K : Nat) (X Y : List Int) : Prop := Y.length = X.length ∧ ∀ i, i < X.length → Y.getD i 0 = X.getD i 0 ∨ (K ≤ i ∧ 97 ≤ X.getD i 0 ∧ X.getD i 0 ≤ 122 ∧ Y.getD i 0 = X.getD i 0 - 32)

theorem capR_hy {K : Nat} {X Y : List Int} (h : CapR K X Y) (hK : ∀ i, K ≤ i → i < X.length → X.getD i 0 ≠ 45) : ∀ k, k ≤ X.length → hyK Y k = hyK X k
  | 0, _ => rfl
  | k + 1, hk => by
    have ih := capR_hy h hK k (by omega)
    have e : Y.getD k 0 = 45 ↔ X.getD k 0 = 45 := by
      rcases h.2 k (by omega) with h1 | ⟨h1, h2, h3, h4⟩
      · rw [h1]
      · omega
    rw [hyK, hyK, ih]
    by_cases hc : 1 ≤ k ∧ X.getD k 0 = 45
    · rw [if_pos hc, if_pos ⟨hc.1, e.2 hc.2⟩]
    · rw [if_neg hc, if_neg (fun hx => hc ⟨hx.1, e.1 hx.2⟩)]

theorem capR_set {K : Nat} {X Y : List Int} (h : CapR K X Y) {j : Nat} (hj : K ≤ j) (h1 : 97 ≤ X.getD j 0) (h2 : X.getD j 0 ≤ 122) : CapR K X (Y.set j (X.getD j 0 - 32)) := by
  refine ⟨by simpa using h.1, fun i hi => ?_⟩
  by_cases e : j = i
  · subst e
    right
    refine ⟨hj, h1, h2, ?_⟩
    rw [List.getD_eq_getElem?_getD, List.getElem?_set_self (by rw [h.1]; exact hi)]
    rfl
  · have e2 : (Y.set j (X.getD j 0 - 32)).getD i 0 = Y.getD i 0 := by
      rw [List.getD_eq_getElem?_getD, List.getElem?_set_ne e, ← List.getD_eq_getElem?_getD]
    rw [e2]
    exact h.2 i hi

theorem caseEq_of : ∀ (X Y : List Int), Y.length = X.length → (∀ i, i < X.length → Y.getD i 0 = X.getD i 0 ∨ (97 ≤ X.getD i 0 ∧ X.getD i 0 ≤ 122 ∧ Y.getD i 0 = X.getD i 0 - 32)) → CaseEq X Y
  | [], [], _, _ => CaseEq.nil
  | [], d :: Y, h, _ => by simp at h
  | c :: X, [], h, _ => by simp at h
  | c :: X, d :: Y, hl, h => by
    refine CaseEq.cons ?_ (caseEq_of X Y (by simpa using hl) (fun i hi => ?_))
    · have h0 := h 0 (by simp)
      simp only [List.getD_cons_zero] at h0
      rcases h0 with e | ⟨h1, h2, e⟩
      · rw [e]
      · rw [e, digV_case ⟨h1, h2⟩]
    · have h1 := h (i + 1) (by simp; omega)
      simpa only [List.getD_cons_succ] using h1

theorem capR_byte {K : Nat} {X Y : List Int} (h : CapR K X Y) (hX : ∀ c ∈ X, 0 ≤ c ∧ c < 256) : ∀ c ∈ Y, 0 ≤ c ∧ c < 256 := by
  intro c hc
  obtain ⟨i, hi, rfl⟩ := List.getElem_of_mem hc
  have hi2 : i < X.length := by rw [← h.1]; exact hi
  have h1 := hX _ (List.getElem_mem hi2)
  have e1 : Y.getD i 0 = Y[i] := by simp [hi]
  have e2 : X.getD i 0 = X[i] := by simp [hi2]
  rcases h.2 i hi2 with e | ⟨_, a, b, e⟩
  · rw [e1, e2] at e; omega
  · rw [e1, e2] at e; rw [e2] at a b; omega

theorem enc_ascii {l X : List Int} {e : Int} (h : encP l = (X, e)) : ∀ c ∈ X, 0 ≤ c ∧ c < 128 := by
  unfold encP at h
  split at h
  · injection h with h1 h2; rw [← h1]; simp
  · split at h
    · injection h with h1 h2; rw [← h1]; simp
    · rename_i h0 h3
      injection h with h1 h2
      have hs : ∀ c ∈ l, scpB c = true := by
        have : l.all scpB = true := by simpa using h3
        simpa using this
      intro c hc
      rw [← h1] at hc
      rcases List.mem_append.1 hc with hc | hc
      · unfold frontS at hc
        rcases List.mem_append.1 hc with hc | hc
        · have h4 := basS_lt l c hc
          have h5 := scp_bd (hs c (placed_mem _ _ c hc))
          omega
        · split at hc
          · simp at hc
          · simp at hc; omega
      · have := pencL_dig l _ _ _ _ _ _ c hc
        omega

theorem nums_getC (S : ByteArray) (k : Nat) (hk : k < S.size) : (nums S).getD k 0 = (S[k].toNat : Int) := by
  have h := congrArg List.head? (pnums_drop S k hk)
  rw [List.head?_drop] at h
  rw [List.getD_eq_getElem?_getD, h]
  rfl

theorem capR_dec {K : Nat} {X Y : List Int} (h : CapR K X Y) (hK : ∀ i, K ≤ i → i < X.length → X.getD i 0 ≠ 45) : decP Y = decP X := by
  have hl := h.1
  have hh : hyS Y = hyS X := by unfold hyS; rw [hl]; exact capR_hy h hK _ (Nat.le_refl _)
  have hb := hyK_bd X X.length
  have ht : Y.take (hyS X) = X.take (hyS X) := by
    rcases hb with h0 | ⟨h1, h2, h3⟩
    · have : hyS X = 0 := h0
      rw [this]; rfl
    · have hlt : hyK X X.length < K := by
        apply Nat.lt_of_not_le
        intro hle
        exact hK _ hle h2 h3
      apply List.ext_getElem?
      intro i
      rw [List.getElem?_take, List.getElem?_take]
      by_cases hi : i < hyS X
      · rw [if_pos hi, if_pos hi]
        have hi2 : i < hyK X X.length := hi
        have hx : i < X.length := by omega
        rcases h.2 i hx with e | e
        · rw [List.getD_eq_getElem?_getD, List.getD_eq_getElem?_getD, List.getElem?_eq_getElem hx, List.getElem?_eq_getElem (by omega)] at e
          rw [List.getElem?_eq_getElem hx, List.getElem?_eq_getElem (by omega)]
          exact congrArg some e
        · omega
      · rw [if_neg hi, if_neg hi]
  have hd : ∀ a, CaseEq (X.drop a) (Y.drop a) := by
    intro a
    apply caseEq_of
    · simp; omega
    · intro i hi
      have hi2 : a + i < X.length := by simp at hi; omega
      have e1 : (X.drop a).getD i 0 = X.getD (a + i) 0 := by rw [List.getD_eq_getElem?_getD, List.getElem?_drop, ← List.getD_eq_getElem?_getD]
      have e2 : (Y.drop a).getD i 0 = Y.getD (a + i) 0 := by rw [List.getD_eq_getElem?_getD, List.getElem?_drop, ← List.getD_eq_getElem?_getD]
      rw [e1, e2]
      rcases h.2 (a + i) hi2 with e | ⟨_, e⟩
      · exact .inl e
      · exact .inr e
  unfold decP
  rw [hl, hh, ht, pdecL_case _ _ _ _ _ _ _ _ (hd (if hyS X = 0 then 0 else hyS X + 1))]

/-- A byte of the call's own is replaced. -/
theorem OwnB.setb {w : World} {B : Nat} {v : Value} {xs : List Int} (h : OwnB w B v xs) {k : Nat} (hk : k < xs.length) :
    ∃ g cap, v = .slice (some ⟨g, 0, none⟩) xs.length cap ∧ B ≤ g ∧ w.cell? ⟨g, k, none⟩ = some (.int .u8 (xs.getD k 0)) ∧ w.frozen? ⟨g, k, none⟩ = false ∧
      ∀ c, OwnB (w.setCell ⟨g, k, none⟩ (.int .u8 c)) B (.slice (some ⟨g, 0, none⟩) xs.length cap) (xs.set k c) := by
  obtain ⟨g, cap, cur, fz, rfl, hb, hg, hf, hn, hc, hs, ht⟩ := h
  have hcell : cur[k]? = some (.int .u8 (xs.getD k 0)) := by
    have e : (cur.toList.take xs.length)[k]? = (xs.map (Value.int .u8))[k]? := by rw [ht]
    rw [List.getElem?_take, if_pos hk, Array.getElem?_toList] at e
    rw [e, List.getElem?_map, List.getElem?_eq_getElem hk]
    simp [hk]
  refine ⟨g, cap, rfl, hb, ?_, ?_, fun c => ?_⟩
  · simp [World.cell?, hg, hcell]
  · unfold World.frozen?
    rw [hg]
    obtain ⟨lo, hi⟩ := fz
    simp only at hf ⊢
    rcases hf with hf | hf
    · have : ¬ lo ≤ k := by omega
      simp [this]
    · simp [hf]
  · refine ⟨g, cap, cur.setIfInBounds k (.int .u8 c), fz, by simp, hb, ?_, hf, by simpa using hn, hc, by simpa using hs, ?_⟩
    · rw [setCell_eq_setRow w g k cur _ _ _ hg]; exact setRow_heap w g cur _ _ _ hg
    · rw [List.length_set, Array.toList_setIfInBounds, List.take_set, ht, List.map_set]

end Go.Proofs.Ytaakdcelbnghoaa
