/-
  The sizes of full decompositions as the program keeps them, plain mathematics: a table of sizes in which 0 stands for 'not known', and 19 for 'not known, but begun'.
-/
import Derived.Test.YtmkaclfjekjabaaDoorTabM
namespace Go.Proofs.YtmkaclfjekjabaaDoor

abbrev keyAt (l : List Mp) (i : Nat) : Int := (l.getD i mp0).1

/-- S' knows what S knows, and more that is right. -/
def Ext (l : List Mp) (S S' : List Int) : Prop :=
  S'.length = S.length ∧ ∀ i, i < S.length → (S.getD i 0 ≠ 0 → S'.getD i 0 = S.getD i 0) ∧ (S.getD i 0 = 0 → S'.getD i 0 = 0 ∨ S'.getD i 0 = siz l (keyAt l i))

/-- What S knows is right, or was begun on the way to c. -/
def Kn (l : List Mp) (S : List Int) (c : Int) : Prop :=
  ∀ i, i < S.length → S.getD i 0 ≠ 0 → S.getD i 0 = siz l (keyAt l i) ∨ (S.getD i 0 = 19 ∧ Rch l (keyAt l i) c)

def zeros : List Int → Nat
  | [] => 0
  | z :: r => (if z = 0 then 1 else 0) + zeros r

theorem Ext.refl (l : List Mp) (S : List Int) : Ext l S S := ⟨rfl, fun _ _ => ⟨fun _ => rfl, fun h => .inl h⟩⟩
theorem siz_pos (l : List Mp) (c : Int) : (siz l c : Int) ≠ 0 := by have := siz_bd l c; omega

theorem Ext.trans {l : List Mp} {A B C : List Int} (h : Ext l A B) (k : Ext l B C) : Ext l A C := by
  refine ⟨k.1.trans h.1, fun i hi => ?_⟩
  have h2 := h.2 i hi
  have k2 := k.2 i (by rw [h.1]; exact hi)
  refine ⟨fun hn => ?_, fun hz => ?_⟩
  · have e := h2.1 hn
    rw [k2.1 (by rw [e]; exact hn), e]
  · rcases h2.2 hz with e | e
    · exact k2.2 e
    · exact .inr ((k2.1 (by rw [e]; exact siz_pos _ _)).trans e)

theorem zeros_le : ∀ (A B : List Int), B.length = A.length → (∀ i, i < A.length → A.getD i 0 ≠ 0 → B.getD i 0 ≠ 0) → zeros B ≤ zeros A
  | [], B, hl, _ => by
    have : B = [] := List.eq_nil_of_length_eq_zero hl
    subst this; exact Nat.le_refl _
  | a :: A, [], hl, _ => by simp at hl
  | a :: A, b :: B, hl, h => by
    have h0 := h 0 (by simp)
    have ih := zeros_le A B (by simpa using hl) fun i hi hn => by
      have := h (i + 1) (by simpa using hi)
      simp only [List.getD_cons_succ] at this
      exact this hn
    simp only [List.getD_cons_zero] at h0
    simp only [zeros]
    by_cases ha : a = 0
    · rw [if_pos ha]; split <;> omega
    · rw [if_neg ha, if_neg (h0 ha)]; omega

theorem Ext.zeros {l : List Mp} {A B : List Int} (h : Ext l A B) : zeros B ≤ zeros A :=
  zeros_le A B h.1 fun i hi hn => by rw [(h.2 i hi).1 hn]; exact hn

theorem zeros_set : ∀ (A : List Int) (i : Nat) (v : Int), i < A.length → A.getD i 0 = 0 → v ≠ 0 → zeros (A.set i v) + 1 = zeros A
  | [], _, _, hi, _, _ => by simp at hi
  | a :: A, 0, v, _, h0, hv => by
    simp only [List.getD_cons_zero] at h0
    simp only [List.set_cons_zero, zeros, if_pos h0, if_neg hv]; omega
  | a :: A, i + 1, v, hi, h0, hv => by
    have := zeros_set A i v (by simpa using hi) (by simpa using h0) hv
    simp only [List.set_cons_succ, zeros]; omega

theorem getD_set (A : List Int) (i j : Nat) (v : Int) (hi : i < A.length) : (A.set i v).getD j 0 = if j = i then v else A.getD j 0 := by
  simp only [List.getD_eq_getElem?_getD, List.getElem?_set]
  by_cases h : i = j
  · subst h; simp [hi]
  · rw [if_neg h, if_neg (fun e => h e.symm)]

/-- Behind the mark of c: what is known serves each part of c. -/
theorem Kn.part {l : List Mp} {S S1 : List Int} {c d : Int} {i : Nat} (hS : Kn l S c) (hi : i < S.length) (hc : keyAt l i = c) (hd : d ∈ findM l c) (hE : Ext l (S.set i 19) S1) : Kn l S1 d := by
  intro j hj hn
  have hjS : j < S.length := by rw [hE.1, List.length_set] at hj; exact hj
  have e2 := hE.2 j (by rw [List.length_set]; exact hjS)
  rw [getD_set S i j 19 hi] at e2
  by_cases hji : j = i
  · rw [if_pos hji] at e2
    have e := e2.1 (by omega)
    rw [e, hji, hc]
    exact .inr ⟨rfl, .one hd⟩
  · rw [if_neg hji] at e2
    by_cases h0 : S.getD j 0 = 0
    · rcases e2.2 h0 with e | e
      · exact absurd e hn
      · exact .inl e
    · have e := e2.1 h0
      rw [e]
      rcases hS j hjS h0 with h | h
      · exact .inl h
      · exact .inr ⟨h.1, h.2.snoc hd⟩

/-- At the end c's own size is set. -/
theorem Ext.done {l : List Mp} {S S1 : List Int} {i : Nat} {v : Int} (hi : i < S.length) (h0 : S.getD i 0 = 0) (hE : Ext l (S.set i 19) S1) (hv : v = siz l (keyAt l i)) : Ext l S (S1.set i v) := by
  have hl : S1.length = S.length := by rw [hE.1, List.length_set]
  refine ⟨by rw [List.length_set, hl], fun j hj => ?_⟩
  have e2 := hE.2 j (by rw [List.length_set]; exact hj)
  rw [getD_set S i j 19 hi] at e2
  rw [getD_set S1 i j v (by rw [hl]; exact hi)]
  by_cases hji : j = i
  · subst hji
    rw [if_pos rfl]
    exact ⟨fun h => absurd h0 h, fun _ => .inr hv⟩
  · rw [if_neg hji] at e2 ⊢
    exact e2

theorem Kn.found {l : List Mp} {S : List Int} {c : Int} {i : Nat} (hS : Kn l S c) (hi : i < S.length) (hc : keyAt l i = c) (hn : S.getD i 0 ≠ 0) : S.getD i 0 = siz l c := by
  rcases hS i hi hn with h | h
  · rw [h, hc]
  · rw [h.1]
    have := h.2
    rw [hc] at this
    rw [siz_ring this]; rfl

/-- The parts' sizes together. -/
def sumZ (l : List Mp) (y : List Int) : Nat := (y.map (siz l)).sum
theorem sumZ_snoc (l : List Mp) (y : List Int) (d : Int) : sumZ l (y ++ [d]) = sumZ l y + siz l d := by simp [sumZ]
theorem sumZ_le (l : List Mp) (y : List Int) : sumZ l y ≤ 19 * y.length := by
  induction y with
  | nil => simp [sumZ]
  | cons a r ih =>
    have := siz_bd l a
    simp only [sumZ, List.map_cons, List.sum_cons, List.length_cons] at ih ⊢
    omega

end Go.Proofs.YtmkaclfjekjabaaDoor
