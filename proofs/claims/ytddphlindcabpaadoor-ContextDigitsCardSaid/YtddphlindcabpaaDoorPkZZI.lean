/-
  joiner: plain mathematics: the neighbours that join, what is permitted, the automaton.
  joiner: what the functions of the layer return, as functions of the tables and the sequence.
-/
import Derived.Test.YtddphlindcabpaaDoorPkB
import Derived.Test.YtddphlindcabpaaDoorPkR
set_option linter.unusedSimpArgs false
set_option linter.unusedVariables false
namespace Go.Proofs.YtddphlindcabpaaDoor
set_option linter.unusedVariables false

def solB (T : Tb) (c : Int) : Bool := !decide (joiT T c = 5)
/-- The last element before i that is not transparent. -/
def lefK (T : Tb) (l : List Int) : Nat → Option Nat
  | 0 => none
  | i + 1 => if solB T (l.getD i 0) = true then some i else lefK T l i
/-- The first one from k on. -/
def rigL (T : Tb) : Nat → List Int → Option Nat
  | _, [] => none
  | k, c :: r => if solB T c = true then some k else rigL T (k + 1) r
def rigK (T : Tb) (l : List Int) (i : Nat) : Option Nat := rigL T (i + 1) (l.drop (i + 1))
def optI : Option Nat → Int
  | none => -1
  | some k => k
def joL (T : Tb) (c : Int) : Bool := decide (joiT T c = 1) || decide (joiT T c = 3)
def joR (T : Tb) (c : Int) : Bool := decide (joiT T c = 2) || decide (joiT T c = 3)
def aftV (T : Tb) (l : List Int) (i : Nat) : Bool := decide (0 < i) && decide (clsT T (l.getD (i - 1) 0) = 9)
def betB (T : Tb) (l : List Int) (i : Nat) : Bool := match lefK T l i, rigK T l i with
  | some a, some b => joL T (l.getD a 0) && joR T (l.getD b 0)
  | _, _ => false
/-- Whether the element with index i is permitted. -/
def permB (T : Tb) (l : List Int) (i : Nat) : Bool :=
  if l.getD i 0 ≠ 8204 ∧ l.getD i 0 ≠ 8205 then true else aftV T l i || (decide (l.getD i 0 = 8204) && betB T l i)
/-- The first element from k on that is not permitted. -/
def badJ (T : Tb) (l : List Int) : Nat → Nat → Option Nat
  | 0, _ => none
  | n + 1, k => if permB T l k = false then some k else badJ T l n (k + 1)

theorem lefK_some (T : Tb) (l : List Int) : ∀ (i a : Nat), lefK T l i = some a ↔ (a < i ∧ solB T (l.getD a 0) = true ∧ ∀ j, a < j → j < i → solB T (l.getD j 0) = false)
  | 0, a => by simp [lefK]
  | i + 1, a => by
    rw [lefK]
    cases h : solB T (l.getD i 0) with
    | true =>
      rw [if_pos rfl]
      constructor
      · intro e
        injection e with e
        subst e
        exact ⟨by omega, h, fun j h1 h2 => by omega⟩
      · intro ⟨h1, h2, h3⟩
        by_cases e : a = i
        · rw [e]
        · have := h3 i (by omega) (by omega)
          rw [h] at this; cases this
    | false =>
      rw [if_neg (by simp), lefK_some T l i a]
      constructor
      · intro ⟨h1, h2, h3⟩
        refine ⟨by omega, h2, fun j h4 h5 => ?_⟩
        by_cases e : j = i
        · rw [e]; exact h
        · exact h3 j h4 (by omega)
      · intro ⟨h1, h2, h3⟩
        have hne : a ≠ i := fun e => by rw [e, h] at h2; cases h2
        exact ⟨by omega, h2, fun j h4 h5 => h3 j h4 (by omega)⟩
theorem lefK_none (T : Tb) (l : List Int) : ∀ (i : Nat), lefK T l i = none ↔ ∀ j, j < i → solB T (l.getD j 0) = false
  | 0 => by simp [lefK]
  | i + 1 => by
    rw [lefK]
    cases h : solB T (l.getD i 0) with
    | true =>
      rw [if_pos rfl]
      constructor
      · intro e; cases e
      · intro h2; have := h2 i (by omega); rw [h] at this; cases this
    | false =>
      rw [if_neg (by simp), lefK_none T l i]
      constructor
      · intro h2 j hj
        by_cases e : j = i
        · rw [e]; exact h
        · exact h2 j (by omega)
      · intro h2 j hj; exact h2 j (by omega)
theorem rigL_some (T : Tb) : ∀ (r : List Int) (k b : Nat), rigL T k r = some b ↔ (k ≤ b ∧ b < k + r.length ∧ solB T (r.getD (b - k) 0) = true ∧ ∀ j, j < b - k → solB T (r.getD j 0) = false)
  | [], k, b => by
    rw [rigL]
    constructor
    · intro e; cases e
    · intro ⟨h1, h2, _⟩; simp at h2; omega
  | c :: r, k, b => by
    rw [rigL]
    cases h : solB T c with
    | true =>
      rw [if_pos rfl]
      constructor
      · intro e
        injection e with e
        subst e
        exact ⟨Nat.le_refl _, by simp, by simpa using h, fun j hj => by omega⟩
      · intro ⟨h1, h2, h3, h4⟩
        by_cases e : b = k
        · rw [e]
        · have := h4 0 (by omega)
          rw [List.getD_cons_zero, h] at this; cases this
    | false =>
      rw [if_neg (by simp), rigL_some T r (k + 1) b]
      constructor
      · intro ⟨h1, h2, h3, h4⟩
        refine ⟨by omega, by simp; omega, ?_, fun j hj => ?_⟩
        · rw [show b - k = (b - (k + 1)) + 1 by omega, List.getD_cons_succ]; exact h3
        · cases j with
          | zero => rw [List.getD_cons_zero]; exact h
          | succ j => rw [List.getD_cons_succ]; exact h4 j (by omega)
      · intro ⟨h1, h2, h3, h4⟩
        have hne : b ≠ k := fun e => by rw [e, Nat.sub_self, List.getD_cons_zero, h] at h3; cases h3
        rw [show b - k = (b - (k + 1)) + 1 by omega, List.getD_cons_succ] at h3
        refine ⟨by omega, by simp at h2; omega, h3, fun j hj => ?_⟩
        have := h4 (j + 1) (by omega)
        rwa [List.getD_cons_succ] at this
theorem getD_drop_int (l : List Int) (k j : Nat) : (l.drop k).getD j 0 = l.getD (k + j) 0 := by simp [List.getD]
theorem rigK_some (T : Tb) (l : List Int) (i b : Nat) : rigK T l i = some b ↔ (i < b ∧ b < l.length ∧ solB T (l.getD b 0) = true ∧ ∀ j, i < j → j < b → solB T (l.getD j 0) = false) := by
  unfold rigK
  rw [rigL_some]
  simp only [getD_drop_int, List.length_drop]
  constructor
  · intro ⟨h1, h2, h3, h4⟩
    refine ⟨by omega, by omega, by rwa [show i + 1 + (b - (i + 1)) = b by omega] at h3, fun j h5 h6 => ?_⟩
    have := h4 (j - (i + 1)) (by omega)
    rwa [show i + 1 + (j - (i + 1)) = j by omega] at this
  · intro ⟨h1, h2, h3, h4⟩
    refine ⟨by omega, by omega, by rwa [show i + 1 + (b - (i + 1)) = b by omega], fun j hj => ?_⟩
    exact h4 (i + 1 + j) (by omega) (by omega)

/-- Left and Right are the mirror of each other. -/
theorem mirror_some (T : Tb) (l : List Int) {k a : Nat} (hk : k < l.length) (ha : a < l.length) : lefK T l k = some a ↔ rigK T l.reverse (l.length - 1 - k) = some (l.length - 1 - a) := by
  have hrev : ∀ j, j < l.length → l.reverse.getD (l.length - 1 - j) 0 = l.getD j 0 := by
    intro j hj
    rw [List.getD_eq_getElem?_getD, List.getD_eq_getElem?_getD, List.getElem?_reverse (by omega)]
    congr 2
    omega
  rw [lefK_some, rigK_some, List.length_reverse]
  constructor
  · intro ⟨h1, h2, h3⟩
    refine ⟨by omega, by omega, by rw [hrev a ha]; exact h2, fun j h4 h5 => ?_⟩
    have := h3 (l.length - 1 - j) (by omega) (by omega)
    rw [← hrev _ (by omega : l.length - 1 - j < l.length)] at this
    rwa [show l.length - 1 - (l.length - 1 - j) = j by omega] at this
  · intro ⟨h1, h2, h3, h4⟩
    refine ⟨by omega, by rw [hrev a ha] at h3; exact h3, fun j h5 h6 => ?_⟩
    have := h4 (l.length - 1 - j) (by omega) (by omega)
    rwa [hrev j (by omega)] at this
theorem mirror (T : Tb) (l : List Int) {k : Nat} (hk : k < l.length) : (lefK T l k = none ∧ rigK T l.reverse (l.length - 1 - k) = none) ∨ ∃ a, a < l.length ∧ lefK T l k = some a ∧ rigK T l.reverse (l.length - 1 - k) = some (l.length - 1 - a) := by
  cases h : lefK T l k with
  | some a =>
    have ha : a < l.length := by have := ((lefK_some T l k a).1 h).1; omega
    exact .inr ⟨a, ha, rfl, (mirror_some T l hk ha).1 h⟩
  | none =>
    refine .inl ⟨rfl, ?_⟩
    cases h2 : rigK T l.reverse (l.length - 1 - k) with
    | none => rfl
    | some b =>
      have hb := (rigK_some T l.reverse _ b).1 h2
      rw [List.length_reverse] at hb
      have := (mirror_some T l hk (show l.length - 1 - b < l.length by omega)).2 (by rw [h2]; congr 1; omega)
      rw [h] at this; cases this

/-- The automaton: it reads from left to right with three states. -/
def autS (T : Tb) (i : Nat) : Nat → Nat → List Int → Bool
  | _, _, [] => false
  | k, s, c :: r =>
    if k ≠ i ∧ joiT T c = 5 then autS T i (k + 1) s r
    else if k < i then (if joL T c = true then autS T i (k + 1) 1 r else autS T i (k + 1) 0 r)
    else if k = i then (if s = 1 then autS T i (k + 1) 2 r else false)
    else decide (s = 2) && joR T c

theorem autS_tail (T : Tb) (i : Nat) : ∀ (r : List Int) (k : Nat), i < k → autS T i k 2 r = match rigL T k r with | some b => joR T (r.getD (b - k) 0) | none => false
  | [], k, h => rfl
  | c :: r, k, h => by
    rw [autS, rigL]
    by_cases hc : joiT T c = 5
    · rw [if_pos ⟨by omega, hc⟩, if_neg (by simp [solB, hc]), autS_tail T i r (k + 1) (by omega)]
      cases hb : rigL T (k + 1) r with
      | none => rfl
      | some b =>
        have := ((rigL_some T r (k + 1) b).1 hb).1
        simp only
        rw [show b - k = (b - (k + 1)) + 1 by omega, List.getD_cons_succ]
    · rw [if_neg (fun e => hc e.2), if_neg (by omega), if_neg (by omega), if_pos (by simp [solB, hc])]
      simp
/-- The state ahead of index k. -/
def stL (T : Tb) (l : List Int) (k : Nat) : Nat := match lefK T l k with
  | some a => if joL T (l.getD a 0) = true then 1 else 0
  | none => 0
theorem stL_next (T : Tb) (l : List Int) (k : Nat) : stL T l (k + 1) = if joiT T (l.getD k 0) = 5 then stL T l k else if joL T (l.getD k 0) = true then 1 else 0 := by
  unfold stL
  rw [lefK]
  by_cases h : joiT T (l.getD k 0) = 5
  · rw [if_neg (by simp only [solB, h]; simp), if_pos h]
  · rw [if_pos (by unfold solB; rw [decide_eq_false h]; rfl), if_neg h]
theorem autS_head (T : Tb) (l : List Int) (i : Nat) (hi : i < l.length) : ∀ (d k : Nat), k + d = i → autS T i k (stL T l k) (l.drop k) = autS T i i (stL T l i) (l.drop i)
  | 0, k, h => by rw [show k = i by omega]
  | d + 1, k, h => by
    have hk : k < l.length := by omega
    have ih := autS_head T l i hi d (k + 1) (by omega)
    have hd : l.drop k = l.getD k 0 :: l.drop (k + 1) := by rw [List.drop_eq_getElem_cons hk]; simp [hk]
    rw [hd, autS, ← ih, stL_next]
    by_cases hc : joiT T (l.getD k 0) = 5
    · rw [if_pos ⟨by omega, hc⟩, if_pos hc]
    · rw [if_neg (fun e => hc e.2), if_pos (by omega), if_neg hc]
      cases joL T (l.getD k 0) <;> simp
/-- ZWNJ is between joining letters exactly if the automaton accepts. -/
theorem automaton_ok (T : Tb) (l : List Int) (i : Nat) (hi : i < l.length) : autS T i 0 0 l = betB T l i := by
  have h0 := autS_head T l i hi i 0 (by omega)
  have hs : stL T l 0 = 0 := rfl
  rw [hs, List.drop_zero] at h0
  have hd : l.drop i = l.getD i 0 :: l.drop (i + 1) := by rw [List.drop_eq_getElem_cons hi]; simp [hi]
  rw [h0, hd, autS, if_neg (fun e => e.1 rfl), if_neg (by omega), if_pos rfl, autS_tail T i _ _ (by omega)]
  unfold betB stL rigK
  cases lefK T l i with
  | none => simp
  | some a =>
    simp only
    by_cases h : joL T (l.getD a 0) = true
    · cases hb : rigL T (i + 1) (l.drop (i + 1)) with
      | none => simp
      | some b =>
        have := ((rigL_some T _ _ b).1 hb).1
        have e := getD_drop_int l (i + 1) (b - (i + 1))
        rw [show i + 1 + (b - (i + 1)) = b by omega] at e
        simp only [h, if_true, Bool.true_and]
        rw [e]
    · have h := Bool.eq_false_iff.2 h
      cases rigL T (i + 1) (l.drop (i + 1)) <;> simp only [h, Bool.false_and] <;> rfl

theorem badJ_none (T : Tb) (l : List Int) : ∀ (n k : Nat), badJ T l n k = none ↔ ∀ j, k ≤ j → j < k + n → permB T l j = true
  | 0, k => by simp [badJ]; intro j h1 h2; omega
  | n + 1, k => by
    rw [badJ]
    cases h : permB T l k with
    | false =>
      rw [if_pos rfl]
      constructor
      · intro e; cases e
      · intro h2; have := h2 k (Nat.le_refl _) (by omega); rw [h] at this; cases this
    | true =>
      rw [if_neg (by simp), badJ_none T l n (k + 1)]
      constructor
      · intro h2 j h3 h4
        by_cases e : j = k
        · rw [e]; exact h
        · exact h2 j (by omega) (by omega)
      · intro h2 j h3 h4; exact h2 j (by omega) (by omega)

end Go.Proofs.YtddphlindcabpaaDoor

namespace Go.Proofs.YtddphlindcabpaaDoor
set_option linter.unusedVariables false

def okI (T : Tb) (l : List Int) (i : Int) : Prop := 0 ≤ i ∧ i < l.length ∧ accE T l = 0
instance (T : Tb) (l : List Int) (i : Int) : Decidable (okI T l i) := by unfold okI; exact inferInstance
def lefR (T : Tb) (l : List Int) (i : Int) : Int := if okI T l i then optI (lefK T l i.toNat) else -1
def rigR (T : Tb) (l : List Int) (i : Int) : Int := if okI T l i then optI (rigK T l i.toNat) else -1
def perR (T : Tb) (l : List Int) (i : Int) : Bool := decide (okI T l i) && permB T l i.toNat
def chkJ (T : Tb) (l : List Int) : Int × Int := if accE T l ≠ 0 then (0, accE T l) else match badJ T l l.length 0 with
  | some k => ((k : Int), 17)
  | none => (0, 0)
theorem lefR_ok {T : Tb} {l : List Int} {k : Nat} (hk : k < l.length) (ha : accE T l = 0) : lefR T l k = optI (lefK T l k) := by unfold lefR; rw [if_pos ⟨by omega, by omega, ha⟩, Int.toNat_natCast]
theorem rigR_ok {T : Tb} {l : List Int} {k : Nat} (hk : k < l.length) (ha : accE T l = 0) : rigR T l k = optI (rigK T l k) := by unfold rigR; rw [if_pos ⟨by omega, by omega, ha⟩, Int.toNat_natCast]
theorem perR_ok {T : Tb} {l : List Int} {k : Nat} (hk : k < l.length) (ha : accE T l = 0) : perR T l k = permB T l k := by unfold perR; rw [decide_eq_true (show okI T l k from ⟨by omega, by omega, ha⟩), Int.toNat_natCast]; rfl
theorem optI_bd (o : Option Nat) (n : Nat) (h : ∀ k, o = some k → k < n) : -1 ≤ optI o ∧ optI o < n := by
  cases o with
  | none => exact ⟨by decide, by show (-1 : Int) < n; omega⟩
  | some k => have := h k rfl; exact ⟨by show (-1 : Int) ≤ (k : Int); omega, by show (k : Int) < n; omega⟩

end Go.Proofs.YtddphlindcabpaaDoor
