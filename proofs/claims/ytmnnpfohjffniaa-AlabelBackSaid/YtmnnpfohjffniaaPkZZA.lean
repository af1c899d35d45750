/-
  puny: plain mathematics: numbers as digits, the bias, the encoder and the decoder, and that they undo each other.
  puny: plain mathematics: the encoder's and the decoder's steps, and that they undo each other.
  puny: plain mathematics: whole strings: the basic code points, the hyphen, the numbers.
  puny: what Decode's result can be; the lists that the statements make (no program in it).
-/
import Derived.Test.YtmnnpfohjffniaaPkA
set_option linter.unusedSimpArgs false
set_option linter.unusedVariables false
namespace Go.Proofs.Ytmnnpfohjffniaa
set_option linter.unusedVariables false

def adL (d k : Nat) : Nat := if h : 455 < d then adL (d / 35) (k + 36) else k + 36 * d / (d + 38)
termination_by d
decreasing_by omega
def adaptN (delta points : Nat) (first : Bool) : Nat := adL ((if first = true then delta / 700 else delta / 2) + (if first = true then delta / 700 else delta / 2) / points) 0
def adaptS (delta points : Int) (first : Bool) : Int :=
  if 0 ≤ delta ∧ delta ≤ 1099511627776 ∧ 1 ≤ points ∧ points ≤ 4096 then (adaptN delta.toNat points.toNat first : Nat) else 0

theorem adL_le (d k : Nat) : adL d k ≤ k + d + 36 := by
  rw [adL]
  split
  · rename_i h
    have := adL_le (d / 35) (k + 36)
    omega
  · have : 36 * d / (d + 38) ≤ 36 := by
      apply Nat.le_of_lt_succ
      rw [Nat.div_lt_iff_lt_mul (by omega)]
      omega
    omega
termination_by d
decreasing_by omega

/-- The threshold of digit j. -/
def thr (b j : Nat) : Nat := min 26 (max 1 (36 * (j + 1) - b))
theorem thr_bd (b j : Nat) : 1 ≤ thr b j ∧ thr b j ≤ 26 := by unfold thr; omega

/-- The digits of a number. -/
def pnumS (b j v : Nat) : List Nat :=
  if h : v < thr b j then [v] else (thr b j + (v - thr b j) % (36 - thr b j)) :: pnumS b (j + 1) ((v - thr b j) / (36 - thr b j))
termination_by v
decreasing_by
  have := thr_bd b j
  have := Nat.div_le_self (v - thr b j) (36 - thr b j)
  omega

def pvalS (b : Nat) : Nat → List Nat → Nat
  | _, [] => 0
  | j, d :: r => d + (36 - thr b j) * pvalS b (j + 1) r
/-- The digits end with the first that is below its threshold. -/
def cmpl (b : Nat) : Nat → List Nat → Prop
  | _, [] => False
  | j, d :: r => if d < thr b j then r = [] else d < 36 ∧ cmpl b (j + 1) r

theorem pvalS_pnumS (b j v : Nat) : pvalS b j (pnumS b j v) = v := by
  rw [pnumS]
  split
  · simp [pvalS]
  · rename_i h
    have ht := thr_bd b j
    have ih := pvalS_pnumS b (j + 1) ((v - thr b j) / (36 - thr b j))
    rw [pvalS, ih]
    have := Nat.mod_add_div (v - thr b j) (36 - thr b j)
    omega
termination_by v
decreasing_by
  have := Nat.div_le_self (v - thr b j) (36 - thr b j)
  omega

theorem cmpl_pnumS (b j v : Nat) : cmpl b j (pnumS b j v) := by
  rw [pnumS]
  split
  · rename_i h; simp [cmpl, h]
  · rename_i h
    have ht := thr_bd b j
    have ih := cmpl_pnumS b (j + 1) ((v - thr b j) / (36 - thr b j))
    have hm := Nat.mod_lt (v - thr b j) (show 36 - thr b j > 0 by omega)
    rw [cmpl, if_neg (by omega)]
    exact ⟨by omega, ih⟩
termination_by v
decreasing_by
  have := Nat.div_le_self (v - thr b j) (36 - thr b j)
  omega

theorem pnumS_pvalS (b : Nat) : ∀ (D : List Nat) (j : Nat), cmpl b j D → pnumS b j (pvalS b j D) = D
  | [], _, h => h.elim
  | d :: r, j, h => by
    have ht := thr_bd b j
    rw [cmpl] at h
    split at h
    · rename_i hd
      subst h
      rw [pnumS, pvalS, pvalS, dif_pos (by simpa using hd)]
      simp
    · rename_i hd
      have ih := pnumS_pvalS b r (j + 1) h.2
      have hv : 36 - thr b j > 0 := by omega
      have e1 : (d + (36 - thr b j) * pvalS b (j + 1) r - thr b j) / (36 - thr b j) = pvalS b (j + 1) r := by
        rw [show d + (36 - thr b j) * pvalS b (j + 1) r - thr b j = (d - thr b j) + (36 - thr b j) * pvalS b (j + 1) r by omega, Nat.add_mul_div_left _ _ hv, Nat.div_eq_of_lt (by omega)]
        omega
      have e2 : (d + (36 - thr b j) * pvalS b (j + 1) r - thr b j) % (36 - thr b j) = d - thr b j := by
        rw [show d + (36 - thr b j) * pvalS b (j + 1) r - thr b j = (d - thr b j) + (36 - thr b j) * pvalS b (j + 1) r by omega, Nat.add_mul_mod_self_left, Nat.mod_eq_of_lt (by omega)]
      rw [pnumS, pvalS, dif_neg (by omega), e1, e2, ih]
      congr 1
      omega

theorem cmpl_lt (b : Nat) : ∀ (D : List Nat) (j : Nat), cmpl b j D → ∀ d ∈ D, d < 36
  | [], _, h => h.elim
  | d :: r, j, h => by
    have ht := thr_bd b j
    rw [cmpl] at h
    intro x hx
    split at h
    · rename_i hd; subst h; simp at hx; omega
    · rcases List.mem_cons.1 hx with rfl | hx
      · exact h.1
      · exact cmpl_lt b r (j + 1) h.2 x hx

/-! digits as bytes -/
def pdigB (v : Nat) : Int := if v < 26 then 97 + (v : Int) else 22 + (v : Int)
def digV (c : Int) : Option Nat :=
  if 97 ≤ c ∧ c ≤ 122 then some (c - 97).toNat else if 65 ≤ c ∧ c ≤ 90 then some (c - 65).toNat else if 48 ≤ c ∧ c ≤ 57 then some (c - 22).toNat else none
theorem pdigB_range {v : Nat} (h : v < 36) : (97 ≤ pdigB v ∧ pdigB v ≤ 122) ∨ (48 ≤ pdigB v ∧ pdigB v ≤ 57) := by unfold pdigB; split <;> omega
theorem digV_pdigB {v : Nat} (h : v < 36) : digV (pdigB v) = some v := by
  unfold pdigB digV
  split
  · rw [if_pos (by omega)]; congr 1; omega
  · rw [if_neg (by omega), if_neg (by omega), if_pos (by omega)]; congr 1; omega
theorem digV_lt {c : Int} {d : Nat} (h : digV c = some d) : d < 36 := by
  unfold digV at h
  split at h
  · injection h; omega
  · split at h
    · injection h; omega
    · split at h
      · injection h; omega
      · cases h
theorem pdigB_digV {c : Int} {d : Nat} (h : digV c = some d) (hc : ¬ (65 ≤ c ∧ c ≤ 90)) : pdigB d = c := by
  unfold digV at h
  split at h
  · injection h; unfold pdigB; rw [if_pos (by omega)]; omega
  · split at h
    · injection h; unfold pdigB; rw [if_neg (by omega)]; omega
    · cases h
theorem digV_case {c : Int} (h : 97 ≤ c ∧ c ≤ 122) : digV (c - 32) = digV c := by
  unfold digV
  rw [if_neg (by omega), if_pos (by omega), if_pos h]; congr 1; omega

/-- The digits of the next number, and what follows. -/
def takeD (b : Nat) : Nat → List Int → Option (List Nat × List Int)
  | _, [] => none
  | j, c :: r => match digV c with
    | none => none
    | some d => if d < thr b j then some ([d], r) else match takeD b (j + 1) r with
      | none => none
      | some (D, q) => some (d :: D, q)

theorem takeD_num (b : Nat) : ∀ (D : List Nat) (j : Nat) (r : List Int), cmpl b j D → takeD b j (D.map pdigB ++ r) = some (D, r)
  | [], _, _, h => h.elim
  | d :: D, j, r, h => by
    have hd := cmpl_lt b (d :: D) j h d (by simp)
    rw [cmpl] at h
    rw [List.map_cons, List.cons_append, takeD, digV_pdigB hd]
    simp only
    split at h
    · rename_i hl; subst h; rw [if_pos hl]; simp
    · rename_i hl; rw [if_neg hl, takeD_num b D (j + 1) r h.2]

theorem takeD_some (b : Nat) : ∀ (s : List Int) (j : Nat) (D : List Nat) (r : List Int), takeD b j s = some (D, r) →
    cmpl b j D ∧ ((∀ c ∈ s, ¬ (65 ≤ c ∧ c ≤ 90)) → s = D.map pdigB ++ r) ∧ ∃ A, s = A ++ r ∧ A ≠ []
  | [], _, _, _, h => by cases h
  | c :: s, j, D, r, h => by
    rw [takeD] at h
    split at h
    · cases h
    · rename_i d hd
      have hlt := digV_lt hd
      split at h
      · rename_i hl
        injection h with h
        injection h with h1 h2
        subst h1 h2
        refine ⟨by rw [cmpl, if_pos hl], fun hs => ?_, [c], rfl, by simp⟩
        rw [List.map_cons, pdigB_digV hd (hs c (by simp))]; rfl
      · rename_i hl
        split at h
        · cases h
        · rename_i D' q hq
          injection h with h
          injection h with h1 h2
          subst h1 h2
          obtain ⟨i1, i2, A, i3, i4⟩ := takeD_some b s (j + 1) D' q hq
          refine ⟨by rw [cmpl, if_neg hl]; exact ⟨hlt, i1⟩, fun hs => ?_, c :: A, by rw [i3]; rfl, by simp⟩
          rw [List.map_cons, pdigB_digV hd (hs c (by simp)), List.cons_append, ← i2 (fun x hx => hs x (by simp [hx]))]

/-! what is in place -/
def placed : List Int → List Bool → List Int
  | c :: l, b :: F => if b = true then c :: placed l F else placed l F
  | _, _ => []
theorem placed_split : ∀ (l : List Int) (F : List Bool) (a : Nat), F.length = l.length → a < l.length →
    placed l F = placed (l.take a) (F.take a) ++ ((if F.getD a true = true then [l.getD a 0] else []) ++ placed (l.drop (a + 1)) (F.drop (a + 1)))
  | [], _, _, _, h => by simp at h
  | c :: l, [], _, h, _ => by simp at h
  | c :: l, b :: F, 0, h, _ => by
    simp only [List.take_zero, placed, List.nil_append, List.getD_cons_zero, Nat.zero_add, List.drop_succ_cons, List.drop_zero]
    cases b <;> simp
  | c :: l, b :: F, a + 1, h, h2 => by
    have ih := placed_split l F a (by simpa using h) (by simpa using h2)
    simp only [List.take_succ_cons, placed, List.getD_cons_succ, List.drop_succ_cons]
    cases b <;> simp [ih]
theorem placed_all : ∀ (l : List Int) (F : List Bool), F.length = l.length → (∀ i, i < l.length → F.getD i true = true) → placed l F = l
  | [], _, _, _ => by cases ‹List Bool› <;> rfl
  | c :: l, [], h, _ => by simp at h
  | c :: l, b :: F, h, hh => by
    have h0 := hh 0 (by simp)
    simp at h0
    rw [placed, if_pos h0, placed_all l F (by simpa using h) (fun i hi => by have := hh (i + 1) (by simpa using hi); simpa using this)]
/-- How many stand before a. -/
def pcs (l : List Int) (F : List Bool) (a : Nat) : Nat := (placed (l.take a) (F.take a)).length
theorem pcs_mono (l : List Int) (F : List Bool) (hF : F.length = l.length) {a k : Nat} (h : a ≤ k) (hk : k ≤ l.length) : pcs l F a ≤ pcs l F k := by
  by_cases e : a = k
  · rw [e]; exact Nat.le_refl _
  unfold pcs
  have := placed_split (l.take k) (F.take k) a (by simp [hF]) (by simp; omega)
  rw [List.take_take, List.take_take, Nat.min_eq_left h] at this
  rw [this]; simp
theorem pcs_le (l : List Int) (F : List Bool) (hF : F.length = l.length) {a : Nat} (ha : a < l.length) : pcs l F a ≤ (placed l F).length := by
  have := placed_split l F a hF ha
  unfold pcs
  rw [this]; simp
theorem getD_set_eq (F : List Bool) (a : Nat) (b : Bool) (h : a < F.length) : (F.set a b).getD a true = b := by simp [List.getD, h]
theorem getD_set_ne (F : List Bool) (a k : Nat) (b : Bool) (h : a ≠ k) : (F.set a b).getD k true = F.getD k true := by simp [List.getD, h]
theorem take_set_le (F : List Bool) {a k : Nat} (b : Bool) (h : k ≤ a) : (F.set a b).take k = F.take k := by
  apply List.ext_getElem?
  intro i
  by_cases hi : i < k
  · simp [List.getElem?_take, hi, List.getElem?_set_ne (show a ≠ i by omega)]
  · simp [List.getElem?_take, hi]
theorem drop_set_gt (F : List Bool) {a k : Nat} (b : Bool) (h : a < k) : (F.set a b).drop k = F.drop k := by
  apply List.ext_getElem?
  intro i
  simp [List.getElem?_drop, List.getElem?_set_ne (show a ≠ k + i by omega)]
theorem take_set_gt (F : List Bool) {a k : Nat} (b : Bool) (h : a < k) : (F.set a b).take k = (F.take k).set a b := by
  apply List.ext_getElem?
  intro i
  by_cases e : a = i
  · subst e
    by_cases hf : a < F.length
    · rw [List.getElem?_take, if_pos h, List.getElem?_set_self hf, List.getElem?_set_self (by simp; omega)]
    · rw [List.getElem?_eq_none (by simp; omega), List.getElem?_eq_none (by simp; omega)]
  · rw [List.getElem?_set_ne e]
    simp [List.getElem?_take, List.getElem?_set_ne e]
theorem placed_set (l : List Int) (F : List Bool) (a : Nat) (b : Bool) (hF : F.length = l.length) (ha : a < l.length) :
    placed l (F.set a b) = placed (l.take a) (F.take a) ++ ((if b = true then [l.getD a 0] else []) ++ placed (l.drop (a + 1)) (F.drop (a + 1))) := by
  rw [placed_split l (F.set a b) a (by simpa using hF) ha, getD_set_eq _ _ _ (by omega), take_set_le F b (Nat.le_refl a), drop_set_gt F b (Nat.lt_succ_self a)]
theorem pcs_set (l : List Int) (F : List Bool) (a k : Nat) (b : Bool) (hF : F.length = l.length) (ha : a < l.length) (hk : k ≤ l.length) (h : a < k) :
    pcs l (F.set a b) k = pcs l F a + ((if b = true then 1 else 0) + (placed ((l.take k).drop (a + 1)) ((F.take k).drop (a + 1))).length) := by
  unfold pcs
  rw [take_set_gt F b h, placed_set (l.take k) (F.take k) a b (by simp [hF]) (by simp; omega), List.take_take, List.take_take, Nat.min_eq_left (by omega)]
  cases b <;> simp <;> omega
theorem pcs_set_le (l : List Int) (F : List Bool) (a k : Nat) (b : Bool) (h : k ≤ a) : pcs l (F.set a b) k = pcs l F k := by
  unfold pcs
  rw [take_set_le F b h]

end Go.Proofs.Ytmnnpfohjffniaa

namespace Go.Proofs.Ytmnnpfohjffniaa
set_option linter.unusedVariables false

/-- The first least code point among the first k that is not in place. -/
def leastK (l : List Int) (F : List Bool) : Nat → Option Nat
  | 0 => none
  | k + 1 => match leastK l F k with
    | none => if F.getD k true = false then some k else none
    | some a => if F.getD k true = false ∧ l.getD k 0 < l.getD a 0 then some k else some a
theorem leastK_none (l : List Int) (F : List Bool) : ∀ k, leastK l F k = none → ∀ i, i < k → F.getD i true = true
  | 0, _, i, hi => by omega
  | k + 1, h, i, hi => by
    rw [leastK] at h
    cases hk : leastK l F k with
    | none =>
      rw [hk] at h
      simp only at h
      split at h
      · cases h
      · rename_i hf
        by_cases e : i = k
        · rw [e]; simpa using hf
        · exact leastK_none l F k hk i (by omega)
    | some a =>
      rw [hk] at h
      simp only at h
      split at h <;> cases h
structure IsLeast (l : List Int) (F : List Bool) (k a : Nat) : Prop where
  lt : a < k
  out : F.getD a true = false
  min : ∀ i, i < k → F.getD i true = false → l.getD a 0 ≤ l.getD i 0 ∧ (l.getD i 0 = l.getD a 0 → a ≤ i)
theorem leastK_some (l : List Int) (F : List Bool) : ∀ k a, leastK l F k = some a → IsLeast l F k a
  | 0, a, h => by cases h
  | k + 1, a, h => by
    rw [leastK] at h
    cases hk : leastK l F k with
    | none =>
      rw [hk] at h
      simp only at h
      split at h
      · rename_i hf
        injection h with h
        subst h
        refine ⟨by omega, hf, fun i hi hi2 => ?_⟩
        by_cases e : i = k
        · rw [e]; exact ⟨Int.le_refl _, fun _ => Nat.le_refl _⟩
        · have := leastK_none l F k hk i (by omega)
          rw [this] at hi2; cases hi2
      · cases h
    | some b =>
      rw [hk] at h
      simp only at h
      have ih := leastK_some l F k b hk
      split at h
      · rename_i hf
        injection h with h
        subst h
        refine ⟨by omega, hf.1, fun i hi hi2 => ?_⟩
        by_cases e : i = k
        · rw [e]; exact ⟨Int.le_refl _, fun _ => Nat.le_refl _⟩
        · have := (ih.min i (by omega) hi2).1
          exact ⟨by omega, fun h => by omega⟩
      · rename_i hf
        injection h with h
        subst h
        refine ⟨by have := ih.lt; omega, ih.out, fun i hi hi2 => ?_⟩
        by_cases e : i = k
        · subst e
          have : ¬ l.getD i 0 < l.getD b 0 := fun h => hf ⟨hi2, h⟩
          exact ⟨by omega, fun _ => by have := ih.lt; omega⟩
        · exact ih.min i (by omega) hi2
theorem leastK_is {l : List Int} {F : List Bool} {k a : Nat} (h : IsLeast l F k a) : leastK l F k = some a := by
  cases hk : leastK l F k with
  | none => have := leastK_none l F k hk a h.lt; rw [h.out] at this; cases this
  | some b =>
    have hb := leastK_some l F k b hk
    have h1 := h.min b hb.lt hb.out
    have h2 := hb.min a h.lt h.out
    have e : l.getD a 0 = l.getD b 0 := by omega
    have h3 := h1.2 e.symm
    have h4 := h2.2 e
    congr 1
    omega

/-- The number that is written for the code point at a. -/
def stepV (l : List Int) (F : List Bool) (n : Int) (i a : Nat) : Nat := ((l.getD a 0 - n) * ((placed l F).length + 1 : Nat) + (pcs l F a : Nat) - (i : Nat)).toNat

def pencL (l : List Int) : Nat → List Bool → Int → Nat → Nat → Bool → List Int
  | 0, _, _, _, _, _ => []
  | f + 1, F, n, i, b, first => match leastK l F l.length with
    | none => []
    | some a => (pnumS b 0 (stepV l F n i a)).map pdigB ++ pencL l f (F.set a true) (l.getD a 0) (pcs l F a + 1) (adaptN (stepV l F n i a) ((placed l F).length + 1) first) false

def scpB (c : Int) : Bool := decide (0 ≤ c) && decide (c ≤ 1114111) && !(decide (55296 ≤ c) && decide (c ≤ 57343))
/-- One number: the code point and its index. -/
def stepD (P : List Int) (n : Int) (i v : Nat) : Int × Nat := (n + ((v + i) / (P.length + 1) : Nat), (v + i) % (P.length + 1))
def putD (P : List Int) (m : Int) (j : Nat) : List Int := P.take j ++ m :: P.drop j

def pdecL : Nat → List Int → Int → Nat → Nat → Bool → List Int → List Int × Int
  | _, P, _, _, _, _, [] => (P, 0)
  | 0, P, _, _, _, _, _ :: _ => ([], 12)
  | f + 1, P, n, i, b, first, c :: s => match takeD b 0 (c :: s) with
    | none => ([], 12)
    | some (D, r) =>
      if 2147483647 < pvalS b 0 D ∨ 1114111 < (stepD P n i (pvalS b 0 D)).1 then ([], 8)
      else if scpB (stepD P n i (pvalS b 0 D)).1 = false then ([], 12)
      else pdecL f (putD P (stepD P n i (pvalS b 0 D)).1 (stepD P n i (pvalS b 0 D)).2) (stepD P n i (pvalS b 0 D)).1 ((stepD P n i (pvalS b 0 D)).2 + 1) (adaptN (pvalS b 0 D) (P.length + 1) first) false r

/-- What is not in place lies behind the state. -/
def Ahead (l : List Int) (F : List Bool) (n : Int) (i : Nat) : Prop :=
  ∀ a, a < l.length → F.getD a true = false → n < l.getD a 0 ∨ (n = l.getD a 0 ∧ i ≤ pcs l F a)

theorem putD_placed {l : List Int} {F : List Bool} {a : Nat} (hF : F.length = l.length) (ha : a < l.length) (hf : F.getD a true = false) :
    putD (placed l F) (l.getD a 0) (pcs l F a) = placed l (F.set a true) ∧ (placed l (F.set a true)).length = (placed l F).length + 1 := by
  have h1 := placed_split l F a hF ha
  rw [if_neg (by rw [hf]; simp), List.nil_append] at h1
  have h2 := placed_set l F a true hF ha
  rw [if_pos rfl] at h2
  unfold putD pcs
  constructor
  · rw [h1, h2]; simp
  · rw [h1, h2]; simp; omega

theorem ahead_step {l : List Int} {F : List Bool} {n : Int} {i a : Nat} (hF : F.length = l.length) (hl : IsLeast l F l.length a) (h : Ahead l F n i) :
    n ≤ l.getD a 0 ∧ Ahead l (F.set a true) (l.getD a 0) (pcs l F a + 1) ∧
      (n = l.getD a 0 → i ≤ pcs l F a) := by
  have h0 := h a hl.lt hl.out
  refine ⟨by omega, fun k hk hk2 => ?_, fun e => by omega⟩
  have hne : a ≠ k := by
    intro e
    subst e
    rw [getD_set_eq F a true (by omega)] at hk2
    cases hk2
  rw [getD_set_ne F a k true hne] at hk2
  have hm := hl.min k hk hk2
  by_cases e : l.getD k 0 = l.getD a 0
  · right
    have hak : a < k := by have := hm.2 e; omega
    refine ⟨e.symm, ?_⟩
    rw [pcs_set l F a k true hF hl.lt (by omega) hak, if_pos rfl]
    omega
  · left; omega

theorem step_back {P : List Int} {n m : Int} {i j v : Nat} (hn : n ≤ m) (hj : j ≤ P.length) (hij : n = m → i ≤ j) (hi : i ≤ P.length) (hv : v = ((m - n) * (P.length + 1 : Nat) + (j : Nat) - (i : Nat)).toNat) :
    stepD P n i v = (m, j) ∧ (v : Int) = (m - n) * (P.length + 1 : Nat) + (j : Nat) - (i : Nat) := by
  obtain ⟨q, hq⟩ : ∃ q : Nat, m - n = q := ⟨(m - n).toNat, by omega⟩
  rw [hq] at hv
  have hvi : v + i = q * (P.length + 1) + j := by
    have h1 : ((q : Int) * ((P.length + 1 : Nat) : Int)) = ((q * (P.length + 1) : Nat) : Int) := by rw [Int.natCast_mul]
    rw [h1] at hv
    have h2 : i ≤ q * (P.length + 1) + j := by
      cases q with
      | zero => have := hij (by omega); omega
      | succ q => rw [Nat.succ_mul]; omega
    omega
  have e1 : (v + i) / (P.length + 1) = q := by
    rw [hvi, Nat.mul_comm, Nat.mul_add_div (by omega), Nat.div_eq_of_lt (by omega)]; omega
  have e2 : (v + i) % (P.length + 1) = j := by
    rw [hvi, Nat.mul_comm, Nat.mul_add_mod, Nat.mod_eq_of_lt (by omega)]
  constructor
  · unfold stepD
    rw [e1, e2]
    congr 1
    omega
  · rw [hq]
    have h1 : ((q : Int) * ((P.length + 1 : Nat) : Int)) = ((q * (P.length + 1) : Nat) : Int) := by rw [Int.natCast_mul]
    rw [h1]
    omega

theorem pnumS_ne (b j v : Nat) : pnumS b j v ≠ [] := by
  rw [pnumS]; split <;> simp

/-- The decoder undoes the encoder. -/
theorem pdec_enc (l : List Int) (hs : ∀ c ∈ l, scpB c = true) (hlen : l.length ≤ 256) : ∀ (f : Nat) (F : List Bool) (n : Int) (i b : Nat) (first : Bool) (g : Nat),
    F.length = l.length → Ahead l F n i → 0 ≤ n → i ≤ (placed l F).length → (placed l F).length + f = l.length → (pencL l f F n i b first).length ≤ g →
    pdecL g (placed l F) n i b first (pencL l f F n i b first) = (l, 0)
  | 0, F, n, i, b, first, g, hF, hA, hn, hi, hf, hg => by
    have e : placed l F = l := by
      apply placed_all l F hF
      intro k hk
      cases hb : F.getD k true with
      | true => rfl
      | false => have := (putD_placed hF hk hb).2; have h3 : (placed l (F.set k true)).length ≤ l.length := by
                   have : ∀ (l : List Int) (F : List Bool), (placed l F).length ≤ l.length := by
                     intro l
                     induction l with
                     | nil => intro F; cases F <;> simp [placed]
                     | cons c l ih => intro F; cases F with
                       | nil => simp [placed]
                       | cons b F => rw [placed]; have := ih F; split <;> simp <;> omega
                   exact this _ _
                 omega
    rw [pencL, pdecL.eq_def, e]
  | f + 1, F, n, i, b, first, g, hF, hA, hn, hi, hf, hg => by
    rw [pencL] at hg ⊢
    cases hk : leastK l F l.length with
    | none =>
      have := placed_all l F hF (leastK_none l F _ hk)
      rw [this] at hf
      omega
    | some a =>
      have hL := leastK_some l F _ a hk
      rw [hk] at hg
      simp only at hg ⊢
      obtain ⟨hna, hA', hij⟩ := ahead_step hF hL hA
      have hj := pcs_le l F hF hL.lt
      obtain ⟨hput, hplen⟩ := putD_placed hF hL.lt hL.out
      obtain ⟨hst, hv⟩ := step_back (P := placed l F) (v := stepV l F n i a) hna hj hij hi rfl
      have hsc := hs (l.getD a 0) (by simp [hL.lt])
      have hsc2 : 0 ≤ l.getD a 0 ∧ l.getD a 0 ≤ 1114111 := by
        unfold scpB at hsc
        simp only [Bool.and_eq_true, decide_eq_true_eq] at hsc
        exact ⟨hsc.1.1, hsc.1.2⟩
      have hvb : stepV l F n i a ≤ 2147483647 := by
        have h1 : (l.getD a 0 - n) * ((placed l F).length + 1 : Nat) ≤ 1114111 * 257 := by
          have h2 : ((placed l F).length + 1 : Nat) ≤ (257 : Int) := by omega
          calc (l.getD a 0 - n) * ((placed l F).length + 1 : Nat) ≤ 1114111 * ((placed l F).length + 1 : Nat) := Int.mul_le_mul_of_nonneg_right (by omega) (by omega)
            _ ≤ 1114111 * 257 := Int.mul_le_mul_of_nonneg_left h2 (by omega)
        omega
      obtain ⟨D, hD⟩ : ∃ D, pnumS b 0 (stepV l F n i a) = D := ⟨_, rfl⟩
      have hc : cmpl b 0 D := by rw [← hD]; exact cmpl_pnumS _ _ _
      have hval : pvalS b 0 D = stepV l F n i a := by rw [← hD]; exact pvalS_pnumS _ _ _
      rw [hD] at hg ⊢
      obtain ⟨R, hR⟩ : ∃ R, pencL l f (F.set a true) (l.getD a 0) (pcs l F a + 1) (adaptN (stepV l F n i a) ((placed l F).length + 1) first) false = R := ⟨_, rfl⟩
      rw [hR] at hg ⊢
      have ht := takeD_num b D 0 R hc
      have hne : D.map pdigB ++ R ≠ [] := by
        have : D ≠ [] := by rw [← hD]; exact pnumS_ne _ _ _
        simp [this]
      obtain ⟨c, s, hcs⟩ : ∃ c s, D.map pdigB ++ R = c :: s := by
        cases hx : D.map pdigB ++ R with
        | nil => exact absurd hx hne
        | cons c s => exact ⟨c, s, rfl⟩
      rw [hcs] at hg ht ⊢
      obtain ⟨g', rfl⟩ : ∃ g', g = g' + 1 := ⟨g - 1, by simp at hg; omega⟩
      rw [pdecL, ht]
      simp only
      rw [hval, hst]
      rw [if_neg (by simp only; omega), if_neg (by rw [hsc]; simp), hput, ← hR]
      apply pdec_enc l hs hlen f (F.set a true) (l.getD a 0) (pcs l F a + 1) _ false g' (by simpa using hF) hA' hsc2.1 (by rw [hplen]; omega) (by rw [hplen]; omega)
      rw [hR]
      have hl2 : (D.map pdigB ++ R).length = (c :: s).length := by rw [hcs]
      have : D ≠ [] := by rw [← hD]; exact pnumS_ne _ _ _
      have : 0 < D.length := List.length_pos_iff.2 this
      simp at hl2 hg
      omega

theorem placed_find : ∀ (l : List Int) (F : List Bool) (A : List Int) (m : Int) (B : List Int), F.length = l.length → placed l F = A ++ m :: B →
    ∃ a, a < l.length ∧ F.getD a true = true ∧ l.getD a 0 = m ∧ placed (l.take a) (F.take a) = A ∧ placed (l.drop (a + 1)) (F.drop (a + 1)) = B
  | [], F, A, m, B, _, h => by cases F <;> simp [placed] at h
  | c :: l, [], A, m, B, h, _ => by simp at h
  | c :: l, b :: F, A, m, B, hF, h => by
    rw [placed] at h
    cases b with
    | true =>
      simp only [if_true] at h
      cases A with
      | nil =>
        rw [List.nil_append] at h
        injection h with h1 h2
        exact ⟨0, by simp, rfl, by simpa using h1, rfl, by simpa using h2⟩
      | cons x A =>
        rw [List.cons_append] at h
        injection h with h1 h2
        obtain ⟨a, i1, i2, i3, i4, i5⟩ := placed_find l F A m B (by simpa using hF) h2
        exact ⟨a + 1, by simpa using i1, by simpa using i2, by simpa using i3, by simp [placed, i4, h1], by simpa using i5⟩
    | false =>
      simp only [Bool.false_eq_true, if_false] at h
      obtain ⟨a, i1, i2, i3, i4, i5⟩ := placed_find l F A m B (by simpa using hF) h
      exact ⟨a + 1, by simpa using i1, by simpa using i2, by simpa using i3, by simp [placed, i4], by simpa using i5⟩

/-- The encoder writes what the decoder accepts. -/
theorem penc_dec : ∀ (f : Nat) (P : List Int) (n : Int) (i b : Nat) (first : Bool) (s out : List Int), (∀ c ∈ s, ¬ (65 ≤ c ∧ c ≤ 90)) → i ≤ P.length →
    pdecL f P n i b first s = (out, 0) →
    ∃ F : List Bool, F.length = out.length ∧ placed out F = P ∧ Ahead out F n i ∧ P.length ≤ out.length ∧ ∀ g, out.length ≤ P.length + g → pencL out g F n i b first = s
  | f, P, n, i, b, first, [], out, hs, hi, h => by
    have e : P = out := by
      cases f <;> (rw [pdecL] at h; injection h)
    subst e
    have hall : ∀ k, k < P.length → (List.replicate P.length true).getD k true = true := by
      intro k hk; simp [List.getD, List.getElem?_replicate, hk]
    refine ⟨List.replicate P.length true, by simp, placed_all _ _ (by simp) hall, fun a ha hf => ?_, Nat.le_refl _, fun g _ => ?_⟩
    · rw [hall a ha] at hf; cases hf
    · cases g with
      | zero => rfl
      | succ g =>
        rw [pencL]
        cases hk : leastK P (List.replicate P.length true) P.length with
        | none => rfl
        | some a => have hx := leastK_some _ _ _ _ hk; have := hx.out; rw [hall a hx.lt] at this; cases this
  | 0, P, n, i, b, first, c :: s, out, hs, hi, h => by rw [pdecL] at h; injection h with _ h; simp at h
  | f + 1, P, n, i, b, first, c :: s, out, hs, hi, h => by
    rw [pdecL] at h
    cases ht : takeD b 0 (c :: s) with
    | none => rw [ht] at h; simp only at h; injection h with _ h; simp at h
    | some X =>
      obtain ⟨D, r⟩ := X
      rw [ht] at h
      simp only at h
      obtain ⟨hc, hlow, A, hA, hAne⟩ := takeD_some b (c :: s) 0 D r ht
      obtain ⟨v, hv⟩ : ∃ v, pvalS b 0 D = v := ⟨_, rfl⟩
      rw [hv] at h
      obtain ⟨⟨m, j⟩, hmj⟩ : ∃ y, stepD P n i v = y := ⟨_, rfl⟩
      rw [hmj] at h
      simp only at h
      split at h
      · injection h with _ h; simp at h
      · split at h
        · injection h with _ h; simp at h
        · have hj : j ≤ P.length := by
            have : j = (v + i) % (P.length + 1) := by have := congrArg Prod.snd hmj; exact this.symm
            have := Nat.mod_lt (v + i) (show P.length + 1 > 0 by omega)
            omega
          have hm : m = n + ((v + i) / (P.length + 1) : Nat) := by have := congrArg Prod.fst hmj; exact this.symm
          have hj2 : j = (v + i) % (P.length + 1) := by have := congrArg Prod.snd hmj; exact this.symm
          have hlp : (putD P m j).length = P.length + 1 := by unfold putD; simp; omega
          obtain ⟨F', e1, e2, e3, e4, e5⟩ := penc_dec f (putD P m j) m (j + 1) _ false r out (fun x hx => hs x (by rw [hA]; simp [hx])) (by rw [hlp]; omega) h
          obtain ⟨a, a1, a2, a3, a4, a5⟩ := placed_find out F' (P.take j) m (P.drop j) e1 e2
          have hpa : pcs out F' a = j := by unfold pcs; rw [a4]; simp; omega
          have hF : (F'.set a false).length = out.length := by simpa using e1
          have hP : placed out (F'.set a false) = P := by
            rw [placed_set out F' a false e1 a1, a4, a5]; simp
          have hpa2 : pcs out (F'.set a false) a = j := by rw [pcs_set_le _ _ _ _ _ (Nat.le_refl a)]; exact hpa
          have hnm : n ≤ m := by rw [hm]; exact Int.le_add_of_nonneg_right (Int.natCast_nonneg _)
          have hq : n = m → i ≤ j := by
            intro e
            have h0 : (v + i) / (P.length + 1) = 0 := by omega
            have h1 : v + i < P.length + 1 := by
              rcases Nat.lt_or_ge (v + i) (P.length + 1) with h | h
              · exact h
              · have := Nat.div_pos h (by omega); omega
            rw [Nat.mod_eq_of_lt h1] at hj2
            omega
          have hlate : ∀ k, k < out.length → (F'.set a false).getD k true = false → a ≠ k → m < out.getD k 0 ∨ (m = out.getD k 0 ∧ a < k ∧ j ≤ pcs out (F'.set a false) k) := by
            intro k hk hk2 hne
            rw [getD_set_ne F' a k false hne] at hk2
            rcases e3 k hk hk2 with h | ⟨h, h2⟩
            · exact .inl h
            · right
              have hak : a < k := by
                rcases Nat.lt_or_ge a k with h | h
                · exact h
                · have := pcs_mono out F' e1 h (by omega); omega
              refine ⟨h, hak, ?_⟩
              rw [pcs_set out F' a k false e1 a1 (by omega) hak, hpa]
              omega
          have hL : IsLeast out (F'.set a false) out.length a := by
            refine ⟨a1, getD_set_eq _ _ _ (by omega), fun k hk hk2 => ?_⟩
            by_cases e : a = k
            · subst e; exact ⟨Int.le_refl _, fun _ => Nat.le_refl _⟩
            · rcases hlate k hk hk2 e with h | ⟨h, h2, _⟩
              · rw [a3]; exact ⟨by omega, fun e => by omega⟩
              · rw [a3]; exact ⟨by omega, fun _ => by omega⟩
          refine ⟨F'.set a false, hF, hP, fun k hk hk2 => ?_, by rw [hlp] at e4; omega, fun g hg => ?_⟩
          · by_cases e : a = k
            · subst e
              rw [a3, hpa2]
              by_cases e : n = m
              · exact .inr ⟨e, hq e⟩
              · exact .inl (by omega)
            · rcases hlate k hk hk2 e with h | ⟨h, h2, h3⟩
              · exact .inl (by omega)
              · by_cases e : n = m
                · right; exact ⟨by omega, by have := hq e; omega⟩
                · left; omega
          · rw [hlp] at e4 e5
            obtain ⟨g', rfl⟩ : ∃ g', g = g' + 1 := ⟨g - 1, by omega⟩
            rw [pencL, leastK_is hL]
            simp only
            have hsv : stepV out (F'.set a false) n i a = v := by
              unfold stepV
              rw [hP, a3, hpa2, hm]
              have h1 := Nat.div_add_mod (v + i) (P.length + 1)
              have h2 : (n + ((v + i) / (P.length + 1) : Nat) - n) * ((P.length + 1 : Nat) : Int) = (((P.length + 1) * ((v + i) / (P.length + 1)) : Nat) : Int) := by
                rw [Int.natCast_mul, Int.mul_comm]; congr 1; omega
              rw [h2]
              omega
            have hset : (F'.set a false).set a true = F' := by
              rw [List.set_set]
              apply List.ext_getElem?
              intro k
              by_cases e : a = k
              · subst e
                rw [List.getElem?_set_self (by omega)]
                have : F'.getD a true = true := a2
                rw [List.getD_eq_getElem?_getD] at this
                rw [List.getElem?_eq_getElem (by omega)] at this ⊢
                simpa using this.symm
              · rw [List.getElem?_set_ne e]
            rw [hsv, hset, a3, hpa2, hP, e5 g' (by omega), ← hv, pnumS_pvalS b D 0 hc]
            exact (hlow hs).symm

end Go.Proofs.Ytmnnpfohjffniaa

namespace Go.Proofs.Ytmnnpfohjffniaa
set_option linter.unusedVariables false

def basB (c : Int) : Bool := decide (c < 128)
def basF (l : List Int) : List Bool := l.map basB
def basS (l : List Int) : List Int := placed l (basF l)
def frontS (P : List Int) : List Int := P ++ (if P = [] then [] else [45])
def encP (l : List Int) : List Int × Int :=
  if 256 < l.length then ([], 7) else if l.all scpB = false then ([], 3)
  else (frontS (basS l) ++ pencL l (l.length - (basS l).length) (basF l) 128 0 72 true, 0)

/-- The last hyphen that is not the first byte; 0 if there is none. -/
def hyK (s : List Int) : Nat → Nat
  | 0 => 0
  | k + 1 => if 1 ≤ k ∧ s.getD k 0 = 45 then k else hyK s k
def hyS (s : List Int) : Nat := hyK s s.length
def decP (s : List Int) : List Int × Int :=
  if 2048 < s.length then ([], 7) else if ((s.take (hyS s)).any fun c => decide (127 < c)) = true then ([], 12)
  else pdecL s.length (s.take (hyS s)) 128 0 72 true (s.drop (if hyS s = 0 then 0 else hyS s + 1))

theorem hyK_none (s : List Int) : ∀ k, (∀ i, 1 ≤ i → i < k → s.getD i 0 ≠ 45) → hyK s k = 0
  | 0, _ => rfl
  | k + 1, h => by
    rw [hyK, if_neg (fun e => h k e.1 (by omega) e.2)]
    exact hyK_none s k (fun i h1 h2 => h i h1 (by omega))
theorem hyK_at (s : List Int) (p : Nat) (hp : 1 ≤ p) (hs : s.getD p 0 = 45) : ∀ k, p < k → (∀ i, p < i → i < k → s.getD i 0 ≠ 45) → hyK s k = p
  | 0, h, _ => by omega
  | k + 1, h, hh => by
    rw [hyK]
    by_cases e : k = p
    · subst e; rw [if_pos ⟨hp, hs⟩]
    · rw [if_neg (fun e2 => hh k (by omega) (by omega) e2.2)]
      exact hyK_at s p hp hs k (by omega) (fun i h1 h2 => hh i h1 (by omega))
theorem hyK_bd (s : List Int) : ∀ k, hyK s k = 0 ∨ (1 ≤ hyK s k ∧ hyK s k < k ∧ s.getD (hyK s k) 0 = 45)
  | 0 => .inl rfl
  | k + 1 => by
    rw [hyK]
    split
    · rename_i h; exact .inr ⟨h.1, by omega, h.2⟩
    · rcases hyK_bd s k with h | h
      · exact .inl h
      · exact .inr ⟨h.1, by omega, h.2.2⟩

/-! lengths, and what the digits are -/
theorem pnumS_len (b : Nat) : ∀ (k j v : Nat), v < 10 ^ k → (pnumS b j v).length ≤ k + 1
  | 0, j, v, h => by
    have := thr_bd b j
    rw [pnumS, dif_pos (by omega)]; simp
  | k + 1, j, v, h => by
    have ht := thr_bd b j
    rw [pnumS]
    split
    · simp
    · rename_i hv
      have h1 : (v - thr b j) / (36 - thr b j) ≤ v / 10 :=
        Nat.le_trans (Nat.div_le_div_left (by omega) (by omega)) (Nat.div_le_div_right (by omega))
      have h2 : v / 10 < 10 ^ k := by
        rw [Nat.div_lt_iff_lt_mul (by omega)]
        rw [Nat.pow_succ] at h
        exact h
      have := pnumS_len b k (j + 1) ((v - thr b j) / (36 - thr b j)) (by omega)
      simp; omega

theorem pencL_dig (l : List Int) : ∀ (f : Nat) (F : List Bool) (n : Int) (i b : Nat) (first : Bool), ∀ c ∈ pencL l f F n i b first, (97 ≤ c ∧ c ≤ 122) ∨ (48 ≤ c ∧ c ≤ 57)
  | 0, F, n, i, b, first, c, h => by rw [pencL] at h; cases h
  | f + 1, F, n, i, b, first, c, h => by
    rw [pencL] at h
    cases hk : leastK l F l.length with
    | none => rw [hk] at h; cases h
    | some a =>
      rw [hk] at h
      simp only at h
      rcases List.mem_append.1 h with h | h
      · obtain ⟨d, hd, rfl⟩ := List.mem_map.1 h
        exact pdigB_range (cmpl_lt b _ 0 (cmpl_pnumS _ _ _) d hd)
      · exact pencL_dig l f _ _ _ _ _ c h

theorem scp_bd {c : Int} (h : scpB c = true) : 0 ≤ c ∧ c ≤ 1114111 := by
  unfold scpB at h
  simp only [Bool.and_eq_true, decide_eq_true_eq] at h
  exact ⟨h.1.1, h.1.2⟩

theorem stepV_bd {l : List Int} (hs : ∀ c ∈ l, scpB c = true) (hlen : l.length ≤ 256) {F : List Bool} {n : Int} {i a : Nat} (hF : F.length = l.length) (hn : 0 ≤ n) (hP : (placed l F).length ≤ 256) (ha : a < l.length) : stepV l F n i a ≤ 286326783 := by
  have hj := pcs_le l F hF ha
  have hsc2 := scp_bd (hs (l.getD a 0) (by simp [ha]))
  unfold stepV
  have h1 : (l.getD a 0 - n) * ((placed l F).length + 1 : Nat) ≤ 1114111 * 257 := by
    have h2 : ((placed l F).length + 1 : Nat) ≤ (257 : Int) := by omega
    calc (l.getD a 0 - n) * ((placed l F).length + 1 : Nat) ≤ 1114111 * ((placed l F).length + 1 : Nat) := Int.mul_le_mul_of_nonneg_right (by omega) (by omega)
      _ ≤ 1114111 * 257 := Int.mul_le_mul_of_nonneg_left h2 (by omega)
  omega

theorem placed_len : ∀ (l : List Int) (F : List Bool), (placed l F).length ≤ l.length
  | [], F => by cases F <;> simp [placed]
  | c :: l, [] => by simp [placed]
  | c :: l, b :: F => by rw [placed]; have := placed_len l F; split <;> simp <;> omega

theorem pencL_len (l : List Int) (hs : ∀ c ∈ l, scpB c = true) (hlen : l.length ≤ 256) : ∀ (f : Nat) (F : List Bool) (n : Int) (i b : Nat) (first : Bool), F.length = l.length → 0 ≤ n → (pencL l f F n i b first).length ≤ 10 * f
  | 0, F, n, i, b, first, hF, hn => by rw [pencL]; simp
  | f + 1, F, n, i, b, first, hF, hn => by
    rw [pencL]
    cases hk : leastK l F l.length with
    | none => simp
    | some a =>
      have hL := leastK_some l F _ a hk
      have hv := stepV_bd hs hlen hF hn (Nat.le_trans (placed_len l F) hlen) hL.lt (i := i)
      have h1 := pnumS_len b 9 0 (stepV l F n i a) (by omega)
      have ih := pencL_len l hs hlen f (F.set a true) (l.getD a 0) (pcs l F a + 1) (adaptN (stepV l F n i a) ((placed l F).length + 1) first) false (by simpa using hF) (scp_bd (hs _ (by simp [hL.lt]))).1
      rw [List.length_append, List.length_map]
      omega

/-! the basic code points are in place -/
theorem basF_at (l : List Int) (a : Nat) (h : a < l.length) : (basF l).getD a true = basB (l.getD a 0) := by
  unfold basF; simp [List.getD, h]
theorem bas_ahead (l : List Int) : Ahead l (basF l) 128 0 := by
  intro a ha hf
  rw [basF_at l a ha] at hf
  unfold basB at hf
  rw [decide_eq_false_iff_not] at hf
  by_cases e : (128 : Int) = l.getD a 0
  · exact .inr ⟨e, Nat.zero_le _⟩
  · exact .inl (by omega)
theorem placed_mem : ∀ (l : List Int) (F : List Bool) (c : Int), c ∈ placed l F → c ∈ l
  | [], F, c, h => by cases F <;> simp [placed] at h
  | x :: l, [], c, h => by simp [placed] at h
  | x :: l, b :: F, c, h => by
    rw [placed] at h
    split at h
    · rcases List.mem_cons.1 h with rfl | h
      · simp
      · exact List.mem_cons_of_mem _ (placed_mem l F c h)
    · exact List.mem_cons_of_mem _ (placed_mem l F c h)
theorem basS_lt : ∀ (l : List Int), ∀ c ∈ basS l, c < 128
  | [], c, h => by simp [basS, basF, placed] at h
  | x :: l, c, h => by
    have ih := basS_lt l c
    unfold basS basF at h ih
    rw [List.map_cons, placed] at h
    split at h
    · rename_i hb
      rcases List.mem_cons.1 h with rfl | h
      · unfold basB at hb; exact of_decide_eq_true hb
      · exact ih h
    · exact ih h
theorem placed_in : ∀ (l : List Int) (F : List Bool) (a : Nat), F.length = l.length → a < l.length → F.getD a true = true → l.getD a 0 ∈ placed l F
  | l, F, a, hF, ha, h => by rw [placed_split l F a hF ha, if_pos h]; simp

/-- What Encode wrote, Decode reads. -/
theorem back_ok (l : List Int) (hs : l.all scpB = true) (hlen : l.length ≤ 186) : decP (encP l).1 = (l, 0) ∧ (encP l).2 = 0 ∧ (encP l).1.length ≤ 2048 := by
  have hs2 : ∀ c ∈ l, scpB c = true := List.all_eq_true.1 hs
  obtain ⟨P, hP⟩ : ∃ P, basS l = P := ⟨_, rfl⟩
  obtain ⟨R, hR⟩ : ∃ R, pencL l (l.length - P.length) (basF l) 128 0 72 true = R := ⟨_, rfl⟩
  have e : encP l = (frontS P ++ R, 0) := by
    unfold encP
    rw [if_neg (by omega), if_neg (by rw [hs]; simp), hP, hR]
  have hpl : P.length ≤ l.length := by rw [← hP]; exact placed_len _ _
  have hFl : (basF l).length = l.length := by unfold basF; simp
  have hd : ∀ c ∈ R, c ≠ 45 := fun c hc => by rw [← hR] at hc; have := pencL_dig l _ _ _ _ _ _ c hc; omega
  have hRl : R.length ≤ 10 * (l.length - P.length) := by rw [← hR]; exact pencL_len l hs2 (by omega) _ _ _ _ _ _ hFl (by omega)
  have hfl : (frontS P).length ≤ P.length + 1 := by unfold frontS; split <;> simp
  have hlt : (frontS P ++ R).length ≤ 2048 := by rw [List.length_append]; omega
  have hde : ∀ g, R.length ≤ g → pdecL g P 128 0 72 true R = (l, 0) := by
    intro g hg
    have := pdec_enc l hs2 (by omega) (l.length - P.length) (basF l) 128 0 72 true g hFl (bas_ahead l) (by omega) (Nat.zero_le _) (by unfold basS at hP; rw [hP]; omega) (by rw [hR]; exact hg)
    rw [hR] at this
    unfold basS at hP
    rwa [hP] at this
  rw [e]
  refine ⟨?_, rfl, hlt⟩
  have hPb : ∀ c ∈ P, c < 128 := by rw [← hP]; exact basS_lt l
  by_cases h0 : P = []
  · subst h0
    have hf : frontS [] = [] := rfl
    have hh : hyS R = 0 := hyK_none R _ (fun i h1 h2 => hd _ (by simp [h2]))
    rw [hf, List.nil_append]
    unfold decP
    rw [if_neg (by rw [hf] at hlt; simpa using hlt), hh, if_neg (by simp), if_pos rfl, List.take_zero, List.drop_zero]
    exact hde _ (Nat.le_refl _)
  · have hf : frontS P = P ++ [45] := by unfold frontS; rw [if_neg h0]
    have hp1 : 1 ≤ P.length := List.length_pos_iff.2 h0
    have hh : hyS (P ++ [45] ++ R) = P.length := by
      unfold hyS
      refine hyK_at _ P.length hp1 (by simp [List.getD]) _ (by simp) (fun i h1 h2 => ?_)
      have h3 : i - (P.length + 1) < R.length := by simp at h2; omega
      have h4 : (P ++ [45] ++ R).getD i 0 = R.getD (i - (P.length + 1)) 0 := by
        rw [List.getD_eq_getElem?_getD, List.getD_eq_getElem?_getD, List.getElem?_append_right (by simp; omega)]
        simp
      rw [h4]
      exact hd _ (by simp [h3])
    rw [hf] at hlt ⊢
    have ht : (P ++ [45] ++ R).take P.length = P := by simp
    have hdr : (P ++ [45] ++ R).drop (P.length + 1) = R := by
      rw [List.drop_append]; simp
    unfold decP
    rw [if_neg (by simp only; omega), hh, ht, if_neg (by
      rw [Bool.not_eq_true, List.any_eq_false]
      intro c hc
      have := hPb c hc
      simp; omega), if_neg (by omega), hdr]
    exact hde _ (by simp only [List.length_append]; omega)

theorem pdecL_sca : ∀ (f : Nat) (P : List Int) (n : Int) (i b : Nat) (first : Bool) (s out : List Int), pdecL f P n i b first s = (out, 0) → (∀ c ∈ P, scpB c = true) → (∀ c ∈ out, scpB c = true) ∧ out.length ≤ P.length + s.length
  | f, P, n, i, b, first, [], out, h, hP => by
    have e : P = out := by
      cases f <;> (rw [pdecL] at h; injection h)
    subst e
    exact ⟨hP, by simp⟩
  | 0, P, n, i, b, first, c :: s, out, h, hP => by rw [pdecL] at h; injection h with _ h; simp at h
  | f + 1, P, n, i, b, first, c :: s, out, h, hP => by
    rw [pdecL] at h
    cases ht : takeD b 0 (c :: s) with
    | none => rw [ht] at h; simp only at h; injection h with _ h; simp at h
    | some X =>
      obtain ⟨D, r⟩ := X
      rw [ht] at h
      simp only at h
      obtain ⟨_, _, A, hA, hAne⟩ := takeD_some b (c :: s) 0 D r ht
      split at h
      · injection h with _ h; simp at h
      · split at h
        · injection h with _ h; simp at h
        · rename_i hsc
          have hsc2 : scpB (stepD P n i (pvalS b 0 D)).1 = true := by simpa using hsc
          obtain ⟨⟨m, j⟩, hmj⟩ : ∃ y, stepD P n i (pvalS b 0 D) = y := ⟨_, rfl⟩
          rw [hmj] at h hsc2
          have hj : j ≤ P.length := by
            have : j = (pvalS b 0 D + i) % (P.length + 1) := by have := congrArg Prod.snd hmj; exact this.symm
            have := Nat.mod_lt (pvalS b 0 D + i) (show P.length + 1 > 0 by omega)
            omega
          have ih := pdecL_sca f (putD P m j) m (j + 1) _ false r out h (by
            intro x hx
            unfold putD at hx
            rcases List.mem_append.1 hx with hx | hx
            · exact hP x (List.mem_of_mem_take hx)
            · rcases List.mem_cons.1 hx with rfl | hx
              · exact hsc2
              · exact hP x (List.mem_of_mem_drop hx))
          refine ⟨ih.1, ?_⟩
          have hlp : (putD P m j).length = P.length + 1 := by unfold putD; simp; omega
          have hl2 : (c :: s).length = A.length + r.length := by rw [hA]; simp
          have : 0 < A.length := List.length_pos_iff.2 hAne
          have := ih.2
          omega

/-- What Decode accepts, Encode writes, if it has no capital letters. -/
theorem uniq_ok (s out : List Int) (hb : ∀ c ∈ s, 0 ≤ c) (hlow : ∀ c ∈ s, ¬ (65 ≤ c ∧ c ≤ 90)) (hlen : s.length ≤ 256) (h : decP s = (out, 0)) : encP out = (s, 0) ∧ out.length ≤ s.length ∧ out.all scpB = true := by
  unfold decP at h
  rw [if_neg (by omega)] at h
  split at h
  · injection h with _ h; simp at h
  · rename_i hany
    obtain ⟨P, hP⟩ : ∃ P, s.take (hyS s) = P := ⟨_, rfl⟩
    obtain ⟨R, hR⟩ : ∃ R, s.drop (if hyS s = 0 then 0 else hyS s + 1) = R := ⟨_, rfl⟩
    rw [hP] at h hany
    rw [hR] at h
    have hPb : ∀ c ∈ P, 0 ≤ c ∧ c ≤ 127 := by
      intro c hc
      rw [Bool.not_eq_true, List.any_eq_false] at hany
      have h1 := hany c hc
      simp only [decide_eq_true_eq] at h1
      have h2 := hb c (by rw [← hP] at hc; exact List.mem_of_mem_take hc)
      omega
    have hsR : s = frontS P ++ R := by
      rcases hyK_bd s s.length with h0 | ⟨h1, h2, h3⟩
      · have h0' : hyS s = 0 := h0
        rw [h0'] at hP hR
        rw [if_pos rfl, List.drop_zero] at hR
        rw [List.take_zero] at hP
        rw [← hP, ← hR]; rfl
      · have e : hyS s = hyK s s.length := rfl
        rw [← e] at h1 h2 h3
        rw [if_neg (by omega)] at hR
        have hPl : P.length = hyS s := by rw [← hP, List.length_take]; omega
        have hne : P ≠ [] := by intro e2; rw [e2] at hPl; simp at hPl; omega
        unfold frontS
        rw [if_neg hne, ← hP, ← hR, List.append_assoc]
        have h4 : s.drop (hyS s) = 45 :: s.drop (hyS s + 1) := by
          rw [List.drop_eq_getElem_cons h2]
          rw [List.getD_eq_getElem?_getD, List.getElem?_eq_getElem h2, Option.getD_some] at h3
          rw [h3]
        have := List.take_append_drop (hyS s) s
        rw [h4] at this
        simpa using this.symm
    have hRs : ∀ c ∈ R, ¬ (65 ≤ c ∧ c ≤ 90) := fun c hc => hlow c (by rw [hsR]; simp [hc])
    obtain ⟨F, f1, f2, f3, f4, f5⟩ := penc_dec s.length P 128 0 72 true R out hRs (Nat.zero_le _) h
    have hsca := pdecL_sca s.length P 128 0 72 true R out h (by
      intro c hc
      have := hPb c hc
      unfold scpB; simp; omega)
    have hRl : P.length + R.length ≤ s.length := by
      have := congrArg List.length hsR
      rw [List.length_append] at this
      have : P.length ≤ (frontS P).length := by unfold frontS; simp
      omega
    have hF : F = basF out := by
      apply List.ext_getElem (by unfold basF; simpa using f1)
      intro a ha ha2
      have ha3 : a < out.length := by omega
      have e1 : (basF out)[a] = basB (out.getD a 0) := by
        have := basF_at out a ha3
        rwa [List.getD_eq_getElem?_getD, List.getElem?_eq_getElem ha2, Option.getD_some] at this
      have e2 : F[a] = F.getD a true := by
        rw [List.getD_eq_getElem?_getD, List.getElem?_eq_getElem ha, Option.getD_some]
      rw [e1, e2]
      unfold basB
      cases hf : F.getD a true with
      | true =>
        have := placed_in out F a f1 ha3 hf
        rw [f2] at this
        have := hPb _ this
        rw [decide_eq_true (by omega)]
      | false =>
        have := f3 a ha3 hf
        rw [decide_eq_false (by omega)]
    subst hF
    have hbs : basS out = P := f2
    refine ⟨?_, by have := hsca.2; omega, List.all_eq_true.2 hsca.1⟩
    unfold encP
    rw [if_neg (by have := hsca.2; omega), if_neg (by rw [List.all_eq_true.2 hsca.1]; simp), hbs, f5 _ (by omega), ← hsR]

/-! capital letters -/
inductive CaseEq : List Int → List Int → Prop
  | nil : CaseEq [] []
  | cons {c d : Int} {s t : List Int} (h : digV c = digV d) (r : CaseEq s t) : CaseEq (c :: s) (d :: t)
theorem takeD_case (b : Nat) : ∀ (s t : List Int) (j : Nat), CaseEq s t → (takeD b j s = none ∧ takeD b j t = none) ∨ ∃ D r q, takeD b j s = some (D, r) ∧ takeD b j t = some (D, q) ∧ CaseEq r q
  | _, _, j, .nil => .inl ⟨rfl, rfl⟩
  | _, _, j, .cons (c := c) (d := d) (s := s) (t := t) h r => by
    rw [takeD, takeD, h]
    cases hd : digV d with
    | none => exact .inl ⟨rfl, rfl⟩
    | some x =>
      simp only
      by_cases hx : x < thr b j
      · rw [if_pos hx, if_pos hx]; exact .inr ⟨_, _, _, rfl, rfl, r⟩
      · rw [if_neg hx, if_neg hx]
        rcases takeD_case b s t (j + 1) r with ⟨e1, e2⟩ | ⟨D, u, v, e1, e2, e3⟩
        · rw [e1, e2]; exact .inl ⟨rfl, rfl⟩
        · rw [e1, e2]; exact .inr ⟨_, _, _, rfl, rfl, e3⟩
theorem pdecL_case : ∀ (f : Nat) (P : List Int) (n : Int) (i b : Nat) (first : Bool) (s t : List Int), CaseEq s t → pdecL f P n i b first s = pdecL f P n i b first t
  | f, P, n, i, b, first, _, _, .nil => rfl
  | 0, P, n, i, b, first, _, _, .cons h r => by rw [pdecL, pdecL]
  | f + 1, P, n, i, b, first, _, _, .cons (c := c) (d := d) (s := s) (t := t) h r => by
    rw [pdecL, pdecL]
    rcases takeD_case b (c :: s) (d :: t) 0 (.cons h r) with ⟨e1, e2⟩ | ⟨D, u, v, e1, e2, e3⟩
    · rw [e1, e2]
    · rw [e1, e2]
      simp only
      rw [pdecL_case f _ _ _ _ _ u v e3]

end Go.Proofs.Ytmnnpfohjffniaa

namespace Go.Proofs.Ytmnnpfohjffniaa
set_option linter.unusedVariables false

theorem pdecL_out : ∀ (f : Nat) (P : List Int) (n : Int) (i b : Nat) (first : Bool) (s out : List Int) (e : Int), pdecL f P n i b first s = (out, e) → (e = 0 ∧ out.length ≤ P.length + s.length) ∨ (out = [] ∧ (e = 12 ∨ e = 8))
  | f, P, n, i, b, first, [], out, e, h => by
    have e1 : P = out ∧ 0 = e := by
      cases f <;> (rw [pdecL] at h; injection h with h1 h2; exact ⟨h1, h2⟩)
    exact .inl ⟨e1.2.symm, by rw [e1.1]; simp⟩
  | 0, P, n, i, b, first, c :: s, out, e, h => by rw [pdecL] at h; injection h with h1 h2; exact .inr ⟨h1.symm, .inl h2.symm⟩
  | f + 1, P, n, i, b, first, c :: s, out, e, h => by
    rw [pdecL] at h
    cases ht : takeD b 0 (c :: s) with
    | none => rw [ht] at h; simp only at h; injection h with h1 h2; exact .inr ⟨h1.symm, .inl h2.symm⟩
    | some X =>
      obtain ⟨D, r⟩ := X
      rw [ht] at h
      simp only at h
      obtain ⟨_, _, A, hA, hAne⟩ := takeD_some b (c :: s) 0 D r ht
      split at h
      · injection h with h1 h2; exact .inr ⟨h1.symm, .inr h2.symm⟩
      · split at h
        · injection h with h1 h2; exact .inr ⟨h1.symm, .inl h2.symm⟩
        · obtain ⟨⟨m, j⟩, hmj⟩ : ∃ y, stepD P n i (pvalS b 0 D) = y := ⟨_, rfl⟩
          rw [hmj] at h
          have hj : j ≤ P.length := by
            have : j = (pvalS b 0 D + i) % (P.length + 1) := by have := congrArg Prod.snd hmj; exact this.symm
            have := Nat.mod_lt (pvalS b 0 D + i) (show P.length + 1 > 0 by omega)
            omega
          rcases pdecL_out f (putD P m j) m (j + 1) _ false r out e h with ⟨h1, h2⟩ | h1
          · refine .inl ⟨h1, ?_⟩
            have hlp : (putD P m j).length = P.length + 1 := by unfold putD; simp; omega
            have hl2 : (c :: s).length = A.length + r.length := by rw [hA]; simp
            have : 0 < A.length := List.length_pos_iff.2 hAne
            omega
          · exact .inr h1

theorem decP_out {L out : List Int} {e : Int} (h : decP L = (out, e)) : out.length ≤ 2048 ∧ ((e = 0 ∧ L.length ≤ 2048) ∨ (out = [] ∧ (e = 12 ∨ e = 8 ∨ (e = 7 ∧ 2048 < L.length)))) := by
  unfold decP at h
  split at h
  · rename_i h0
    injection h with h1 h2
    exact ⟨by rw [← h1]; simp, .inr ⟨h1.symm, .inr (.inr ⟨h2.symm, h0⟩)⟩⟩
  · split at h
    · injection h with h1 h2
      exact ⟨by rw [← h1]; simp, .inr ⟨h1.symm, .inl h2.symm⟩⟩
    · rename_i h0 _
      rcases pdecL_out _ _ _ _ _ _ _ _ _ h with ⟨h1, h2⟩ | ⟨h1, h2⟩
      · refine ⟨?_, .inl ⟨h1, by omega⟩⟩
        have := hyK_bd L L.length
        have e1 : (L.take (hyS L)).length ≤ hyS L := by simp; omega
        have e2 : (L.drop (if hyS L = 0 then 0 else hyS L + 1)).length ≤ L.length - hyS L := by simp; split <;> omega
        have e3 : hyS L ≤ L.length := by unfold hyS; omega
        omega
      · exact ⟨by rw [h1]; simp, .inr ⟨h1, by rcases h2 with h2 | h2; exact .inl h2; exact .inr (.inl h2)⟩⟩

/-- An encoding has less than 2560 + 257 bytes. -/
theorem encP_len {l X : List Int} {e : Int} (h : encP l = (X, e)) : X.length ≤ 2817 := by
  unfold encP at h
  split at h
  · injection h with h1 h2; rw [← h1]; simp
  · split at h
    · injection h with h1 h2; rw [← h1]; simp
    · rename_i h0 h3
      injection h with h1 h2
      have hs : ∀ c ∈ l, scpB c = true := by
        have : l.all scpB = true := by simpa using h3
        simpa using this
      have := pencL_len l hs (by omega) (l.length - (basS l).length) (basF l) 128 0 72 true (by simp [basF]) (by omega)
      have hb : (basS l).length ≤ l.length := placed_len _ _
      rw [← h1, List.length_append]
      have : (frontS (basS l)).length ≤ (basS l).length + 1 := by unfold frontS; split <;> simp
      omega

end Go.Proofs.Ytmnnpfohjffniaa
