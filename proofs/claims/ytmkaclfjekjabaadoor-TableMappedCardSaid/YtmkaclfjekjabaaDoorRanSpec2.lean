/-
  Lists of spans, plain mathematics: finding, the parts before and after a code point, what a list leaves uncovered of another one, interleaving; setting, clearing, overlaying in two ways.
-/
import Derived.Test.YtmkaclfjekjabaaDoorRanOwn
namespace Go.Proofs.YtmkaclfjekjabaaDoor

/-- Find. -/
def findS (l : List Sp) (c : Int) : Int × Bool :=
  if validS l = true then match val l c with
    | some v => (v, true)
    | none => (0, false)
  else (0, false)

theorem findS_inv {l : List Sp} {c : Int} (h : validS l = false) : findS l c = (0, false) := by rw [findS, if_neg (by simp [h])]
theorem findS_some {l : List Sp} {c v : Int} (h : validS l = true) (hv : val l c = some v) : findS l c = (v, true) := by rw [findS, if_pos h, hv]
theorem findS_none {l : List Sp} {c : Int} (h : validS l = true) (hv : val l c = none) : findS l c = (0, false) := by rw [findS, if_pos h, hv]

theorem val_of_none {l : List Sp} {c : Int} (h : ∀ s ∈ l, ¬ (s.1 ≤ c ∧ c ≤ s.2.1)) : val l c = none := by
  induction l with
  | nil => rfl
  | cons s r ih =>
    rw [val_cons, if_neg (h s (by simp))]
    exact ih fun t ht => h t (by simp [ht])

/-- Where all spans before k end before c, and the others do not. -/
theorem val_split {l : List Sp} {c : Int} (k : Nat) (h : ∀ s ∈ l.take k, s.2.1 < c) : val l c = val (l.drop k) c := by
  have e := val_append (l.take k) (l.drop k) c
  rw [List.take_append_drop] at e
  rw [e, val_of_none (fun s hs hc => by have := h s hs; omega)]
  rfl

theorem asc_drop {l : List Sp} (k : Nat) (h : ascB 0 l = true) : ascB 0 (l.drop k) = true := by
  rw [← List.take_append_drop k l, asc_append] at h
  have h1 := ends_ge h.1
  exact asc_weak h.2 (by omega)

theorem asc_take {l : List Sp} (k : Nat) (h : ascB 0 l = true) : ascB 0 (l.take k) = true := by
  rw [← List.take_append_drop k l, asc_append] at h
  exact h.1

/-- In an ascending list later spans end later. -/
theorem asc_mono {lo : Int} {l : List Sp} (h : ascB lo l = true) (k : Nat) (hk : k < l.length) : (∀ s ∈ l.take k, s.2.1 < (l.getD k sp0).1) ∧ ∀ s ∈ l.drop (k + 1), (l.getD k sp0).2.1 < s.1 := by
  induction l generalizing lo k with
  | nil => simp at hk
  | cons t r ih =>
    rw [asc_cons] at h
    cases k with
    | zero =>
      refine ⟨by simp, fun s hs => ?_⟩
      have := asc_mem h.2.2.2 (s := s) (by simpa using hs)
      simp; omega
    | succ k =>
      have hk' : k < r.length := by simpa using hk
      have := ih h.2.2.2 k hk'
      refine ⟨fun s hs => ?_, fun s hs => ?_⟩
      · rw [List.take_succ_cons] at hs
        rcases List.mem_cons.1 hs with rfl | hs
        · have := asc_mem h.2.2.2 (getD_mem r k hk')
          simp only [List.getD_cons_succ]; omega
        · simpa using this.1 s hs
      · simpa using this.2 s (by simpa using hs)

/-- ref: the parts before a code point. -/
def beforeS (c : Int) : List Sp → List Sp
  | [] => []
  | s :: r => if s.1 < c then (s.1, min s.2.1 (c - 1), s.2.2) :: beforeS c r else beforeS c r

def afterS (c : Int) : List Sp → List Sp
  | [] => []
  | s :: r => if c < s.2.1 then (max s.1 (c + 1), s.2.1, s.2.2) :: afterS c r else afterS c r

theorem before_snoc (c : Int) (l : List Sp) (s : Sp) : beforeS c (l ++ [s]) = beforeS c l ++ if s.1 < c then [(s.1, min s.2.1 (c - 1), s.2.2)] else [] := by
  induction l with
  | nil => simp [beforeS]
  | cons t r ih => simp only [List.cons_append, beforeS, ih]; split <;> simp

theorem after_snoc (c : Int) (l : List Sp) (s : Sp) : afterS c (l ++ [s]) = afterS c l ++ if c < s.2.1 then [(max s.1 (c + 1), s.2.1, s.2.2)] else [] := by
  induction l with
  | nil => simp [afterS]
  | cons t r ih => simp only [List.cons_append, afterS, ih]; split <;> simp

theorem before_length (c : Int) (l : List Sp) : (beforeS c l).length ≤ l.length := by
  induction l with
  | nil => simp [beforeS]
  | cons t r ih => simp only [beforeS]; split <;> simp <;> omega

theorem after_length (c : Int) (l : List Sp) : (afterS c l).length ≤ l.length := by
  induction l with
  | nil => simp [afterS]
  | cons t r ih => simp only [afterS]; split <;> simp <;> omega

theorem val_before (c x : Int) (l : List Sp) : val (beforeS c l) x = if x < c then val l x else none := by
  induction l with
  | nil => simp [beforeS, val]
  | cons s r ih =>
    simp only [beforeS]
    split
    · rw [val_cons, ih, val_cons]
      simp only
      by_cases h : x < c
      · simp only [h, if_true]
        by_cases h2 : s.1 ≤ x ∧ x ≤ s.2.1
        · rw [if_pos (by omega), if_pos h2]
        · rw [if_neg (by omega), if_neg h2]
      · rw [if_neg (by omega), if_neg h, if_neg h]
    · rw [ih, val_cons]
      by_cases h : x < c
      · rw [if_pos h, if_pos h, if_neg (by omega)]
      · rw [if_neg h, if_neg h]

theorem val_after (c x : Int) (l : List Sp) : val (afterS c l) x = if c < x then val l x else none := by
  induction l with
  | nil => simp [afterS, val]
  | cons s r ih =>
    simp only [afterS]
    split
    · rw [val_cons, ih, val_cons]
      simp only
      by_cases h : c < x
      · simp only [h, if_true]
        by_cases h2 : s.1 ≤ x ∧ x ≤ s.2.1
        · rw [if_pos (by omega), if_pos h2]
        · rw [if_neg (by omega), if_neg h2]
      · rw [if_neg (by omega), if_neg h, if_neg h]
    · rw [ih, val_cons]
      by_cases h : c < x
      · rw [if_pos h, if_pos h, if_neg (by omega)]
      · rw [if_neg h, if_neg h]

theorem asc_before {lo c : Int} {l : List Sp} (h : ascB lo l = true) (hl : lo ≤ c) : ascB lo (beforeS c l) = true ∧ ends lo (beforeS c l) ≤ c := by
  induction l generalizing lo with
  | nil => exact ⟨rfl, hl⟩
  | cons s r ih =>
    rw [asc_cons] at h
    simp only [beforeS]
    split
    · by_cases hc : s.2.1 < c
      · have := ih h.2.2.2 (by omega)
        rw [asc_cons]
        simp only [ends]
        rw [show min s.2.1 (c - 1) = s.2.1 by omega]
        exact ⟨⟨h.1, h.2.1, h.2.2.1, this.1⟩, this.2⟩
      · have hr : beforeS c r = [] := by
          have hh := h.2.2.2
          clear ih h
          have : ∀ t ∈ r, s.2.1 + 1 ≤ t.1 := fun t ht => (asc_mem hh ht).1
          clear hh
          induction r with
          | nil => rfl
          | cons t r ih2 =>
            simp only [beforeS]
            rw [if_neg (by have := this t (by simp); omega)]
            exact ih2 fun u hu => this u (by simp [hu])
        rw [hr, asc_cons]
        simp only [ends, ascB]
        refine ⟨⟨h.1, ?_, ?_, trivial⟩, ?_⟩ <;> omega
    · have := ih (lo := lo) (asc_weak h.2.2.2 (by omega)) hl
      exact this

theorem asc_after {lo c : Int} {l : List Sp} (h : ascB lo l = true) : ascB (max lo (c + 1)) (afterS c l) = true := by
  induction l generalizing lo with
  | nil => rfl
  | cons s r ih =>
    rw [asc_cons] at h
    simp only [afterS]
    have := ih h.2.2.2
    split
    · rw [asc_cons]
      refine ⟨?_, ?_, h.2.2.1, asc_weak this (by simp only; omega)⟩ <;> simp only <;> omega
    · exact asc_weak this (by omega)

/-- l with by in the place of what it says from f to t. -/
theorem put_facts {l by' : List Sp} {f t : Int} (h : ascB 0 l = true) (hf : 0 ≤ f) (hby : ascB f by' = true) (he : ends f by' ≤ t + 1) (hft : f ≤ t) :
    ascB 0 (beforeS f l ++ by' ++ afterS t l) = true ∧ ∀ c, val (beforeS f l ++ by' ++ afterS t l) c = if f ≤ c ∧ c ≤ t then val by' c else val l c := by
  obtain ⟨h1, h2⟩ := asc_before h hf
  have h3 := asc_after (c := t) h
  have h4 : ascB (ends 0 (beforeS f l)) by' = true := asc_weak hby h2
  constructor
  · rw [asc_append, asc_append, ends_append]
    refine ⟨⟨h1, h4⟩, asc_weak h3 ?_⟩
    cases by' with
    | nil => simp only [ends] at he ⊢; omega
    | cons s r => simp only [ends] at he ⊢; omega
  · intro c
    rw [val_append, val_append, val_before, val_after]
    by_cases h1 : c < f
    · rw [if_pos h1, if_neg (by omega : ¬ t < c), val_none hby (.inl h1), if_neg (by omega)]; simp
    · rw [if_neg h1]
      by_cases h2 : t < c
      · rw [if_pos h2, val_none hby (.inr (by omega)), if_neg (by omega)]; simp
      · rw [if_neg h2, if_pos (by omega)]; simp

/-- The answer of a change: the list, and an error. -/
def limS (l : List Sp) : List Sp × Int := if 256 < l.length then ([], 7) else (l, 0)

def replS (l : List Sp) (f t : Int) (by' : List Sp) : List Sp × Int :=
  if validS l = false then ([], 1) else if f < 0 ∨ t < f ∨ 1114111 < t then ([], 3) else limS (joinS (beforeS f l ++ by' ++ afterS t l))

def setS (l : List Sp) (f t v : Int) : List Sp × Int := replS l f t [(f, t, v)]
def clearS (l : List Sp) (f t : Int) : List Sp × Int := replS l f t []

/-- What b leaves uncovered of one span. -/
def cutS : Sp → List Sp → List Sp
  | s, [] => if s.1 ≤ s.2.1 then [s] else []
  | s, x :: b => if x.1 ≤ s.2.1 then (if s.1 < x.1 then [(s.1, x.1 - 1, s.2.2)] else []) ++ cutS (x.2.1 + 1, s.2.1, s.2.2) b else if s.1 ≤ s.2.1 then [s] else []

def skipS (f : Int) (b : List Sp) : List Sp := b.dropWhile fun x => decide (x.2.1 < f)

/-- What b leaves uncovered of a. -/
def uncovS : List Sp → List Sp → List Sp
  | [], _ => []
  | s :: a, b => cutS s (skipS s.1 b) ++ uncovS a (skipS s.1 b)

theorem skip_step {f : Int} {x : Sp} {b : List Sp} (h : x.2.1 < f) : skipS f (x :: b) = skipS f b := by simp [skipS, h]
theorem skip_stop {f : Int} {b : List Sp} (h : ∀ x r, b = x :: r → f ≤ x.2.1) : skipS f b = b := by
  cases b with
  | nil => rfl
  | cons x r => have := h x r rfl; simp only [skipS]; rw [List.dropWhile_cons_of_neg (by simp; omega)]

theorem skip_facts {f lo : Int} {b : List Sp} (h : ascB lo b = true) : ascB lo (skipS f b) = true ∧ (∀ c, f ≤ c → val (skipS f b) c = val b c) ∧ (∀ x r, skipS f b = x :: r → f ≤ x.2.1) := by
  induction b generalizing lo with
  | nil => exact ⟨rfl, fun _ _ => rfl, fun x r e => by cases e⟩
  | cons s b ih =>
    have h0 := h
    rw [asc_cons] at h
    by_cases hc : s.2.1 < f
    · rw [skip_step hc]
      obtain ⟨i1, i2, i3⟩ := ih h.2.2.2
      refine ⟨asc_weak i1 (by omega), fun c hcf => ?_, i3⟩
      rw [i2 c hcf, val_cons, if_neg (by omega)]
    · have : ∀ x r, s :: b = x :: r → f ≤ x.2.1 := by
        intro x r e
        injection e with e1 _
        subst e1; omega
      rw [skip_stop this]
      exact ⟨h0, fun _ _ => rfl, this⟩

theorem cut_facts (b : List Sp) (s : Sp) (lo : Int) (h : ascB lo b = true) (hh : ∀ x r, b = x :: r → s.1 ≤ x.2.1 + 1) (hs : 0 ≤ s.1) (hM : s.2.1 ≤ 1114111) :
    ascB s.1 (cutS s b) = true ∧ ends s.1 (cutS s b) ≤ max s.1 (s.2.1 + 1) ∧ ∀ c, val (cutS s b) c = if (s.1 ≤ c ∧ c ≤ s.2.1) ∧ val b c = none then some s.2.2 else none := by
  induction b generalizing s lo with
  | nil =>
    simp only [cutS]
    split
    · refine ⟨by rw [asc_cons]; exact ⟨by omega, by assumption, hM, rfl⟩, by simp only [ends]; omega, fun c => ?_⟩
      rw [val_cons]; simp [val]
    · refine ⟨rfl, by simp only [ends]; omega, fun c => ?_⟩
      rw [if_neg (by omega)]; rfl
  | cons x b ih =>
    rw [asc_cons] at h
    have hx := hh x b rfl
    simp only [cutS]
    by_cases hc : x.1 ≤ s.2.1
    · rw [if_pos hc]
      obtain ⟨i1, i2, i3⟩ := ih (x.2.1 + 1, s.2.1, s.2.2) (x.2.1 + 1) h.2.2.2 (fun y r e => by
        subst e
        have := h.2.2.2
        rw [asc_cons] at this
        simp only; omega) (by simp only; omega) (by simpa using hM)
      simp only at i1 i2 i3
      have hvx : ∀ c, x.2.1 < c → (val (x :: b) c = val b c) := fun c hcx => by rw [val_cons, if_neg (by omega)]
      have hcut : ∀ y r, cutS (x.2.1 + 1, s.2.1, s.2.2) b = y :: r → x.2.1 + 1 ≤ s.2.1 := by
        intro y r hk
        have h5 := i3 y.1
        have h7 := i1
        rw [hk, asc_cons] at h7
        rw [hk, val_cons, if_pos ⟨Int.le_refl _, h7.2.1⟩] at h5
        by_cases h6 : x.2.1 + 1 ≤ y.1 ∧ y.1 ≤ s.2.1
        · omega
        · rw [if_neg (fun h => h6 h.1)] at h5; cases h5
      by_cases hp : s.1 < x.1
      · rw [if_pos hp]
        refine ⟨?_, ?_, fun c => ?_⟩
        · rw [List.cons_append, asc_cons]
          refine ⟨by simp only; omega, by simp only; omega, by simp only; omega, asc_weak i1 (by simp only; omega)⟩
        · simp only [List.cons_append, List.nil_append, ends]
          cases hk : cutS (x.2.1 + 1, s.2.1, s.2.2) b with
          | nil => simp only [ends]; omega
          | cons y r => have := hcut y r hk; rw [hk] at i2; simp only [ends] at i2 ⊢; omega
        · rw [List.cons_append, List.nil_append, val_cons, i3 c, val_cons]
          simp only
          by_cases h1 : s.1 ≤ c ∧ c ≤ x.1 - 1
          · rw [if_pos h1, if_neg (by omega : ¬ (x.1 ≤ c ∧ c ≤ x.2.1)), val_none h.2.2.2 (.inl (by omega)), if_pos ⟨by omega, rfl⟩]
          · rw [if_neg h1]
            by_cases h2 : x.1 ≤ c ∧ c ≤ x.2.1
            · rw [if_neg (by omega), if_pos h2, if_neg (by simp)]
            · rw [if_neg h2]
              by_cases h3 : val b c = none
              · simp only [h3, and_true]
                by_cases h4 : x.2.1 + 1 ≤ c ∧ c ≤ s.2.1
                · rw [if_pos h4, if_pos (by omega)]
                · rw [if_neg h4, if_neg (by omega)]
              · simp [h3]
      · rw [if_neg hp, List.nil_append]
        refine ⟨asc_weak i1 (by omega), ?_, fun c => ?_⟩
        · cases hk : cutS (x.2.1 + 1, s.2.1, s.2.2) b with
          | nil => simp only [ends]; omega
          | cons y r => have := hcut y r hk; rw [hk] at i2; simp only [ends] at i2 ⊢; omega
        · rw [i3 c, val_cons]
          by_cases h2 : x.1 ≤ c ∧ c ≤ x.2.1
          · rw [if_neg (by omega), if_pos h2, if_neg (by simp)]
          · rw [if_neg h2]
            by_cases h3 : val b c = none
            · simp only [h3, and_true]
              by_cases h4 : x.2.1 + 1 ≤ c ∧ c ≤ s.2.1
              · rw [if_pos h4, if_pos (by omega)]
              · rw [if_neg h4, if_neg (by omega)]
            · simp [h3]
    · rw [if_neg hc]
      have hv : ∀ c, c ≤ s.2.1 → val (x :: b) c = none := fun c hcs => by
        rw [val_cons, if_neg (by omega)]; exact val_none h.2.2.2 (.inl (by omega))
      split
      · refine ⟨by rw [asc_cons]; exact ⟨by omega, by assumption, hM, rfl⟩, by simp only [ends]; omega, fun c => ?_⟩
        rw [val_cons]
        by_cases h4 : s.1 ≤ c ∧ c ≤ s.2.1
        · rw [if_pos h4, if_pos ⟨h4, hv c h4.2⟩]
        · rw [if_neg h4, if_neg (fun h => h4 h.1)]; rfl
      · refine ⟨rfl, by simp only [ends]; omega, fun c => ?_⟩
        rw [if_neg (by omega)]; rfl

theorem uncov_facts (a b : List Sp) (lo l2 : Int) (ha : ascB lo a = true) (hb : ascB l2 b = true) (hl : 0 ≤ lo) :
    ascB lo (uncovS a b) = true ∧ ends lo (uncovS a b) ≤ ends lo a ∧ ∀ c, val (uncovS a b) c = if val b c = none then val a c else none := by
  induction a generalizing lo b l2 with
  | nil => exact ⟨rfl, Int.le_refl _, fun c => by simp [uncovS, val]⟩
  | cons s a ih =>
    rw [asc_cons] at ha
    obtain ⟨k1, k2, k3⟩ := skip_facts (f := s.1) hb
    obtain ⟨c1, c2, c3⟩ := cut_facts (skipS s.1 b) s l2 k1 (fun x r e => by have := k3 x r e; omega) (by omega) ha.2.2.1
    obtain ⟨i1, i2, i3⟩ := ih (skipS s.1 b) (s.2.1 + 1) l2 ha.2.2.2 k1 (by omega)
    simp only [uncovS]
    have c1' : ascB lo (cutS s (skipS s.1 b)) = true := asc_weak c1 ha.1
    have c2' : ends lo (cutS s (skipS s.1 b)) ≤ s.2.1 + 1 := by
      cases hk : cutS s (skipS s.1 b) with
      | nil => simp only [ends]; omega
      | cons y r => rw [hk] at c2; simp only [ends] at c2 ⊢; omega
    refine ⟨?_, ?_, fun c => ?_⟩
    · rw [asc_append]; exact ⟨c1', asc_weak i1 c2'⟩
    · rw [ends_append]
      simp only [ends]
      cases hk : uncovS a (skipS s.1 b) with
      | nil => have := ends_ge ha.2.2.2; simp only [ends]; omega
      | cons y r => rw [hk] at i2; simpa [ends] using i2
    · rw [val_append, c3 c, i3 c, val_cons]
      by_cases hc : s.1 ≤ c
      · rw [k2 c hc]
        by_cases h3 : val b c = none
        · simp only [h3, and_true, if_true]
          by_cases h4 : c ≤ s.2.1
          · rw [if_pos ⟨hc, h4⟩, if_pos ⟨hc, h4⟩]; rfl
          · rw [if_neg (by omega), if_neg (by omega)]; simp
        · simp [h3]
      · rw [if_neg (by omega : ¬ (s.1 ≤ c ∧ c ≤ s.2.1)), if_neg (fun h => hc h.1.1), val_none ha.2.2.2 (.inl (by omega))]
        simp

/-- The spans of a and of b in ascending order. -/
def interS : List Sp → List Sp → List Sp
  | [], b => b
  | s :: a, b => b.takeWhile (fun x => decide (x.1 < s.1)) ++ s :: interS a (b.dropWhile fun x => decide (x.1 < s.1))

theorem inter_step {s x : Sp} {a b : List Sp} (h : x.1 < s.1) : interS (s :: a) (x :: b) = x :: interS (s :: a) b := by simp [interS, h]
theorem inter_stop {s : Sp} {a b : List Sp} (h : ∀ x r, b = x :: r → s.1 ≤ x.1) : interS (s :: a) b = s :: interS a b := by
  cases b with
  | nil => simp [interS]
  | cons x r =>
    have := h x r rfl
    simp only [interS]
    rw [List.takeWhile_cons_of_neg (by simp; omega), List.dropWhile_cons_of_neg (by simp; omega)]
    rfl

theorem inter_facts (n : Nat) (a b : List Sp) (lo : Int) (hn : a.length + b.length ≤ n) (ha : ascB lo a = true) (hb : ascB lo b = true) (hd : ∀ c, val a c = none ∨ val b c = none) :
    ascB lo (interS a b) = true ∧ ∀ c, val (interS a b) c = (val a c).or (val b c) := by
  induction n generalizing a b lo with
  | zero =>
    have h1 : a = [] := List.eq_nil_of_length_eq_zero (by omega)
    have h2 : b = [] := List.eq_nil_of_length_eq_zero (by omega)
    subst h1; subst h2
    exact ⟨rfl, fun c => rfl⟩
  | succ n ih =>
    cases a with
    | nil => exact ⟨hb, fun c => by simp [interS, val]⟩
    | cons s a =>
      have ha0 := ha
      rw [asc_cons] at ha
      have hd1 := hd s.1
      rw [val_cons, if_pos (by omega)] at hd1
      have hbs : val b s.1 = none := by
        rcases hd1 with h | h
        · cases h
        · exact h
      cases b with
      | nil =>
        rw [inter_stop (fun x r e => by cases e)]
        obtain ⟨i1, i2⟩ := ih a [] (s.2.1 + 1) (by simp at hn ⊢; omega) ha.2.2.2 rfl (fun c => .inr rfl)
        refine ⟨by rw [asc_cons]; exact ⟨ha.1, ha.2.1, ha.2.2.1, i1⟩, fun c => ?_⟩
        rw [val_cons, i2 c, val_cons]; split <;> simp
      | cons x b =>
        have hb0 := hb
        rw [asc_cons] at hb
        by_cases hx : x.1 < s.1
        · rw [inter_step hx]
          have hxs : x.2.1 < s.1 := by
            rw [val_cons] at hbs
            by_cases hc : x.1 ≤ s.1 ∧ s.1 ≤ x.2.1
            · rw [if_pos hc] at hbs; cases hbs
            · omega
          have hd' : ∀ c, val (s :: a) c = none ∨ val b c = none := fun c => by
            rcases hd c with h | h
            · exact .inl h
            · right
              rw [val_cons] at h
              split at h
              · cases h
              · exact h
          obtain ⟨i1, i2⟩ := ih (s :: a) b (x.2.1 + 1) (by simp at hn ⊢; omega) (by rw [asc_cons]; exact ⟨by omega, ha.2⟩) hb.2.2.2 hd'
          refine ⟨by rw [asc_cons]; exact ⟨hb.1, hb.2.1, hb.2.2.1, i1⟩, fun c => ?_⟩
          rw [val_cons, i2 c, val_cons x b]
          by_cases hc : x.1 ≤ c ∧ c ≤ x.2.1
          · rw [if_pos hc, if_pos hc]
            rw [val_cons, if_neg (by omega), val_none ha.2.2.2 (.inl (by omega))]; rfl
          · rw [if_neg hc, if_neg hc]
        · have hxs : s.2.1 < x.1 := by
            by_cases hc : x.1 ≤ s.2.1
            · have := hd x.1
              rw [val_cons, if_pos (by omega), val_cons, if_pos (by omega)] at this
              rcases this with h | h <;> cases h
            · omega
          rw [inter_stop (fun y r e => by injection e with e1 _; subst e1; omega)]
          have hd' : ∀ c, val a c = none ∨ val (x :: b) c = none := fun c => by
            rcases hd c with h | h
            · left
              rw [val_cons] at h
              split at h
              · cases h
              · exact h
            · exact .inr h
          obtain ⟨i1, i2⟩ := ih a (x :: b) (s.2.1 + 1) (by simp at hn ⊢; omega) ha.2.2.2 (by rw [asc_cons]; exact ⟨by omega, hb.2⟩) hd'
          refine ⟨by rw [asc_cons]; exact ⟨ha.1, ha.2.1, ha.2.2.1, i1⟩, fun c => ?_⟩
          rw [val_cons, i2 c, val_cons s a]
          split <;> simp

/-- ranges: the spans of b and what they leave uncovered of those of a. -/
def layS (a b : List Sp) : List Sp := interS (uncovS a b) b

theorem lay_facts {a b : List Sp} (ha : ascB 0 a = true) (hb : ascB 0 b = true) :
    ascB 0 (layS a b) = true ∧ ∀ c, val (layS a b) c = (val b c).or (val a c) := by
  obtain ⟨u1, u2, u3⟩ := uncov_facts a b 0 0 ha hb (by omega)
  obtain ⟨i1, i2⟩ := inter_facts _ (uncovS a b) b 0 (Nat.le_refl _) u1 hb (fun c => by
    rw [u3 c]
    by_cases h : val b c = none
    · exact .inr h
    · rw [if_neg h]; exact .inl rfl)
  refine ⟨i1, fun c => ?_⟩
  rw [layS, i2 c, u3 c]
  cases hb : val b c with
  | none => simp
  | some v => simp

/-- ref: one span is laid over the others. -/
def ovstep (out : List Sp) (s : Sp) : List Sp := beforeS s.1 out ++ [s] ++ afterS s.2.1 out

theorem ov_facts (b a : List Sp) (lo : Int) (ha : ascB 0 a = true) (hb : ascB lo b = true) (hl : 0 ≤ lo) :
    ascB 0 (b.foldl ovstep a) = true ∧ ∀ c, val (b.foldl ovstep a) c = (val b c).or (val a c) := by
  induction b generalizing a lo with
  | nil => exact ⟨ha, fun c => by simp [val]⟩
  | cons s b ih =>
    rw [asc_cons] at hb
    have hp := put_facts (l := a) (by' := [s]) (f := s.1) (t := s.2.1) ha (by omega) (by rw [asc_cons]; exact ⟨by omega, hb.2.1, hb.2.2.1, rfl⟩) (by simp only [ends]; omega) hb.2.1
    obtain ⟨i1, i2⟩ := ih (ovstep a s) (s.2.1 + 1) hp.1 hb.2.2.2 (by omega)
    refine ⟨i1, fun c => ?_⟩
    rw [List.foldl_cons, i2 c, ovstep, hp.2 c, val_cons, val_cons]
    by_cases hc : s.1 ≤ c ∧ c ≤ s.2.1
    · rw [if_pos hc, if_pos hc, if_pos hc, val_none hb.2.2.2 (.inl (by omega))]; rfl
    · rw [if_neg hc, if_neg hc]

def overS (a b : List Sp) : List Sp × Int := if validS a = true ∧ validS b = true then limS (joinS (b.foldl ovstep a)) else ([], 1)

theorem over_eq {a b : List Sp} (ha : ascB 0 a = true) (hb : ascB 0 b = true) : joinS (b.foldl ovstep a) = joinS (layS a b) := by
  obtain ⟨h1, h2⟩ := ov_facts b a 0 ha hb (by omega)
  obtain ⟨h3, h4⟩ := lay_facts ha hb
  exact join_eq h1 h3 fun c => by rw [h2, h4]

theorem one_asc {f t v : Int} (h0 : 0 ≤ f) (h1 : f ≤ t) (h2 : t ≤ 1114111) : ascB 0 [(f, t, v)] = true := by
  rw [asc_cons]; exact ⟨h0, h1, h2, rfl⟩

theorem set_eq {a : List Sp} {f t v : Int} (ha : ascB 0 a = true) (h0 : 0 ≤ f) (h1 : f ≤ t) (h2 : t ≤ 1114111) : joinS (beforeS f a ++ [(f, t, v)] ++ afterS t a) = joinS (layS a [(f, t, v)]) :=
  over_eq ha (one_asc h0 h1 h2)

theorem clear_eq {a : List Sp} {f t v : Int} (ha : ascB 0 a = true) (h0 : 0 ≤ f) (h1 : f ≤ t) (h2 : t ≤ 1114111) : joinS (beforeS f a ++ [] ++ afterS t a) = joinS (uncovS a [(f, t, v)]) := by
  have hp := put_facts (l := a) (by' := []) (f := f) (t := t) ha h0 rfl (by simp only [ends]; omega) h1
  obtain ⟨u1, _, u3⟩ := uncov_facts a [(f, t, v)] 0 0 ha (one_asc h0 h1 h2) (by omega)
  refine join_eq hp.1 u1 fun c => ?_
  rw [hp.2 c, u3 c, val_cons]
  by_cases hc : f ≤ c ∧ c ≤ t
  · rw [if_pos hc, if_pos hc, if_neg (by simp)]; rfl
  · rw [if_neg hc, if_neg hc]; simp [val]

end Go.Proofs.YtmkaclfjekjabaaDoor
