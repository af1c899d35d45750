/-
  A stable sort of indices by the code points that stand there: plain mathematics. The order that comes out is a total one: by the code point, and equal ones by the index. What the library's merge does between two comparisons is a rotation.
-/
import Derived.Sort.LotA
import Derived.Test.YtmnnpfohjffniaaPkZZA
set_option linter.unusedSimpArgs false
set_option linter.unusedVariables false
namespace Go.Proofs.Ytmnnpfohjffniaa
open Go.Sort
set_option linter.unusedVariables false

def keyS (l : List Int) (x : Int) : Int := l.getD x.toNat 0
/-- The order of the places: by the code point, then by the index. -/
def ltT (l : List Int) (x y : Int) : Bool := decide (keyS l x < keyS l y) || (decide (keyS l x = keyS l y) && decide (x < y))
/-- What the comparison that is handed to the sort tells. -/
def ltC (l : List Int) (x y : Int) : Bool := decide (keyS l x < keyS l y)
theorem ltT_iff {l : List Int} {x y : Int} : ltT l x y = true ↔ keyS l x < keyS l y ∨ (keyS l x = keyS l y ∧ x < y) := by unfold ltT; simp
theorem ltT_no {l : List Int} {x y : Int} : ltT l x y = false ↔ keyS l y < keyS l x ∨ (keyS l x = keyS l y ∧ y ≤ x) := by
  rw [← Bool.not_eq_true, ltT_iff]; omega
theorem ltT_swo (l : List Int) : SWO (ltT l) where
  irrefl x := by rw [ltT_no]; omega
  trans x y z h1 h2 := by rw [ltT_iff] at *; omega
  ntrans x y z h1 h2 := by rw [ltT_no] at *; omega
theorem ltT_asym {l : List Int} {x y : Int} (h : ltT l x y = true) : ltT l y x = false := by rw [ltT_iff] at h; rw [ltT_no]; omega
theorem ltC_eq {l : List Int} {x y : Int} (h : y < x) : ltC l x y = ltT l x y := by
  rw [Bool.eq_iff_iff, ltT_iff]; unfold ltC; simp; omega
def pcmpI (l : List Int) (x y : Int) : Int := if keyS l x < keyS l y then -1 else if keyS l y < keyS l x then 1 else 0
theorem pcmpI_iff {l : List Int} {x y : Int} : pcmpI l x y < 0 ↔ ltC l x y = true := by
  unfold pcmpI ltC
  simp only [decide_eq_true_eq]
  split
  · omega
  · split <;> omega

/-! a rotation -/
/-- The parts [s, m) and [m, e) are exchanged. -/
def rotF (s m e : Nat) (d : Nat → Int) (k : Nat) : Int :=
  if s ≤ k ∧ k < s + (e - m) then d (k + (m - s)) else if s + (e - m) ≤ k ∧ k < e then d (k - (e - m)) else d k
/-- Two parts of the same length are exchanged. -/
def xchF (a b n : Nat) (d : Nat → Int) (k : Nat) : Int :=
  if a ≤ k ∧ k < a + n then d (k - a + b) else if b ≤ k ∧ k < b + n then d (k - b + a) else d k

theorem rotF_left {m i j : Nat} {d : Nat → Int} (hi : i ≤ m) (hij : j < i) (k : Nat) : rotF (m - i) m (m + j) d k = rotF (m - (i - j)) m (m + j) (xchF (m - i) m j d) k := by
  unfold rotF xchF
  repeat' split
  all_goals first
    | (exfalso; omega)
    | rfl
    | (congr 1 <;> omega)
theorem rotF_right {m i j : Nat} {d : Nat → Int} (hi : i ≤ m) (hij : i < j) (k : Nat) : rotF (m - i) m (m + j) d k = rotF (m - i) m (m + (j - i)) (xchF (m - i) (m + j - i) i d) k := by
  unfold rotF xchF
  repeat' split
  all_goals first
    | (exfalso; omega)
    | rfl
    | (congr 1 <;> omega)
theorem rotF_end {m i : Nat} {d : Nat → Int} (hi : i ≤ m) (k : Nat) : rotF (m - i) m (m + i) d k = xchF (m - i) m i d k := by
  unfold rotF xchF
  repeat' split
  all_goals first
    | (exfalso; omega)
    | rfl
    | (congr 1 <;> omega)
theorem rotF_none {s m e : Nat} {d : Nat → Int} (h : s = m ∨ m = e) (k : Nat) : rotF s m e d k = d k := by
  unfold rotF
  repeat' split
  all_goals first
    | rfl
    | (exfalso; omega)
    | rfl
    | (congr 1 <;> omega)

theorem rotF_congr {s m e : Nat} {d d' : Nat → Int} (h : ∀ k, d k = d' k) (k : Nat) : rotF s m e d k = rotF s m e d' k := by
  unfold rotF; simp only [h]

/-- Where the sorted parts [a, m) and [m, b) are rotated so that each piece is not above the next, all is sorted. -/
theorem rot_sorted {lt : Int → Int → Bool} {a s m e b : Nat} {d d' : Array Int} (has : a ≤ s) (hsm : s ≤ m) (hme : m ≤ e) (heb : e ≤ b)
    (hr : ∀ k, d'[k]! = rotF s m e (fun k => d[k]!) k) (h1 : SortedIn lt a m d) (h2 : SortedIn lt m b d)
    (c1 : ∀ i j, a ≤ i → i < s → m ≤ j → j < e → lt d[j]! d[i]! = false)
    (c2 : ∀ i j, s ≤ i → i < m → m ≤ j → j < e → lt d[i]! d[j]! = false)
    (c3 : ∀ i j, s ≤ i → i < m → e ≤ j → j < b → lt d[j]! d[i]! = false)
    (c4 : ∀ i j, a ≤ i → i < s → e ≤ j → j < b → lt d[j]! d[i]! = false) : SortedIn lt a b d' := by
  intro p q hp hpq hq
  rw [hr, hr]
  unfold rotF
  by_cases p1 : s ≤ p ∧ p < s + (e - m)
  · rw [if_pos p1]
    by_cases q1 : s ≤ q ∧ q < s + (e - m)
    · rw [if_pos q1]; exact h2 _ _ (by omega) (by omega) (by omega)
    · rw [if_neg q1]
      by_cases q2 : s + (e - m) ≤ q ∧ q < e
      · rw [if_pos q2]; exact c2 _ _ (by omega) (by omega) (by omega) (by omega)
      · rw [if_neg q2]; exact h2 _ _ (by omega) (by omega) (by omega)
  · rw [if_neg p1]
    by_cases p2 : s + (e - m) ≤ p ∧ p < e
    · rw [if_pos p2]
      by_cases q1 : s ≤ q ∧ q < s + (e - m)
      · omega
      · rw [if_neg q1]
        by_cases q2 : s + (e - m) ≤ q ∧ q < e
        · rw [if_pos q2]; exact h1 _ _ (by omega) (by omega) (by omega)
        · rw [if_neg q2]; exact c3 _ _ (by omega) (by omega) (by omega) (by omega)
    · rw [if_neg p2]
      by_cases p3 : p < s
      · by_cases q1 : s ≤ q ∧ q < s + (e - m)
        · rw [if_pos q1]; exact c1 _ _ (by omega) (by omega) (by omega) (by omega)
        · rw [if_neg q1]
          by_cases q2 : s + (e - m) ≤ q ∧ q < e
          · rw [if_pos q2]; exact h1 _ _ (by omega) (by omega) (by omega)
          · rw [if_neg q2]
            by_cases q3 : q < s
            · exact h1 _ _ (by omega) (by omega) (by omega)
            · exact c4 _ _ (by omega) (by omega) (by omega) (by omega)
      · by_cases q1 : s ≤ q ∧ q < s + (e - m)
        · omega
        · rw [if_neg q1]
          by_cases q2 : s + (e - m) ≤ q ∧ q < e
          · omega
          · rw [if_neg q2]; exact h2 _ _ (by omega) (by omega) (by omega)

/-- Two sorted parts side by side, all of the left one of smaller indices than all of the right one. -/
structure Mrg (l : List Int) (a m b : Nat) (d : Array Int) : Prop where
  am : a ≤ m
  mb : m ≤ b
  size : b ≤ d.size
  left : SortedIn (ltT l) a m d
  right : SortedIn (ltT l) m b d
  cross : ∀ i j, a ≤ i → i < m → m ≤ j → j < b → d[i]! < d[j]!

theorem Mrg.cmp {l : List Int} {a m b : Nat} {d : Array Int} (h : Mrg l a m b d) {i j : Nat} (h1 : a ≤ i) (h2 : i < m) (h3 : m ≤ j) (h4 : j < b) : (pcmpI l d[j]! d[i]! < 0) ↔ ltT l d[j]! d[i]! = true := by
  rw [pcmpI_iff, ltC_eq (h.cross i j h1 h2 h3 h4)]

/-- The left part has one element. -/
theorem Mrg.one_left {l : List Int} {a m b i : Nat} {d d' : Array Int} (h : Mrg l a m b d) (h1 : m = a + 1) (hi : m ≤ i) (hib : i ≤ b)
    (b1 : m < i → ltT l d[i - 1]! d[a]! = true) (b2 : i < b → ltT l d[i]! d[a]! = false) (hr : ∀ k, d'[k]! = rotF a m i (fun k => d[k]!) k) : SortedIn (ltT l) a b d' := by
  have hS := ltT_swo l
  refine rot_sorted (Nat.le_refl a) h.am hi hib hr h.left h.right (fun _ _ _ _ _ _ => by omega) (fun x j hx hx2 hj hj2 => ?_) (fun x j hx hx2 hj hj2 => ?_) (fun _ _ _ _ _ _ => by omega)
  · obtain rfl : x = a := by omega
    have := ltT_asym (b1 (by omega))
    by_cases e : j = i - 1
    · rw [e]; exact this
    · exact hS.ntrans _ _ _ this (h.right _ _ hj (by omega) (by omega))
  · obtain rfl : x = a := by omega
    have := b2 (by omega)
    by_cases e : j = i
    · rw [e]; exact this
    · exact hS.ntrans _ _ _ (h.right _ _ hi (by omega) hj2) this

/-- The right part has one element. -/
theorem Mrg.one_right {l : List Int} {a m b i : Nat} {d d' : Array Int} (h : Mrg l a m b d) (h1 : b = m + 1) (hi : a ≤ i) (him : i ≤ m)
    (b1 : a < i → ltT l d[m]! d[i - 1]! = false) (b2 : i < m → ltT l d[m]! d[i]! = true) (hr : ∀ k, d'[k]! = rotF i m b (fun k => d[k]!) k) : SortedIn (ltT l) a b d' := by
  have hS := ltT_swo l
  refine rot_sorted hi him h.mb (Nat.le_refl b) hr h.left h.right (fun x j hx hx2 hj hj2 => ?_) (fun x j hx hx2 hj hj2 => ?_) (fun _ _ _ _ _ _ => by omega) (fun _ _ _ _ _ _ => by omega)
  · obtain rfl : j = m := by omega
    have := b1 (by omega)
    by_cases e : x = i - 1
    · rw [e]; exact this
    · exact hS.ntrans _ _ _ this (h.left _ _ hx (by omega) (by omega))
  · obtain rfl : j = m := by omega
    have := ltT_asym (b2 (by omega))
    by_cases e : x = i
    · rw [e]; exact this
    · exact hS.ntrans _ _ _ (h.left _ _ hi (by omega) hx2) this

/-- Where the search of the merge begins and ends. -/
def sym0 (a m b : Nat) : Nat × Nat := if (a + b) / 2 < m then ((a + b) / 2 + m - b, (a + b) / 2) else (a, m)

/-- Behind the rotation: two merges that are left, and what is below the middle is not above what is beyond it. -/
theorem Mrg.halves {l : List Int} {a m b s : Nat} {d d' : Array Int} (h : Mrg l a m b d) (ha : a + 2 ≤ m) (hb : m + 2 ≤ b)
    (hs : (sym0 a m b).1 ≤ s) (hs2 : s ≤ (sym0 a m b).2)
    (b1 : (sym0 a m b).1 < s → ltT l d[(a + b) / 2 + m - 1 - (s - 1)]! d[s - 1]! = false) (b2 : s < (sym0 a m b).2 → ltT l d[(a + b) / 2 + m - 1 - s]! d[s]! = true)
    (hd : d'.size = d.size) (hr : ∀ k, d'[k]! = rotF s m ((a + b) / 2 + m - s) (fun k => d[k]!) k) :
    Mrg l a s ((a + b) / 2) d' ∧ Mrg l ((a + b) / 2) ((a + b) / 2 + m - s) b d' ∧ ∀ i j, a ≤ i → i < (a + b) / 2 → (a + b) / 2 ≤ j → j < b → ltT l d'[j]! d'[i]! = false := by
  have hS := ltT_swo l
  obtain ⟨c, hc⟩ : ∃ c, (a + b) / 2 = c := ⟨_, rfl⟩
  obtain ⟨s0, r0, hsr⟩ : ∃ s0 r0, sym0 a m b = (s0, r0) := ⟨_, _, rfl⟩
  rw [hsr] at hs hs2 b1 b2
  simp only at hs hs2 b1 b2
  have hsr2 : (c < m ∧ s0 = c + m - b ∧ r0 = c) ∨ (m ≤ c ∧ s0 = a ∧ r0 = m) := by
    unfold sym0 at hsr
    rw [hc] at hsr
    split at hsr
    · left; injection hsr with h1 h2; omega
    · right; injection hsr with h1 h2; omega
  have hcb : a + 2 ≤ c ∧ c + 2 ≤ b := by omega
  have hc2 : 2 * c ≤ a + b ∧ a + b ≤ 2 * c + 1 := by omega
  rw [hc] at hr b1 b2 ⊢
  clear hc hsr
  have has : a ≤ s := by omega
  have hsm : s ≤ m := by omega
  have hsc : s ≤ c := by omega
  obtain ⟨e, he⟩ : ∃ e, c + m - s = e := ⟨_, rfl⟩
  rw [he] at hr ⊢
  have hme : m ≤ e := by omega
  have hce : c ≤ e := by omega
  have heb : e ≤ b := by omega
  have hse : s + (e - m) = c := by omega
  have f1 : ∀ k, k < s → d'[k]! = d[k]! := fun k hk => by rw [hr]; unfold rotF; rw [if_neg (by omega), if_neg (by omega)]
  have f2 : ∀ k, s ≤ k → k < c → d'[k]! = d[k + (m - s)]! := fun k h1 h2 => by rw [hr]; unfold rotF; rw [if_pos (by omega)]
  have f3 : ∀ k, c ≤ k → k < e → d'[k]! = d[k - (e - m)]! := fun k h1 h2 => by rw [hr]; unfold rotF; rw [if_neg (by omega), if_pos (by omega)]
  have f4 : ∀ k, e ≤ k → d'[k]! = d[k]! := fun k hk => by rw [hr]; unfold rotF; rw [if_neg (by omega), if_neg (by omega)]
  refine ⟨⟨has, hsc, by rw [hd]; have := h.size; omega, ?_, ?_, ?_⟩, ⟨hce, heb, by rw [hd]; exact h.size, ?_, ?_, ?_⟩, ?_⟩
  · intro i j h1 h2 h3; rw [f1 i (by omega), f1 j h3]; exact h.left i j h1 h2 (by omega)
  · intro i j h1 h2 h3; rw [f2 i h1 (by omega), f2 j (by omega) h3]; exact h.right _ _ (by omega) (by omega) (by omega)
  · intro i j h1 h2 h3 h4; rw [f1 i h2, f2 j h3 h4]; exact h.cross _ _ h1 (by omega) (by omega) (by omega)
  · intro i j h1 h2 h3; rw [f3 i h1 (by omega), f3 j (by omega) h3]; exact h.left _ _ (by omega) (by omega) (by omega)
  · intro i j h1 h2 h3; rw [f4 i h1, f4 j (by omega)]; exact h.right _ _ (by omega) h2 h3
  · intro i j h1 h2 h3 h4; rw [f3 i h1 h2, f4 j h3]; exact h.cross _ _ (by omega) (by omega) (by omega) h4
  · intro i j h1 h2 h3 h4
    by_cases hi : i < s
    · rw [f1 i hi]
      by_cases hj : j < e
      · rw [f3 j h3 hj]; exact h.left _ _ h1 (by omega) (by omega)
      · rw [f4 j (by omega)]
        have hb1 := b1 (by omega)
        rw [show c + m - 1 - (s - 1) = e by omega] at hb1
        have x1 : ltT l d[j]! d[s - 1]! = false := by
          by_cases ej : j = e
          · rw [ej]; exact hb1
          · exact hS.ntrans _ _ _ (h.right e j hme (by omega) h4) hb1
        by_cases ei : i = s - 1
        · rw [ei]; exact x1
        · exact hS.ntrans _ _ _ x1 (h.left i (s - 1) h1 (by omega) (by omega))
    · rw [f2 i (by omega) h2]
      by_cases hj : j < e
      · rw [f3 j h3 hj]
        have hb2 := ltT_asym (b2 (by omega))
        rw [show c + m - 1 - s = e - 1 by omega] at hb2
        have x1 : ltT l d[j - (e - m)]! d[e - 1]! = false := by
          by_cases ej : j - (e - m) = s
          · rw [ej]; exact hb2
          · exact hS.ntrans _ _ _ (h.left s (j - (e - m)) (by omega) (by omega) (by omega)) hb2
        by_cases ei : i + (m - s) = e - 1
        · rw [ei]; exact x1
        · exact hS.ntrans _ _ _ x1 (h.right _ _ (by omega) (by omega) (by omega))
      · rw [f4 j (by omega)]; exact h.right _ _ (by omega) (by omega) h4

/-- The two merges done, all is sorted. -/
theorem halves_done {lt : Int → Int → Bool} {a c b : Nat} {d d1 d2 : Array Int} (hb : b ≤ d.size) (hac : a ≤ c) (hcb : c ≤ b) (hx : ∀ i j, a ≤ i → i < c → c ≤ j → j < b → lt d[j]! d[i]! = false)
    (p1 : PermIn a c d d1) (s1 : SortedIn lt a c d1) (p2 : PermIn c b d1 d2) (s2 : SortedIn lt c b d2) : SortedIn lt a b d2 := by
  have e1 : ∀ i, i < c → d2[i]! = d1[i]! := fun i hi => p2.2.1 i (.inl hi)
  have e2 : ∀ j, c ≤ j → d1[j]! = d[j]! := fun j hj => p1.2.1 j (.inr hj)
  intro i j h1 h2 h3
  by_cases hj : j < c
  · rw [e1 i (by omega), e1 j hj]; exact s1 i j h1 h2 hj
  · by_cases hi : i < c
    · rw [e1 i hi]
      have q1 : ∀ j, c ≤ j → j < b → ∀ i, a ≤ i → i < c → lt d[j]! d1[i]! = false := fun j hj hj2 =>
        permIn_all d d1 a c (fun x => lt d[j]! x = false) (by omega) p1 (fun i h1 h2 => hx i j h1 h2 hj hj2)
      have q2 := permIn_all d1 d2 c b (fun y => lt y d1[i]! = false) (by rw [p1.1]; exact hb) p2 (fun j hj hj2 => by rw [e2 j hj]; exact q1 j hj hj2 i h1 hi)
      exact q2 j (by omega) h3
    · exact s2 i j (by omega) h2 h3

theorem SortedIn.mono {lt : Int → Int → Bool} {a b a' b' : Nat} {d : Array Int} (h : SortedIn lt a b d) (ha : a ≤ a') (hb : b' ≤ b) : SortedIn lt a' b' d := fun i j h1 h2 h3 => h i j (by omega) h2 (by omega)
theorem SortedIn.congr {lt : Int → Int → Bool} {a b : Nat} {d d' : Array Int} (h : SortedIn lt a b d) (hd : ∀ k, a ≤ k → k < b → d'[k]! = d[k]!) : SortedIn lt a b d' := fun i j h1 h2 h3 => by rw [hd i h1 (by omega), hd j (by omega) h3]; exact h i j h1 h2 h3

end Go.Proofs.Ytmnnpfohjffniaa
