/-
  Full decompositions, plain mathematics: sizes are settled after 256 steps; the expansion in rounds; composable decompositions.
-/
import Derived.Test.YtmkaclfjekjabaaDoorTabSpec
namespace Go.Proofs.YtmkaclfjekjabaaDoor

theorem sz_zero {l : List Mp} {c : Int} (k : Nat) (h : findM l c = []) : sz l k c = 1 := by
  cases k <;> simp [sz, h]
theorem sz_succ {l : List Mp} {c : Int} (k : Nat) (h : findM l c ≠ []) : sz l (k + 1) c = min 19 ((findM l c).map (sz l k)).sum := by
  rw [sz, if_neg h]

theorem sum_mem {α : Type} (f : α → Nat) (l : List α) (x : α) (h : x ∈ l) : f x ≤ (l.map f).sum := by
  induction l with
  | nil => cases h
  | cons y r ih =>
    rw [List.map_cons, List.sum_cons]
    rcases List.mem_cons.1 h with rfl | h
    · omega
    · have := ih h; omega

theorem sum_length {α : Type} (f : α → Nat) (l : List α) (h : ∀ x ∈ l, 1 ≤ f x) : l.length ≤ (l.map f).sum := by
  induction l with
  | nil => simp
  | cons y r ih =>
    have h1 := h y (by simp)
    have h2 := ih fun x hx => h x (by simp [hx])
    simp only [List.map_cons, List.sum_cons, List.length_cons]; omega

theorem sz_bd (l : List Mp) (k : Nat) (c : Int) : 1 ≤ sz l k c ∧ sz l k c ≤ 19 := by
  induction k generalizing c with
  | zero => simp only [sz]; split <;> omega
  | succ k ih =>
    by_cases h : findM l c = []
    · rw [sz_zero _ h]; omega
    · rw [sz_succ _ h]
      have h1 := sum_length (sz l k) (findM l c) fun x _ => (ih x).1
      have h2 : 1 ≤ (findM l c).length := by
        cases hc : findM l c with
        | nil => exact absurd hc h
        | cons _ _ => simp
      omega

/-- No chain of more than k decompositions begins at c. -/
def Dp (l : List Mp) : Nat → Int → Prop
  | 0, c => findM l c = []
  | k + 1, c => ∀ x ∈ findM l c, Dp l k x

theorem Dp.nil {l : List Mp} {c : Int} (k : Nat) (h : findM l c = []) : Dp l k c := by
  cases k with
  | zero => exact h
  | succ k => intro x hx; rw [h] at hx; cases hx

theorem Dp.succ {l : List Mp} {k : Nat} {c : Int} (h : Dp l k c) : Dp l (k + 1) c := by
  induction k generalizing c with
  | zero => exact Dp.nil _ h
  | succ k ih => intro x hx; exact ih (h x hx)

theorem Dp.le {l : List Mp} {k j : Nat} {c : Int} (h : Dp l k c) (hj : k ≤ j) : Dp l j c := by
  obtain ⟨d, rfl⟩ : ∃ d, j = k + d := ⟨j - k, by omega⟩
  clear hj
  induction d with
  | zero => exact h
  | succ d ih => exact ih.succ

theorem sz_dp {l : List Mp} {k : Nat} {c : Int} (h : Dp l k c) : sz l (k + 1) c = sz l k c := by
  induction k generalizing c with
  | zero => rw [sz_zero _ h, sz_zero _ h]
  | succ k ih =>
    by_cases hc : findM l c = []
    · rw [sz_zero _ hc, sz_zero _ hc]
    · rw [sz_succ _ hc, sz_succ _ hc]
      congr 2
      exact List.map_congr_left fun x hx => ih (h x hx)

/-- c leads to d, in one step or more. -/
inductive Rch (l : List Mp) : Int → Int → Prop
  | one {c d : Int} : d ∈ findM l c → Rch l c d
  | more {c d e : Int} : d ∈ findM l c → Rch l d e → Rch l c e

theorem Rch.snoc {l : List Mp} {c d e : Int} (h : Rch l c d) (k : e ∈ findM l d) : Rch l c e := by
  induction h with
  | one h => exact .more h (.one k)
  | more h _ ih => exact .more h (ih k)

theorem Rch.first {l : List Mp} {c : Int} (h : Rch l c c) : ∃ d ∈ findM l c, Rch l d d := by
  cases h with
  | one h => exact ⟨c, h, .one h⟩
  | more h k => exact ⟨_, h, k.snoc h⟩

theorem ne_nil_of_mem' {α : Type} {l : List α} {x : α} (h : x ∈ l) : l ≠ [] := by
  rintro rfl; cases h

theorem sz_part {l : List Mp} {k : Nat} {c d : Int} (h : d ∈ findM l c) (hd : sz l k d = 19) : sz l (k + 1) c = 19 := by
  rw [sz_succ _ (ne_nil_of_mem' h)]
  have := sum_mem (sz l k) _ d h
  omega

theorem sz_ring {l : List Mp} (k : Nat) {c : Int} (h : Rch l c c) : sz l k c = 19 := by
  induction k generalizing c with
  | zero =>
    obtain ⟨d, hd, _⟩ := h.first
    rw [sz, if_neg (ne_nil_of_mem' hd)]
  | succ k ih =>
    obtain ⟨d, hd, hr⟩ := h.first
    exact sz_part hd (ih hr)

theorem sz_to_ring {l : List Mp} {c d : Int} (h : Rch l c d) (hd : Rch l d d) (k : Nat) : sz l k c = 19 := by
  induction h generalizing k with
  | one h =>
    cases k with
    | zero => rw [sz, if_neg (ne_nil_of_mem' h)]
    | succ k => exact sz_part h (sz_ring k hd)
  | more h _ ih =>
    cases k with
    | zero => rw [sz, if_neg (ne_nil_of_mem' h)]
    | succ k => exact sz_part h (ih hd k)

/-- A chain of decompositions. -/
def chainP (l : List Mp) : Int → List Int → Prop
  | _, [] => True
  | c, d :: r => d ∈ findM l c ∧ chainP l d r

theorem chain_of_not_dp {l : List Mp} (k : Nat) (c : Int) (h : ¬ Dp l k c) : ∃ r, r.length = k ∧ chainP l c r ∧ ∀ x ∈ c :: r, findM l x ≠ [] := by
  induction k generalizing c with
  | zero => exact ⟨[], rfl, trivial, by intro x hx; rw [List.mem_singleton] at hx; subst hx; exact h⟩
  | succ k ih =>
    obtain ⟨x, hx⟩ := Classical.not_forall.1 h
    obtain ⟨hx, hd⟩ := Classical.not_imp.1 hx
    obtain ⟨r, h1, h2, h3⟩ := ih x hd
    refine ⟨x :: r, by simp [h1], ⟨hx, h2⟩, ?_⟩
    intro y hy
    rcases List.mem_cons.1 hy with rfl | hy
    · exact ne_nil_of_mem' hx
    · exact h3 y hy

theorem rch_of_chain {l : List Mp} (c : Int) (r : List Int) (h : chainP l c r) : ∀ x ∈ r, Rch l c x := by
  induction r generalizing c with
  | nil => intro x hx; cases hx
  | cons d r ih =>
    intro x hx
    rcases List.mem_cons.1 hx with rfl | hx
    · exact .one h.1
    · exact .more h.1 (ih d h.2 x hx)

theorem ring_of_chain {l : List Mp} (c : Int) (r : List Int) (h : chainP l c r) (hn : ¬ (c :: r).Nodup) : ∃ x, (x = c ∨ Rch l c x) ∧ Rch l x x := by
  induction r generalizing c with
  | nil => exact absurd (by simp) hn
  | cons d r ih =>
    by_cases hc : c ∈ d :: r
    · exact ⟨c, .inl rfl, rch_of_chain c _ h c hc⟩
    · have hd : ¬ (d :: r).Nodup := fun hd => hn (List.nodup_cons.2 ⟨hc, hd⟩)
      obtain ⟨x, hx, hr⟩ := ih d h.2 hd
      rcases hx with rfl | hx
      · exact ⟨x, .inr (.one h.1), hr⟩
      · exact ⟨x, .inr (.more h.1 hx), hr⟩

theorem pigeon (a m : List Int) (hn : a.Nodup) (h : ∀ x ∈ a, x ∈ m) : a.length ≤ m.length := by
  induction a generalizing m with
  | nil => simp
  | cons x r ih =>
    rw [List.nodup_cons] at hn
    have hx := h x (by simp)
    have := ih (m.erase x) hn.2 fun y hy => (List.mem_erase_of_ne (fun e => hn.1 (by rw [← e]; exact hy))).2 (h y (by simp [hy]))
    rw [List.length_erase_of_mem hx] at this
    have := List.length_pos_of_mem hx
    simp only [List.length_cons]; omega

theorem has_of_find {l : List Mp} {c : Int} (h : findM l c ≠ []) : c ∈ froms l := by
  cases hb : hasM l c with
  | false => exact absurd (findM_nil hb) h
  | true => obtain ⟨m, hm, rfl⟩ := hasM_iff.1 hb; exact List.mem_map_of_mem hm

theorem sz_deep {l : List Mp} {c : Int} (hl : l.length ≤ 256) (h : ¬ Dp l 256 c) (k : Nat) : sz l k c = 19 := by
  obtain ⟨r, h1, h2, h3⟩ := chain_of_not_dp 256 c h
  have hn : ¬ (c :: r).Nodup := by
    intro hn
    have := pigeon (c :: r) (froms l) hn fun x hx => has_of_find (h3 x hx)
    simp only [List.length_cons, h1, froms, List.length_map] at this
    omega
  obtain ⟨x, hx, hr⟩ := ring_of_chain c r h2 hn
  rcases hx with rfl | hx
  · exact sz_ring k hr
  · exact sz_to_ring hx hr k

/-- The size of the full decomposition of c, 19 for all that is more than 18. -/
def siz (l : List Mp) (c : Int) : Nat := sz l 256 c

theorem siz_bd (l : List Mp) (c : Int) : 1 ≤ siz l c ∧ siz l c ≤ 19 := sz_bd l 256 c
theorem siz_nil {l : List Mp} {c : Int} (h : findM l c = []) : siz l c = 1 := sz_zero _ h
theorem siz_eq {l : List Mp} {c : Int} (hl : l.length ≤ 256) (h : findM l c ≠ []) : siz l c = min 19 ((findM l c).map (siz l)).sum := by
  rw [show (siz l : Int → Nat) = sz l 256 from rfl, ← sz_succ 256 h]
  by_cases hd : Dp l 256 c
  · exact (sz_dp hd).symm
  · exact (sz_deep hl hd _).trans (sz_deep hl hd _).symm
theorem siz_dp {l : List Mp} {c : Int} (hl : l.length ≤ 256) (h : siz l c ≤ 18) : Dp l 256 c := by
  apply Classical.byContradiction
  intro hd
  have := sz_deep hl hd 256
  unfold siz at h; omega
theorem siz_ring {l : List Mp} {c : Int} (h : Rch l c c) : siz l c = 19 := sz_ring 256 h

/-- The full decomposition in k steps. -/
def fulF (l : List Mp) : Nat → Int → List Int
  | 0, c => [c]
  | k + 1, c => if findM l c = [] then [c] else (findM l c).flatMap (fulF l k)

def ful (l : List Mp) (c : Int) : List Int := fulF l 256 c

theorem fulF_nil {l : List Mp} {c : Int} (k : Nat) (h : findM l c = []) : fulF l k c = [c] := by
  cases k <;> simp [fulF, h]
theorem fulF_dp {l : List Mp} {k : Nat} {c : Int} (h : Dp l k c) : fulF l (k + 1) c = fulF l k c := by
  induction k generalizing c with
  | zero => rw [fulF_nil _ h, fulF_nil _ h]
  | succ k ih =>
    by_cases hc : findM l c = []
    · rw [fulF_nil _ hc, fulF_nil _ hc]
    · rw [fulF, if_neg hc]
      conv => rhs; rw [fulF, if_neg hc]
      rw [List.flatMap_def, List.flatMap_def]
      congr 1
      exact List.map_congr_left fun x hx => ih (h x hx)

theorem ful_nil {l : List Mp} {c : Int} (h : findM l c = []) : ful l c = [c] := fulF_nil _ h
theorem ful_eq {l : List Mp} {c : Int} (hd : Dp l 256 c) (h : findM l c ≠ []) : ful l c = (findM l c).flatMap (ful l) := by
  unfold ful
  rw [← fulF_dp hd, fulF, if_neg h]

/-- One round of the reference. -/
def exp1 (l : List Mp) (xs : List Int) : List Int := xs.flatMap fun x => if findM l x = [] then [x] else findM l x
def endB (l : List Mp) (xs : List Int) : Bool := xs.all fun x => decide (findM l x = [])
def fullR (l : List Mp) : Nat → List Int → Option (List Int)
  | 0, _ => none
  | r + 1, xs => if endB l xs = true then some xs else if 18 < (exp1 l xs).length then none else fullR l r (exp1 l xs)

theorem exp1_snoc (l : List Mp) (a : List Int) (x : Int) : exp1 l (a ++ [x]) = exp1 l a ++ if findM l x = [] then [x] else findM l x := by simp [exp1]
theorem endB_snoc (l : List Mp) (a : List Int) (x : Int) : endB l (a ++ [x]) = (endB l a && decide (findM l x = [])) := by simp [endB]

theorem sum_siz_pos (l : List Mp) (xs : List Int) : xs.length ≤ (xs.map (siz l)).sum := sum_length _ _ fun x _ => (siz_bd l x).1

theorem sum_exp1 {l : List Mp} (hl : l.length ≤ 256) (xs : List Int) : min 19 ((exp1 l xs).map (siz l)).sum = min 19 (xs.map (siz l)).sum := by
  induction xs with
  | nil => rfl
  | cons x r ih =>
    have e : exp1 l (x :: r) = (if findM l x = [] then [x] else findM l x) ++ exp1 l r := by simp [exp1]
    rw [e, List.map_append, List.sum_append, List.map_cons, List.sum_cons]
    by_cases hx : findM l x = []
    · rw [if_pos hx]; simp only [List.map_cons, List.map_nil, List.sum_cons, List.sum_nil]; omega
    · rw [if_neg hx, siz_eq hl hx]; omega

theorem all_nil_sum {l : List Mp} (xs : List Int) (h : endB l xs = true) : (xs.map (siz l)).sum = xs.length := by
  induction xs with
  | nil => rfl
  | cons x r ih =>
    simp only [endB, List.all_cons, Bool.and_eq_true, decide_eq_true_eq] at h
    rw [List.map_cons, List.sum_cons, siz_nil h.1, ih (by simpa [endB] using h.2), List.length_cons]; omega

theorem fullR_no {l : List Mp} (hl : l.length ≤ 256) (r : Nat) (xs : List Int) (h : 19 ≤ (xs.map (siz l)).sum) (hx : xs.length ≤ 18) : fullR l r xs = none := by
  induction r generalizing xs with
  | zero => rfl
  | succ r ih =>
    rw [fullR]
    by_cases he : endB l xs = true
    · have := all_nil_sum xs he; omega
    · rw [if_neg he]
      split
      · rfl
      · rename_i hb
        have := sum_exp1 hl xs
        exact ih _ (by omega) (by omega)

theorem flat_nil {l : List Mp} (k : Nat) (xs : List Int) (h : endB l xs = true) : xs.flatMap (fulF l k) = xs := by
  induction xs with
  | nil => rfl
  | cons x r ih =>
    simp only [endB, List.all_cons, Bool.and_eq_true, decide_eq_true_eq] at h
    rw [List.flatMap_cons, fulF_nil _ h.1, ih (by simpa [endB] using h.2)]; rfl

theorem flat_exp1 (l : List Mp) (k : Nat) (xs : List Int) : (exp1 l xs).flatMap (fulF l k) = xs.flatMap (fulF l (k + 1)) := by
  induction xs with
  | nil => rfl
  | cons x r ih =>
    have e : exp1 l (x :: r) = (if findM l x = [] then [x] else findM l x) ++ exp1 l r := by simp [exp1]
    rw [e, List.flatMap_append, ih, List.flatMap_cons]
    congr 1
    by_cases hx : findM l x = []
    · rw [if_pos hx, fulF_nil _ hx]; simp [fulF_nil k hx]
    · rw [if_neg hx, fulF, if_neg hx]

theorem fullR_yes {l : List Mp} (hl : l.length ≤ 256) (r : Nat) (xs : List Int) (h : (xs.map (siz l)).sum ≤ 18) (hd : ∀ x ∈ xs, Dp l r x) : fullR l (r + 1) xs = some (xs.flatMap (fulF l r)) := by
  induction r generalizing xs with
  | zero =>
    have he : endB l xs = true := by
      rw [endB, List.all_eq_true]; intro x hx; rw [decide_eq_true_eq]; exact hd x hx
    rw [fullR, if_pos he, flat_nil _ _ he]
  | succ r ih =>
    rw [fullR]
    by_cases he : endB l xs = true
    · rw [if_pos he, flat_nil _ _ he]
    · have h1 := sum_exp1 hl xs
      have h2 := sum_siz_pos l (exp1 l xs)
      rw [if_neg he, if_neg (by omega), ih (exp1 l xs) (by omega) ?_, flat_exp1]
      intro y hy
      simp only [exp1, List.mem_flatMap] at hy
      obtain ⟨x, hx, hy⟩ := hy
      by_cases hf : findM l x = []
      · rw [if_pos hf, List.mem_singleton] at hy; subst hy; exact Dp.nil _ hf
      · rw [if_neg hf] at hy; exact hd x hx y hy

theorem full_eq {l : List Mp} (hl : l.length ≤ 256) (c : Int) : fullR l 257 [c] = if siz l c ≤ 18 then some (ful l c) else none := by
  by_cases h : siz l c ≤ 18
  · rw [if_pos h, fullR_yes hl 256 [c] (by simpa using h) (by intro x hx; rw [List.mem_singleton] at hx; subst hx; exact siz_dp hl h)]
    simp [ful]
  · have := siz_bd l c
    rw [if_neg h, fullR_no hl 257 [c] (by simp; omega) (by simp)]

theorem fulF_ne (l : List Mp) (k : Nat) (c : Int) : fulF l k c ≠ [] := by
  induction k generalizing c with
  | zero => simp [fulF]
  | succ k ih =>
    by_cases h : findM l c = []
    · rw [fulF_nil _ h]; simp
    · rw [fulF, if_neg h]
      cases hc : findM l c with
      | nil => exact absurd hc h
      | cons x r => simp [ih x]

/-- The last element of the full decomposition. -/
def lastF (l : List Mp) (c : Int) : Int := (ful l c).getLastD 0

theorem lastF_nil {l : List Mp} {c : Int} (h : findM l c = []) : lastF l c = c := by rw [lastF, ful_nil h]; rfl
theorem lastF_two {l : List Mp} {c a b : Int} (hd : Dp l 256 c) (h : findM l c = [a, b]) (hb : findM l b = []) : lastF l c = b := by
  rw [lastF, ful_eq hd (by rw [h]; simp), h]
  simp only [List.flatMap_cons, List.flatMap_nil, List.append_nil, ful_nil hb]
  simp [List.getLastD_eq_getLast?]

/-- Composable decompositions. -/
def cmpF (T : Tb) : Nat → Int → Bool
  | 0, _ => false
  | k + 1, c => match findM T.dec c with
    | [a, b] => !excT T c && (decide (clsT T c = 0) && (decide (clsT T a = 0) && (!hasM T.dec b && ((!hasM T.dec a || cmpF T k a) && (decide (clsT T b = 0) || decide (clsT T (lastF T.dec a) ≤ clsT T b))))))
    | _ => false

def compT (T : Tb) (c : Int) : Bool := cmpF T 257 c

theorem cmpF_dp {T : Tb} {k : Nat} {c : Int} (h : Dp T.dec k c) : cmpF T (k + 2) c = cmpF T (k + 1) c := by
  induction k generalizing c with
  | zero =>
    have h0 : findM T.dec c = [] := h
    rw [cmpF, cmpF, h0]
  | succ k ih =>
    rw [cmpF]
    conv => rhs; rw [cmpF]
    cases hf : findM T.dec c with
    | nil => rfl
    | cons a r =>
      cases r with
      | nil => rfl
      | cons b r =>
        cases r with
        | nil => simp only; rw [ih (h a (by rw [hf]; simp))]
        | cons _ _ => rfl

theorem compT_two {T : Tb} {c a b : Int} (h : Dp T.dec 256 c) (hf : findM T.dec c = [a, b]) :
    compT T c = (!excT T c && (decide (clsT T c = 0) && (decide (clsT T a = 0) && (!hasM T.dec b && ((!hasM T.dec a || compT T a) && (decide (clsT T b = 0) || decide (clsT T (lastF T.dec a) ≤ clsT T b))))))) := by
  have := cmpF_dp h
  unfold compT
  rw [← this, cmpF, hf]
theorem compT_not {T : Tb} {c : Int} (h : (findM T.dec c).length ≠ 2) : compT T c = false := by
  unfold compT
  rw [cmpF]
  cases hf : findM T.dec c with
  | nil => rfl
  | cons a r =>
    cases r with
    | nil => rfl
    | cons b r =>
      cases r with
      | nil => rw [hf] at h; simp at h
      | cons _ _ => rfl

/-- Rules 6 to 9. -/
def r6 (T : Tb) : Bool := T.dec.all short2 && T.dec.all fun m => decide (siz T.dec m.1 ≤ 18)
def r7 (T : Tb) : Bool := T.exc.all (hasM T.dec)
def cmpTos (T : Tb) (l : List Mp) : List (List Int) := (l.filter fun m => compT T m.1).map (·.2)
def r8 (T : Tb) : Bool := decide (cmpTos T T.dec).Nodup
def plain (T : Tb) (c : Int) : Bool := !hasM T.dec c && !ignT T c
def proOk (T : Tb) (m : Mp) : Bool := plain T m.1 && m.2.all fun c => !hasM T.pro c && (!sylB c && plain T c)
def r9 (T : Tb) : Bool := T.pro.all (proOk T)

/-- Check. -/
def checkT (T : Tb) : Int :=
  if r1 T = false then 1 else if r2 T = false then 2 else if r3 T = false then 3 else if r4 T = false then 4 else if r5 T = false then 5 else if r6 T = false then 6 else if r7 T = false then 7 else if r8 T = false then 8 else if r9 T = false then 9 else 0

end Go.Proofs.YtmkaclfjekjabaaDoor
