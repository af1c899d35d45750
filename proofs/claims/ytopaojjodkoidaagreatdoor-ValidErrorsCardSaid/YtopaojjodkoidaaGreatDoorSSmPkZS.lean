/- compose: plain mathematics: pairs, normalization form C, and -/
import Derived.Test.YtopaojjodkoidaaGreatDoorSSmPkZ
import Derived.Test.YtopaojjodkoidaaGreatDoorSSmPkZZR
import Derived.Test.YtopaojjodkoidaaGreatDoorSSmPkC
import Derived.Test.YtopaojjodkoidaaGreatDoorSSmPkG
import Derived.Test.YtopaojjodkoidaaGreatDoorSSmPkE
import Derived.Maps.OwnSet
set_option linter.unusedSimpArgs false
set_option linter.unusedVariables false
namespace Go.Proofs.YtopaojjodkoidaaGreatDoor
def pairO (T : Tb) (a b : Int) : Option Int :=
 if (compS a b).2 = true then some (compS a b).1 else (T.dec.find? fun m => decide (m.2 = [a, b]) && compT T m.1).map (·.1)
def secB (T : Tb) (c : Int) : Bool :=
 decide (kindS c = 2) || (decide (kindS c = 3) || T.dec.any fun m => decide (m.2.length = 2) && (decide (m.2.getD 1 0 = c) && compT T m.1))
def unbl (T : Tb) (M : List Int) (c : Int) : Prop := ∀ m, M.getLast? = some m → clsT T m < clsT T c
instance (T : Tb) (M : List Int) (c : Int) : Decidable (unbl T M c) := by
 unfold unbl
 cases h : M.getLast? with
 | none => exact isTrue (fun m hm => by cases hm)
 | some m =>
  by_cases hd : clsT T m < clsT T c
  ·exact isTrue (fun m' hm => by injection hm with hm; subst hm; exact hd)
  ·exact isFalse (fun hf => hd (hf m rfl))
def stepO (T : Tb) (s : Int) (M : List Int) (c : Int) : Option Int := if unbl T M c then pairO T s c else none
def goN (T : Tb) : Int → List Int → List Int → List Int
 | s, M, [] => s :: M
 | s, M, c :: r => match stepO T s M c with
  | some p => goN T p M r
  | none => if clsT T c = 0 then s :: M ++ goN T c [] r else goN T s (M ++ [c]) r
def go0 (T : Tb) : List Int → List Int → List Int
 | M, [] => M
 | M, c :: r => if clsT T c = 0 then M ++ goN T c [] r else go0 T (M ++ [c]) r
def nfcS (T : Tb) (d : List Int) : List Int := go0 T [] d
theorem goN_some {T : Tb} {s c p : Int} {M r : List Int} (h : stepO T s M c = some p) : goN T s M (c :: r) = goN T p M r := by
 rw [goN, h]
theorem goN_start {T : Tb} {s c : Int} {M r : List Int} (h : stepO T s M c = none) (hc : clsT T c = 0) : goN T s M (c :: r) = s :: M ++ goN T c [] r := by
 rw [goN, h]; simp only; rw [if_pos hc]
theorem goN_mark {T : Tb} {s c : Int} {M r : List Int} (h : stepO T s M c = none) (hc : clsT T c ≠ 0) : goN T s M (c :: r) = goN T s (M ++ [c]) r := by
 rw [goN, h]; simp only; rw [if_neg hc]
theorem stepO_pair {T : Tb} {s c p : Int} {M : List Int} (h : stepO T s M c = some p) : unbl T M c ∧ pairO T s c = some p := by
 unfold stepO at h
 split at h
 ·exact ⟨by assumption, h⟩
 ·cases h
theorem stepO_no {T : Tb} {s c : Int} {M : List Int} (h : pairO T s c = none) : stepO T s M c = none := by
 unfold stepO; split
 ·exact h
 ·rfl
theorem stepO_yes {T : Tb} {s c p : Int} {M : List Int} (hu : unbl T M c) (h : pairO T s c = some p) : stepO T s M c = some p := by
 unfold stepO; rw [if_pos hu, h]
theorem cls_res {T : Tb} (h : checkT T = 0) {c : Int} (hc : resB c = true) : clsT T c = 0 := by
 have h2 := (check_rules h).2.1
 have hs : spOk T.cls = true := by
  unfold r2 spansT at h2
  simp only [List.all_cons, Bool.and_eq_true] at h2
  exact h2.1.2.1
 unfold clsT
 rw [val_res hs hc]
 rfl
theorem dec_find {T : Tb} (h : checkT T = 0) {m : Mp} (hm : m ∈ T.dec) : findM T.dec m.1 = m.2 := by
 obtain ⟨k, hk, e⟩ := List.mem_iff_getElem.1 hm
 have ha := (r2_key (check_rules h).2.1).2.2.1
 have e2 : T.dec.getD k mp0 = m := by simp [hk, e]
 have := findM_at ha k hk
 rw [e2] at this
 exact this
theorem dec_from {T : Tb} (h : checkT T = 0) {c : Int} (hf : findM T.dec c ≠ []) : decS c = [] ∧ resB c = false ∧ scaB c = true := by
 have hr : resB c = false := by
  cases hb : resB c with
  | false => rfl
  | true => exact absurd (dec_res h hb) hf
 have hn : ¬ (resB c = true) := by rw [hr]; simp
 rw [resB_iff] at hn
 have hk := has_of_find hf
 have ha := ascI_mem (r2_key (check_rules h).2.1).2.2.1 hk
 refine ⟨decS_nil.2 (by omega), hr, ?_⟩
 unfold scaB
 simp
 omega
theorem comp_two {T : Tb} (h : checkT T = 0) {x : Int} (hx : compT T x = true) :
 ∃ a b, findM T.dec x = [a, b] ∧ clsT T x = 0 ∧ clsT T a = 0 ∧ Fin1 T b ∧ (findM T.dec a = [] ∨ compT T a = true) ∧ (clsT T b = 0 ∨ clsT T (lastF T.dec a) ≤ clsT T b) := by
 have hl : (findM T.dec x).length = 2 := by
  apply Classical.byContradiction
  intro hne
  rw [compT_not hne] at hx
  cases hx
 obtain ⟨a, b, hf⟩ : ∃ a b, findM T.dec x = [a, b] := by
  cases hf : findM T.dec x with
  | nil => rw [hf] at hl; cases hl
  | cons a r =>
   cases r with
   | nil => rw [hf] at hl; cases hl
   | cons b r =>
    cases r with
    | nil => exact ⟨a, b, rfl⟩
    | cons c r => rw [hf] at hl; simp at hl
 rw [compT_two (dec_dp h x) hf] at hx
 simp only [Bool.and_eq_true, decide_eq_true_eq, Bool.or_eq_true, Bool.not_eq_true'] at hx
 obtain ⟨_, c1, c2, hb, ha, hc⟩ := hx
 have hp : b ∈ findM T.dec x := by rw [hf]; simp
 have hb2 := dec_part h hp
 refine ⟨a, b, hf, c1, c2, ⟨hb2.1, findM_nil hb, hb2.2⟩, ?_, hc⟩
 rcases ha with ha | ha
 ·exact .inl (findM_nil ha)
 ·exact .inr ha
theorem comp_ne {T : Tb} (h : checkT T = 0) {x : Int} (hx : compT T x = true) : findM T.dec x ≠ [] := by
 obtain ⟨a, b, hf, _⟩ := comp_two h hx
 rw [hf]; simp
theorem pair_cases {T : Tb} (h : checkT T = 0) {a b p : Int} (hp : pairO T a b = some p) :
 (((kindS a = 1 ∧ kindS b = 2) ∨ (kindS a = 4 ∧ kindS b = 3)) ∧ (kindS p = 4 ∨ kindS p = 5) ∧ decS p = flatS a ++ [b]) ∨ (findM T.dec p = [a, b] ∧ compT T p = true) := by
 unfold pairO at hp
 split at hp
 ·rename_i ho
  left
  injection hp with hp
  rcases compS_cases (a := a) (b := b) (x := (compS a b).1) (o := (compS a b).2) rfl with ⟨_, h1, h2, h3⟩ | ⟨_, h1, h2, h3⟩ | ⟨h1, _⟩
  ·rw [hp] at h3
   have := comp_lv h1 h2 h3
   exact ⟨.inl ⟨h1, h2⟩, .inl this.1, this.2⟩
  ·rw [hp] at h3
   have := comp_lvt h1 h2 h3
   exact ⟨.inr ⟨h1, h2⟩, .inr this.1, this.2⟩
  ·rw [h1] at ho; cases ho
 ·right
  rw [Option.map_eq_some_iff] at hp
  obtain ⟨m, hm, rfl⟩ := hp
  have h1 := List.find?_some hm
  have h2 := List.mem_of_find?_eq_some hm
  simp only [Bool.and_eq_true, decide_eq_true_eq] at h1
  exact ⟨by rw [dec_find h h2, h1.1], h1.2⟩
theorem kind_syl {c : Int} (h : kindS c = 4 ∨ kindS c = 5) : 44032 ≤ c ∧ c ≤ 55203 := by
 rcases h with h | h
 ·rw [kindS_4] at h; omega
 ·rw [kindS_5] at h; omega
theorem pair_exp {T : Tb} (h : checkT T = 0) {a b p : Int} (hp : pairO T a b = some p) (hb : Fin1 T b) :
 expT T p = expT T a ++ [b] ∧ clsT T p = 0 ∧ scaB p = true ∧ (findM T.dec p = [] ∨ compT T p = true) := by
 rcases pair_cases h hp with ⟨hk, hs, hd⟩ | ⟨hf, hc⟩
 ·have hps := kind_syl hs
  have hres : resB p = true := resB_iff.2 (by omega)
  refine ⟨?_, cls_res h hres, by unfold scaB; simp; omega, .inl (dec_res h hres)⟩
  have e1 : expT T p = decS p := by
   unfold expT
   rw [if_neg (by rw [hd]; simp)]
  rw [e1, hd]
  congr 1
  unfold flatS expT
  by_cases ha : decS a = []
  ·rw [if_pos ha, if_pos ha]
   have hra : resB a = true := by
    rcases hk with ⟨h1, _⟩ | ⟨h1, _⟩
    ·rw [kindS_1] at h1; exact resB_iff.2 (by omega)
    ·have := kind_syl (.inl h1); exact resB_iff.2 (by omega)
   rw [ful_nil (dec_res h hra)]
  ·rw [if_neg ha, if_neg ha]
 ·have hne := comp_ne h hc
  obtain ⟨d1, _, d3⟩ := dec_from h hne
  obtain ⟨a2, b2, hf2, c1, _⟩ := comp_two h hc
  refine ⟨?_, c1, d3, .inr hc⟩
  rw [exp_rec h d1 hne, hf]
  rw [all_cons, all_cons, hb.exp]
  simp [flatT]
theorem pair_sec {T : Tb} (h : checkT T = 0) {a b p : Int} (hp : pairO T a b = some p) : secB T b = true := by
 unfold secB
 rcases pair_cases h hp with ⟨hk, _⟩ | ⟨hf, hc⟩
 ·rcases hk with ⟨_, h2⟩ | ⟨_, h2⟩ <;> simp [h2]
 ·have hm := findM_mem (l := T.dec) (c := p) (by rw [hf]; simp)
  rw [hf] at hm
  simp only [Bool.or_eq_true, List.any_eq_true]
  right; right
  exact ⟨_, hm, by simp [hc]⟩
theorem pair_no {T : Tb} (h : checkT T = 0) {a b : Int} (hb : secB T b = false) : pairO T a b = none := by
 cases hp : pairO T a b with
 | none => rfl
 | some p => rw [pair_sec h hp] at hb; cases hb
theorem forb_kind {c : Int} (h : forb c = false) : kindS c = 0 := by
 unfold forb at h
 simp only [Bool.or_eq_false_iff] at h
 have h1 : ¬ (sylB c = true) := by rw [h.2.1]; simp
 have h2 : ¬ (jamB c = true) := by rw [h.2.2]; simp
 rw [sylB_iff] at h1
 rw [jamB_iff] at h2
 exact kindS_0 (by omega) (by omega) (by omega) (by omega)
theorem dec_forb {T : Tb} (h : checkT T = 0) {c x : Int} (hx : x ∈ findM T.dec c) : forb x = false := by
 have h6 := (check_rules h).2.2.2.2
 have hm := findM_mem (ne_nil_of_mem' hx)
 unfold r6 at h6
 simp only [Bool.and_eq_true, List.all_eq_true] at h6
 have b := h6.1 _ hm
 unfold short2 at b
 simp only [Bool.and_eq_true, List.all_eq_true] at b
 simpa using b.2 x hx
theorem check_r8 {T : Tb} (h : checkT T = 0) : r8 T = true := by
 unfold checkT at h
 split at h
 ·omega
 split at h
 ·omega
 split at h
 ·omega
 split at h
 ·omega
 split at h
 ·omega
 split at h
 ·omega
 split at h
 ·omega
 split at h
 ·omega
 rename_i h8
 simpa using h8
theorem pair_comp {T : Tb} (h : checkT T = 0) {x a b : Int} (hx : compT T x = true) (hf : findM T.dec x = [a, b]) : pairO T a b = some x := by
 have ha : kindS a = 0 := forb_kind (dec_forb h (c := x) (by rw [hf]; simp))
 have hn : (compS a b).2 = false := by
  rw [compS_no (by rw [ha]; omega) (by rw [ha]; omega)]
 unfold pairO
 rw [if_neg (by rw [hn]; simp)]
 have hm := findM_mem (l := T.dec) (c := x) (by rw [hf]; simp)
 rw [hf] at hm
 cases hq : T.dec.find? fun m => decide (m.2 = [a, b]) && compT T m.1 with
 | none =>
  have := List.find?_eq_none.1 hq _ hm
  simp [hx] at this
 | some m =>
  have h1 := List.find?_some hq
  have h2 := List.mem_of_find?_eq_some hq
  simp only [Bool.and_eq_true, decide_eq_true_eq] at h1
  have h8 := check_r8 h
  unfold r8 cmpTos at h8
  rw [decide_eq_true_eq, List.Nodup, List.pairwise_map] at h8
  have e : m = (x, [a, b]) := by
   apply Classical.byContradiction
   intro hne
   have m1 : m ∈ T.dec.filter fun m => compT T m.1 := List.mem_filter.2 ⟨h2, h1.2⟩
   have m2 : (x, [a, b]) ∈ T.dec.filter fun m => compT T m.1 := List.mem_filter.2 ⟨hm, hx⟩
   have key : ∀ (l : List Mp), l.Pairwise (fun u v => u.2 ≠ v.2) → m ∈ l → (x, [a, b]) ∈ l → False := by
    intro l hl i1 i2
    induction l with
    | nil => cases i1
    | cons u r ih =>
     rw [List.pairwise_cons] at hl
     rcases List.mem_cons.1 i1 with j1 | j1
     ·rcases List.mem_cons.1 i2 with j2 | j2
      ·exact hne (j1.trans j2.symm)
      ·exact hl.1 _ j2 (by rw [← j1]; exact h1.1)
     ·rcases List.mem_cons.1 i2 with j2 | j2
      ·exact hl.1 _ j1 (by rw [← j2]; exact h1.1.symm)
      ·exact ih hl.2 j1 j2
   exact key _ h8 m1 m2
  rw [e]; rfl
theorem ord_pass (k : Int → Int) (X M : List Int) (c : Int) (h : ∀ m ∈ M, 0 < k m ∧ k m < k c) : ordS k (X ++ c :: M) = ordS k (X ++ M ++ [c]) := by
 induction M generalizing X with
 | nil => simp
 | cons m r ih =>
  have hm := h m (by simp)
  rw [ordS_swap k X r hm.1 hm.2]
  have := ih (X ++ [m]) (fun y hy => h y (by simp [hy]))
  simpa using this
theorem inOrd_prefix (k : Int → Int) (a b : List Int) (h : inOrd k (a ++ b)) : inOrd k a := by
 induction a with
 | nil => trivial
 | cons x r ih =>
  cases r with
  | nil => trivial
  | cons y s => exact ⟨h.1, ih h.2⟩
structure Mk (T : Tb) (E M : List Int) : Prop where
 fin : ∀ m ∈ M, Fin1 T m
 pos : ∀ m ∈ M, 0 < clsT T m
 top : ∀ m ∈ M, ∀ e, E.getLast? = some e → clsT T m ≤ clsT T e
 asc : M.Pairwise fun a b => clsT T a ≤ clsT T b
theorem Mk.nil (T : Tb) (E : List Int) : Mk T E [] := ⟨by simp, by simp, by simp, List.Pairwise.nil⟩
theorem Mk.below {T : Tb} {E M : List Int} (h : Mk T E M) {c : Int} (hu : unbl T M c) : ∀ m ∈ M, clsT T m < clsT T c := by
 intro m hm
 obtain ⟨l, hl⟩ : ∃ l, M.getLast? = some l := by
  cases hg : M.getLast? with
  | none => rw [List.getLast?_eq_none_iff] at hg; rw [hg] at hm; cases hm
  | some l => exact ⟨l, rfl⟩
 have h1 := hu l hl
 have h2 : clsT T m ≤ clsT T l := by
  obtain ⟨N, rfl⟩ : ∃ N, M = N ++ [l] := by
   rw [List.getLast?_eq_some_iff] at hl; exact hl
  rcases List.mem_append.1 hm with hm | hm
  ·exact (List.pairwise_append.1 h.asc).2.2 m hm l (by simp)
  ·simp at hm; subst hm; exact Int.le_refl _
 omega
theorem Mk.comp {T : Tb} {E M : List Int} (h : Mk T E M) {c : Int} (hu : unbl T M c) : Mk T (E ++ [c]) M :=
 ⟨h.fin, h.pos, fun m hm e he => by simp at he; subst he; exact Int.le_of_lt (h.below hu m hm), h.asc⟩
theorem Mk.snoc {T : Tb} {E M : List Int} (h : Mk T E M) {c : Int} (hE : E ≠ []) (hc : Fin1 T c) (hp : 0 < clsT T c) (ho : inOrd (clsT T) (E ++ [c])) : Mk T (E ++ [c]) (M ++ [c]) := by
 obtain ⟨N, e, rfl⟩ : ∃ N e, E = N ++ [e] := ⟨E.dropLast, E.getLast hE, (List.dropLast_concat_getLast hE).symm⟩
 have hle : clsT T e ≤ clsT T c := by
  have : inOrd (clsT T) (N ++ [e, c]) := by simpa using ho
  have := ((inOrd_snoc (clsT T) N c e).1 this).2
  omega
 have hall : ∀ m ∈ M, clsT T m ≤ clsT T c := fun m hm => by have := h.top m hm e (by simp); omega
 refine ⟨?_, ?_, ?_, ?_⟩
 ·intro m hm
  rcases List.mem_append.1 hm with hm | hm
  ·exact h.fin m hm
  ·simp at hm; subst hm; exact hc
 ·intro m hm
  rcases List.mem_append.1 hm with hm | hm
  ·exact h.pos m hm
  ·simp at hm; subst hm; exact hp
 ·intro m hm e' he
  simp at he
  subst he
  rcases List.mem_append.1 hm with hm | hm
  ·exact hall m hm
  ·simp at hm; subst hm; exact Int.le_refl _
 ·rw [List.pairwise_append]
  exact ⟨h.asc, List.pairwise_singleton _ _, fun a ha b hb => by simp at hb; subst hb; exact hall a ha⟩
theorem inOrd_marks {T : Tb} {E M : List Int} (s : Int) (hs : clsT T s = 0) (h : Mk T E M) : inOrd (clsT T) (s :: M) := by
 have key : ∀ (M : List Int), (M.Pairwise fun a b => clsT T a ≤ clsT T b) → inOrd (clsT T) M := by
  intro M hM
  induction M with
  | nil => trivial
  | cons a r ih =>
   rw [List.pairwise_cons] at hM
   cases r with
   | nil => trivial
   | cons b q => exact ⟨by have := hM.1 b (by simp); omega, ih hM.2⟩
 cases hM : M with
 | nil => trivial
 | cons a r =>
  refine ⟨by omega, ?_⟩
  have := key M h.asc
  rwa [hM] at this
theorem inOrd_app0 (k : Int → Int) (a b : List Int) (ha : inOrd k a) (hb : inOrd k b) (h0 : ∀ x, b.head? = some x → k x = 0) : inOrd k (a ++ b) := by
 induction a with
 | nil => exact hb
 | cons x r ih =>
  cases r with
  | nil =>
   cases b with
   | nil => trivial
   | cons y s =>
    have := h0 y rfl
    exact ⟨by omega, hb⟩
  | cons y s => exact ⟨ha.1, ih ha.2⟩
def CElt (T : Tb) (x : Int) : Prop := scaB x = true ∧ (findM T.dec x = [] ∨ compT T x = true)
structure GoOut (T : Tb) (D out : List Int) : Prop where
 nfd : ordS (clsT T) (flatT T out) = D
 ord : inOrd (clsT T) out
 elt : ∀ x ∈ out, CElt T x
 len : out.length ≤ D.length
theorem goN_head (T : Tb) (s : Int) (M r : List Int) (h : checkT T = 0) (hs : clsT T s = 0) (hr : ∀ c ∈ r, Fin1 T c) : ∀ x, (goN T s M r).head? = some x → clsT T x = 0 := by
 induction r generalizing s M with
 | nil => intro x hx; simp [goN] at hx; subst hx; exact hs
 | cons c r ih =>
  have hc := hr c (by simp)
  have hr' : ∀ c ∈ r, Fin1 T c := fun y hy => hr y (by simp [hy])
  cases hst : stepO T s M c with
  | some p =>
   rw [goN_some hst]
   exact ih p M (pair_exp h (stepO_pair hst).2 hc).2.1 hr'
  | none =>
   by_cases h0 : clsT T c = 0
   ·rw [goN_start hst h0]
    intro x hx
    simp at hx
    subst hx
    exact hs
   ·rw [goN_mark hst h0]
    exact ih s (M ++ [c]) hs hr'
theorem goN_out {T : Tb} (h : checkT T = 0) (r : List Int) (s : Int) (M E : List Int) (hs : clsT T s = 0) (he : CElt T s) (hE : E ≠ []) (hI : ordS (clsT T) (expT T s ++ M) = E) (hM : Mk T E M)
 (ho : inOrd (clsT T) (E ++ r)) (hr : ∀ c ∈ r, Fin1 T c) (hl : 1 + M.length ≤ E.length) : GoOut T (E ++ r) (goN T s M r) := by
 induction r generalizing s M E with
 | nil =>
  refine ⟨?_, inOrd_marks s hs hM, ?_, by simp [goN]; omega⟩
  ·rw [goN, all_cons, all_id hM.fin, List.append_nil]; exact hI
  ·intro x hx
   rw [goN] at hx
   rcases List.mem_cons.1 hx with rfl | hx
   ·exact he
   ·have := hM.fin x hx; exact ⟨this.1, .inl this.2.1⟩
 | cons c r ih =>
  have hc := hr c (by simp)
  have hr' : ∀ c ∈ r, Fin1 T c := fun y hy => hr y (by simp [hy])
  have ho1 : inOrd (clsT T) (E ++ [c]) := inOrd_prefix _ (E ++ [c]) r (by simpa using ho)
  have ho2 : inOrd (clsT T) ((E ++ [c]) ++ r) := by simpa using ho
  have hEc : E ++ [c] ≠ [] := by simp
  have e2 : E ++ c :: r = (E ++ [c]) ++ r := by simp
  have hsn : ordS (clsT T) (expT T s ++ M ++ [c]) = E ++ [c] := by
   rw [← ordS_left, hI, ordS_id _ _ ho1]
  cases hst : stepO T s M c with
  | some p =>
   obtain ⟨hu, hp⟩ := stepO_pair hst
   obtain ⟨x1, x2, x3, x4⟩ := pair_exp h hp hc
   rw [goN_some hst, e2]
   refine ih p M (E ++ [c]) x2 ⟨x3, x4⟩ hEc ?_ (hM.comp hu) ho2 hr' (by simp; omega)
   rw [x1]
   have := ord_pass (clsT T) (expT T s) M c (fun m hm => ⟨hM.pos m hm, hM.below hu m hm⟩)
   rw [← hsn, ← this]
   simp
  | none =>
   by_cases h0 : clsT T c = 0
   ·rw [goN_start hst h0]
    have hq := ih c [] [c] h0 ⟨hc.1, .inl hc.2.1⟩ (by simp) (by rw [hc.exp, List.append_nil]; exact ordS_id _ _ trivial) (Mk.nil T _) (by
     have : ∀ (a b : List Int), inOrd (clsT T) (a ++ b) → inOrd (clsT T) b := by
      intro a b hab
      induction a with
      | nil => exact hab
      | cons x q ihq =>
       cases q with
       | nil =>
        cases b with
        | nil => trivial
        | cons y z => exact hab.2
       | cons y z => exact ihq hab.2
     exact this E (c :: r) ho) hr' (by simp)
    refine ⟨?_, ?_, ?_, ?_⟩
    ·rw [all_append, all_cons, all_id hM.fin, ← ordS_parts, hI, hq.nfd]
     exact ordS_id _ _ (by simpa using ho)
    ·exact inOrd_app0 _ _ _ (inOrd_marks s hs hM) hq.ord (goN_head T c [] r h h0 hr')
    ·intro x hx
     rcases List.mem_append.1 hx with hx | hx
     ·rcases List.mem_cons.1 hx with rfl | hx
      ·exact he
      ·have := hM.fin x hx; exact ⟨this.1, .inl this.2.1⟩
     ·exact hq.elt x hx
    ·have := hq.len
     simp at this ⊢
     omega
   ·have hpos : 0 < clsT T c := by have := cls_pos h c; omega
    rw [goN_mark hst h0, e2]
    refine ih s (M ++ [c]) (E ++ [c]) hs he hEc ?_ (hM.snoc hE hc hpos ho1) ho2 hr' (by simp; omega)
    rw [← List.append_assoc]; exact hsn
theorem inOrd_suffix (k : Int → Int) (a b : List Int) (h : inOrd k (a ++ b)) : inOrd k b := by
 induction a with
 | nil => exact h
 | cons x q ih =>
  cases q with
  | nil =>
   cases b with
   | nil => trivial
   | cons y z => exact h.2
  | cons y z => exact ih h.2
theorem go0_out {T : Tb} (h : checkT T = 0) (r M : List Int) (hM : ∀ m ∈ M, Fin1 T m) (ho : inOrd (clsT T) (M ++ r)) (hr : ∀ c ∈ r, Fin1 T c) : GoOut T (M ++ r) (go0 T M r) := by
 induction r generalizing M with
 | nil =>
  rw [List.append_nil] at ho
  refine ⟨?_, ho, ?_, by simp [go0]⟩
  ·rw [go0, all_id hM, List.append_nil]; exact ordS_id _ _ ho
  ·intro x hx
   rw [go0] at hx
   have := hM x hx; exact ⟨this.1, .inl this.2.1⟩
 | cons c r ih =>
  have hc := hr c (by simp)
  have hr' : ∀ c ∈ r, Fin1 T c := fun y hy => hr y (by simp [hy])
  rw [go0]
  by_cases h0 : clsT T c = 0
  ·rw [if_pos h0]
   have hq := goN_out h r c [] [c] h0 ⟨hc.1, .inl hc.2.1⟩ (by simp) (by rw [hc.exp, List.append_nil]; exact ordS_id _ _ trivial) (Mk.nil T _) (by simpa using inOrd_suffix _ M (c :: r) ho) hr' (by simp)
   refine ⟨?_, ?_, ?_, ?_⟩
   ·rw [all_append, all_id hM, ← ordS_parts, hq.nfd, ordS_id _ M (inOrd_prefix _ M (c :: r) ho)]
    exact ordS_id _ _ (by simpa using ho)
   ·exact inOrd_app0 _ _ _ (inOrd_prefix _ M (c :: r) ho) hq.ord (goN_head T c [] r h h0 hr')
   ·intro x hx
    rcases List.mem_append.1 hx with hx | hx
    ·have := hM x hx; exact ⟨this.1, .inl this.2.1⟩
    ·exact hq.elt x hx
   ·have := hq.len
    simp at this ⊢
    omega
  ·rw [if_neg h0]
   have := ih (M ++ [c]) (fun m hm => by
    rcases List.mem_append.1 hm with hm | hm
    ·exact hM m hm
    ·simp at hm; subst hm; exact hc) (by simpa using ho) hr'
   simpa using this
theorem nfcS_out {T : Tb} (h : checkT T = 0) (d : List Int) (ho : inOrd (clsT T) d) (hr : ∀ c ∈ d, Fin1 T c) : GoOut T d (nfcS T d) := by
 have := go0_out h d [] (by simp) (by simpa using ho) hr
 simpa [nfcS] using this
inductive Rn (T : Tb) : Int → List Int → List Int → Int → List Int → Prop
 | nil (s : Int) (M : List Int) : Rn T s M [] s M
 | mark {s c s' : Int} {M r M' : List Int} : secB T c = false → 0 < clsT T c → Rn T s (M ++ [c]) r s' M' → Rn T s M (c :: r) s' M'
 | comp {s c p s' : Int} {M r M' : List Int} : unbl T M c → pairO T s c = some p → Rn T p M r s' M' → Rn T s M (c :: r) s' M'
theorem Rn.go {T : Tb} (h : checkT T = 0) {s s' : Int} {M W M' : List Int} (hr : Rn T s M W s' M') (r : List Int) : goN T s M (W ++ r) = goN T s' M' r := by
 induction hr with
 | nil s M => rfl
 | mark hc hp _ ih => rw [List.cons_append, goN_mark (stepO_no (pair_no h hc)) (by omega)]; exact ih
 | comp hu hp _ ih => rw [List.cons_append, goN_some (stepO_yes hu hp)]; exact ih
theorem Rn.pos {T : Tb} {s s' : Int} {M W M' : List Int} (hr : Rn T s M W s' M') (hM : ∀ x ∈ M, 0 < clsT T x) : ∀ x ∈ M', 0 < clsT T x := by
 induction hr with
 | nil s M => exact hM
 | mark _ hp _ ih =>
  refine ih fun x hx => ?_
  rcases List.mem_append.1 hx with hx | hx
  ·exact hM x hx
  ·simp at hx; subst hx; exact hp
 | comp _ _ _ ih => exact ih hM
theorem Rn.snoc {T : Tb} {s s' c p : Int} {M W M' : List Int} (hr : Rn T s M W s' M') (hu : unbl T M' c) (hp : pairO T s' c = some p) : Rn T s M (W ++ [c]) p M' := by
 induction hr with
 | nil s M => exact .comp hu hp (.nil _ _)
 | mark h1 h2 _ ih => exact .mark h1 h2 (ih hu hp)
 | comp h1 h2 _ ih => exact .comp h1 h2 (ih hu hp)
def nfcL (T : Tb) (l : List Int) : List Int := if nfdE T l = 0 then nfcS T (nfdL T l) else []
def isnC (T : Tb) (l : List Int) : Bool := decide (nfdE T l = 0) && (nfcL T l == l)
theorem nfcL_ok {T : Tb} {l : List Int} (h : nfdE T l = 0) : nfcL T l = nfcS T (nfdL T l) := if_pos h
theorem nfcL_err {T : Tb} {l : List Int} (h : nfdE T l ≠ 0) : nfcL T l = [] := if_neg h
theorem nfd_ord {T : Tb} {l : List Int} (h : nfdE T l = 0) : inOrd (clsT T) (nfdL T l) := by rw [nfdL_ok h]; exact ordS_inOrd _ _
theorem nfc_out {T : Tb} {l : List Int} (h : nfdE T l = 0) : GoOut T (nfdL T l) (nfcL T l) := by
 rw [nfcL_ok h]
 exact nfcS_out (nfd_check h) _ (nfd_ord h) (nfd_fin h)
theorem nfcL_len (T : Tb) (l : List Int) : (nfcL T l).length ≤ 4096 := by
 by_cases h : nfdE T l = 0
 ·exact Nat.le_trans (nfc_out h).len (nfdL_len T l)
 ·rw [nfcL_err h]; simp
open Go.RowKit Go.Maps
open Go.WideMaps (keyOf_pair)
def wf64 (a : Int) : Prop := (Lit.int .i64 a).wf = true
theorem wf64_of {a : Int} (h : 0 ≤ a ∧ a ≤ 1114111) : wf64 a := WalkArith.wf_i64 (by omega)
theorem pair_key64 {a b : Int} (ha : wf64 a) (hb : wf64 b) : keyOf Tryz.prog 110 (.agg #[.int .i64 a, .int .i64 b]) = some (pairLit a b) := keyOf_pair pairKey Tryz.underlying3 pairSize ha hb
theorem pairLit_inj64 {a b c d : Int} (ha : wf64 a) (hb : wf64 b) (hc : wf64 c) (hd : wf64 d) (h : pairLit a b = pairLit c d) : a = c ∧ b = d := by
 have h1 := pair_key64 ha hb
 have h2 := pair_key64 hc hd
 rw [h] at h1
 have := pairLaw.inj h1 h2
 injection this with this
 injection this with this
 injection this with e1 e2
 injection e1 with _ e1
 injection e2 with e2 _
 injection e2 with _ e2
 exact ⟨e1, e2⟩
def putsW (m : DataW Unit) (l : List Mp) : DataW Unit := l.foldl (fun m x => m.put (litOf x.2) (.lit (.int .i64 x.1))) m
def wholeD (T : Tb) (l : List Mp) : DataW Unit := putsW (.map []) (l.filter fun m => compT T m.1)
def secLits (T : Tb) (l : List Mp) : List Lit := (l.filter fun m => compT T m.1).map fun m => .int .i64 (m.2.getD 1 0)
def secD (T : Tb) (l : List Mp) : DataW Unit := setOf (.lit (.bool true)) (secLits T l)
theorem putsW_miss (k : Lit) : ∀ (l : List Mp) (m : DataW Unit), IsMap m → (∀ x ∈ l, litOf x.2 ≠ k) → has (putsW m l) k = has m k ∧ ∀ z, (putsW m l).atKey k z = m.atKey k z
 | [], m, _, _ => ⟨rfl, fun _ => rfl⟩
 | x :: r, m, hm, h => by
  have hne : k ≠ litOf x.2 := fun e => h x (by simp) e.symm
  have ih := putsW_miss k r (m.put (litOf x.2) (.lit (.int .i64 x.1))) (hm.put _ _) (fun y hy => h y (by simp [hy]))
  refine ⟨ih.1.trans (has_put_other hne _), fun z => (ih.2 z).trans (atKey_put_other hne _ _)⟩
theorem putsW_hit (x : Mp) : ∀ (l : List Mp) (m : DataW Unit), IsMap m → x ∈ l → (∀ y ∈ l, litOf y.2 = litOf x.2 → y = x) → has (putsW m l) (litOf x.2) = true ∧ ∀ z, (putsW m l).atKey (litOf x.2) z = .lit (.int .i64 x.1)
 | [], _, _, hx, _ => by cases hx
 | y :: r, m, hm, hx, hu => by
  by_cases hr : x ∈ r
  ·exact putsW_hit x r _ (hm.put _ _) hr (fun z hz => hu z (by simp [hz]))
  ·have e : x = y := by
    rcases List.mem_cons.1 hx with e | e
    ·exact e
    ·exact absurd e hr
   subst e
   have ih := putsW_miss (litOf x.2) r (m.put (litOf x.2) (.lit (.int .i64 x.1))) (hm.put _ _) (fun y hy e => hr (by rw [← hu y (by simp [hy]) e]; exact hy))
   exact ⟨ih.1.trans (has_put_same hm (litOf_key _) _), fun z => (ih.2 z).trans (atKey_put_same hm (litOf_key _) _ _)⟩
theorem comp_pair {T : Tb} (h : checkT T = 0) {m : Mp} (hm : m ∈ T.dec) (hc : compT T m.1 = true) : ∃ a b, m.2 = [a, b] ∧ wfI a ∧ wfI b := by
 obtain ⟨a, b, hf, _⟩ := comp_two h hc
 have hd := dec_find h hm
 rw [hf] at hd
 have h1 := dec_part h (c := m.1) (x := a) (by rw [hf]; simp)
 have h2 := dec_part h (c := m.1) (x := b) (by rw [hf]; simp)
 have s1 := scaB_iff.1 h1.1
 have s2 := scaB_iff.1 h2.1
 exact ⟨a, b, hd.symm, ⟨s1.1, s1.2.1⟩, ⟨s2.1, s2.2.1⟩⟩
theorem comp_uniq {T : Tb} (h : checkT T = 0) {m m' : Mp} (hm : m ∈ T.dec) (hc : compT T m.1 = true) (hm' : m' ∈ T.dec) (hc' : compT T m'.1 = true) (e : m.2 = m'.2) : m = m' := by
 obtain ⟨a, b, hab, _⟩ := comp_pair h hm hc
 have h1 := pair_comp h hc ((dec_find h hm).trans hab)
 have h2 := pair_comp h hc' ((dec_find h hm').trans (e.symm.trans hab))
 rw [h1] at h2
 injection h2 with h2
 exact Prod.ext h2 e
def wholeV (T : Tb) (a b : Int) : Int × Bool := match T.dec.find? (fun m => decide (m.2 = [a, b]) && compT T m.1) with
 | some m => (m.1, true)
 | none => (0, false)
theorem whole_look {T : Tb} (h : checkT T = 0) {a b : Int} (ha : wf64 a) (hb : wf64 b) :
 has (wholeD T T.dec) (pairLit a b) = (wholeV T a b).2 ∧ (wholeD T T.dec).atKey (pairLit a b) (.lit (.int .i64 0)) = .lit (.int .i64 (wholeV T a b).1) := by
 have key : ∀ m ∈ T.dec.filter (fun m => compT T m.1), litOf m.2 = pairLit a b → m.2 = [a, b] := by
  intro m hm e
  obtain ⟨hm, hc⟩ := List.mem_filter.1 hm
  obtain ⟨c, d, hcd, hc1, hd1⟩ := comp_pair h hm hc
  rw [hcd] at e ⊢
  obtain ⟨e1, e2⟩ := pairLit_inj64 (wf64_of hc1) (wf64_of hd1) ha hb e
  rw [e1, e2]
 unfold wholeV
 cases hq : T.dec.find? fun m => decide (m.2 = [a, b]) && compT T m.1 with
 | none =>
  have hn := List.find?_eq_none.1 hq
  have := putsW_miss (pairLit a b) (T.dec.filter fun m => compT T m.1) (.map []) isMap_empty (fun x hx e => by
   have hx2 := List.mem_filter.1 hx
   exact hn x hx2.1 (by simp [key x hx e, hx2.2]))
  exact ⟨this.1.trans rfl, (this.2 _).trans rfl⟩
 | some m =>
  have h1 := List.find?_some hq
  have h2 := List.mem_of_find?_eq_some hq
  simp only [Bool.and_eq_true, decide_eq_true_eq] at h1
  have hl : litOf m.2 = pairLit a b := by rw [h1.1]; rfl
  have := putsW_hit m (T.dec.filter fun m => compT T m.1) (.map []) isMap_empty (List.mem_filter.2 ⟨h2, h1.2⟩) (fun y hy e => by
   have hy2 := List.mem_filter.1 hy
   exact comp_uniq h hy2.1 hy2.2 h2 h1.2 ((key y hy (e.trans hl)).trans h1.1.symm))
  rw [hl] at this
  exact ⟨this.1, this.2 _⟩
theorem wholeD_snoc (T : Tb) (l : List Mp) (m : Mp) : wholeD T (l ++ [m]) = if compT T m.1 = true then (wholeD T l).put (litOf m.2) (.lit (.int .i64 m.1)) else wholeD T l := by
 unfold wholeD putsW
 rw [List.filter_append, List.foldl_append]
 by_cases hc : compT T m.1 = true
 ·rw [if_pos hc, show [m].filter (fun m => compT T m.1) = [m] by simp [hc]]; rfl
 ·rw [if_neg hc, show [m].filter (fun m => compT T m.1) = [] by simp [hc]]; rfl
theorem secD_snoc (T : Tb) (l : List Mp) (m : Mp) : secD T (l ++ [m]) = if compT T m.1 = true then (secD T l).put (.int .i64 (m.2.getD 1 0)) (.lit (.bool true)) else secD T l := by
 unfold secD secLits
 rw [List.filter_append, List.map_append]
 by_cases hc : compT T m.1 = true
 ·rw [if_pos hc, show [m].filter (fun m => compT T m.1) = [m] by simp [hc], List.map_cons, List.map_nil, setOf_snoc]
 ·rw [if_neg hc, show [m].filter (fun m => compT T m.1) = [] by simp [hc], List.map_nil, List.append_nil]
theorem owns_below {P : Program} {k : TypeId} {R : Value → Option (DataW Unit × List MemPlace)} {w w' : World} {B n : Nat} {D : DataW Unit} (h : w.ownsMap P k R B n D) (hb : Below w.heap.size w w') : w'.ownsMap P k R B n D := h.kept (below_grownBy hb none) (by simp)
theorem zeroI (w : World) : (zeroValue 3).run Tryz.prog w = .ok (.int .i64 0) w := by kernel_rfl
theorem intLaw : Keyed Tryz.prog 3 := int_keyed Tryz.underlying3
structure Known (T : Tb) (B C : Nat) (w : World) : Prop where
 whole : ∃ n, w.ownsMap Tryz.prog 110 (plainElem Tryz.prog 3) B n (wholeD T T.dec)
 sec : ∃ n, w.ownsMap Tryz.prog 3 (plainElem Tryz.prog 4) C n (secD T T.dec)
theorem Known.below {T : Tb} {B C : Nat} {w w' : World} (h : Known T B C w) (hb : Below w.heap.size w w') : Known T B C w' :=
 ⟨let ⟨n, h1⟩ := h.whole; ⟨n, owns_below h1 hb⟩, let ⟨n, h1⟩ := h.sec; ⟨n, owns_below h1 hb⟩⟩
set_option maxRecDepth 100000 in
theorem Known.look {T : Tb} {B C : Nat} {w : World} (h : Known T B C w) (hc : checkT T = 0) {a b : Int} (ha : wf64 a) (hb : wf64 b) :
 (Instr.lookup 92 (.map (some B)) (.agg #[.int .i64 a, .int .i64 b]) true).run Tryz.prog w = .ok (.tuple #[.int .i64 (wholeV T a b).1, .bool (wholeV T a b).2]) w := by
 obtain ⟨n, h1⟩ := h.whole
 obtain ⟨v, ps, hrun, hv⟩ := h1.look_ok pairLaw Tryz.underlying92 (zeroI w) (plainElem_int Tryz.underlying3 (by decide)) (pair_key64 ha hb)
 obtain ⟨c, rfl, hc2, hw⟩ := plainElem_int_inv Tryz.underlying3 hv
 simp only [Prod.mk.injEq] at hc2
 obtain ⟨l1, l2⟩ := whole_look hc ha hb
 rw [hrun, l1]
 rw [l2] at hc2
 have e := hc2.1
 injection e with e
 injection e with _ e
 rw [e]
def resO (T : Tb) (O : List Int) (st : Int) (c : Int) : Option Int := if st < 0 then none else stepO T (O.getD st.toNat 0) (O.drop (st.toNat + 1)) c
structure Cst (T : Tb) (d : List Int) (k : Nat) (st : Int) (O : List Int) : Prop where
 len : O.length ≤ k
 sca : ∀ x ∈ O, scaB x = true
 body : (st = -1 ∧ (∀ m ∈ O, clsT T m ≠ 0) ∧ nfcS T d = go0 T O (d.drop k)) ∨
  ∃ A s M, O = A ++ s :: M ∧ st = A.length ∧ clsT T s = 0 ∧ (∀ m ∈ M, clsT T m ≠ 0) ∧ nfcS T d = A ++ goN T s M (d.drop k)
theorem Cst.start (T : Tb) (d : List Int) : Cst T d 0 (-1) [] := ⟨Nat.le_refl _, by simp, .inl ⟨rfl, by simp, rfl⟩⟩
theorem drop_cons_getD (d : List Int) (k : Nat) (hk : k < d.length) : d.drop k = d.getD k 0 :: d.drop (k + 1) := by
 rw [List.drop_eq_getElem_cons hk]
 simp [hk]
theorem getD_mid (A M : List Int) (s : Int) : (A ++ s :: M).getD A.length 0 = s := by simp
theorem drop_mid (A M : List Int) (s : Int) : (A ++ s :: M).drop (A.length + 1) = M := by
 rw [show A.length + 1 = A.length + 1 from rfl, List.drop_append]
 simp
theorem resO_mid (T : Tb) (A M : List Int) (s c : Int) : resO T (A ++ s :: M) A.length c = stepO T s M c := by
 unfold resO
 rw [if_neg (by omega), Int.toNat_natCast, getD_mid, drop_mid]
theorem Cst.bound {T : Tb} {d O : List Int} {k : Nat} {st : Int} (h : Cst T d k st O) : st = -1 ∨ (0 ≤ st ∧ st < O.length) := by
 rcases h.body with ⟨e, _⟩ | ⟨A, s, M, rfl, e, _⟩
 ·exact .inl e
 ·right; rw [e]; simp; omega
theorem Cst.comp {T : Tb} (hc : checkT T = 0) {d O : List Int} {k : Nat} {st c p : Int} (h : Cst T d k st O) (hk : k < d.length) (he : d.getD k 0 = c) (hf : Fin1 T c) (hp : resO T O st c = some p) :
 Cst T d (k + 1) st (O.set st.toNat p) := by
 have hd := drop_cons_getD d k hk
 rw [he] at hd
 rcases h.body with ⟨e, h1, h2⟩ | ⟨A, s, M, rfl, rfl, h1, h2, h3⟩
 ·unfold resO at hp
  rw [if_pos (by omega)] at hp
  cases hp
 ·rw [resO_mid] at hp
  have hpe := pair_exp hc (stepO_pair hp).2 hf
  have hs : (A ++ s :: M).set ((A.length : Int)).toNat p = A ++ p :: M := by
   rw [Int.toNat_natCast, List.set_append]
   simp
  rw [hs]
  refine ⟨?_, ?_, .inr ⟨A, p, M, rfl, rfl, hpe.2.1, h2, ?_⟩⟩
  ·have := h.len
   simp only [List.length_append, List.length_cons] at this ⊢
   omega
  ·intro x hx
   rw [List.mem_append, List.mem_cons] at hx
   rcases hx with hx | rfl | hx
   ·exact h.sca x (by simp [hx])
   ·exact hpe.2.2.1
   ·exact h.sca x (by simp [hx])
  ·rw [h3, hd, goN_some hp]
theorem Cst.zero {T : Tb} {d O : List Int} {k : Nat} {st c : Int} (h : Cst T d k st O) (hk : k < d.length) (he : d.getD k 0 = c) (hs : scaB c = true) (hp : resO T O st c = none) (h0 : clsT T c = 0) :
 Cst T d (k + 1) O.length (O ++ [c]) := by
 have hd := drop_cons_getD d k hk
 rw [he] at hd
 refine ⟨by have := h.len; simp; omega, ?_, .inr ⟨O, c, [], rfl, rfl, h0, by simp, ?_⟩⟩
 ·intro x hx
  rw [List.mem_append, List.mem_singleton] at hx
  rcases hx with hx | rfl
  ·exact h.sca x hx
  ·exact hs
 ·rcases h.body with ⟨e, h1, h2⟩ | ⟨A, s, M, rfl, rfl, h1, h2, h3⟩
  ·rw [h2, hd, go0, if_pos h0]
  ·rw [resO_mid] at hp
   rw [h3, hd, goN_start hp h0]
   simp
theorem Cst.mark {T : Tb} {d O : List Int} {k : Nat} {st c : Int} (h : Cst T d k st O) (hk : k < d.length) (he : d.getD k 0 = c) (hs : scaB c = true) (hp : resO T O st c = none) (h0 : clsT T c ≠ 0) :
 Cst T d (k + 1) st (O ++ [c]) := by
 have hd := drop_cons_getD d k hk
 rw [he] at hd
 refine ⟨by have := h.len; simp; omega, ?_, ?_⟩
 ·intro x hx
  rw [List.mem_append, List.mem_singleton] at hx
  rcases hx with hx | rfl
  ·exact h.sca x hx
  ·exact hs
 ·have hm : ∀ (M : List Int), (∀ m ∈ M, clsT T m ≠ 0) → ∀ m ∈ M ++ [c], clsT T m ≠ 0 := by
   intro M hM m hm
   rw [List.mem_append, List.mem_singleton] at hm
   rcases hm with hm | rfl
   ·exact hM m hm
   ·exact h0
  rcases h.body with ⟨e, h1, h2⟩ | ⟨A, s, M, rfl, rfl, h1, h2, h3⟩
  ·exact .inl ⟨e, hm O h1, by rw [h2, hd, go0, if_neg h0]⟩
  ·rw [resO_mid] at hp
   exact .inr ⟨A, s, M ++ [c], by simp, rfl, h1, hm M h2, by rw [h3, hd, goN_mark hp h0]⟩
theorem Cst.done {T : Tb} {d O : List Int} {st : Int} (h : Cst T d d.length st O) : nfcS T d = O := by
 rcases h.body with ⟨e, h1, h2⟩ | ⟨A, s, M, rfl, rfl, h1, h2, h3⟩
 ·rw [h2, List.drop_length]; cases O <;> rfl
 ·rw [h3, List.drop_length, goN]
theorem Cst.last {T : Tb} {d O : List Int} {k : Nat} {st j : Int} (h : Cst T d k st O) (hj : j = -1 ∨ (0 ≤ j ∧ j < O.length ∧ clsT T (O.getD j.toNat 0) = 0)) (ha : ∀ i : Nat, j < i → i < O.length → clsT T (O.getD i 0) ≠ 0) : j = st := by
 rcases h.body with ⟨e, h1, h2⟩ | ⟨A, s, M, rfl, rfl, h1, h2, h3⟩
 ·rcases hj with hj | ⟨j0, j1, j2⟩
  ·omega
  ·refine absurd j2 (h1 _ ?_)
   have : j.toNat < O.length := by omega
   rw [List.getD_eq_getElem?_getD, List.getElem?_eq_getElem this]
   exact List.getElem_mem this
 ·have hl : A.length < (A ++ s :: M).length := by simp
  have ge : ¬ j < (A.length : Int) := fun hlt => ha A.length hlt hl (by rw [getD_mid]; exact h1)
  rcases hj with hj | ⟨j0, j1, j2⟩
  ·omega
  ·by_cases hgt : (A.length : Int) < j
   ·have hi : j.toNat < (A ++ s :: M).length := by omega
    refine absurd j2 (h2 _ ?_)
    rw [List.getD_eq_getElem?_getD, List.getElem?_append_right (by omega)]
    obtain ⟨q, hq⟩ : ∃ q, j.toNat - A.length = q + 1 := ⟨j.toNat - A.length - 1, by omega⟩
    rw [hq, List.getElem?_cons_succ]
    simp only [List.length_append, List.length_cons] at hi
    rw [List.getElem?_eq_getElem (by omega)]
    exact List.getElem_mem _
   ·omega
theorem unbl_iff (T : Tb) (M : List Int) (c : Int) : unbl T M c ↔ (M = [] ∨ clsT T (M.getD (M.length - 1) 0) < clsT T c) := by
 unfold unbl
 rcases List.eq_nil_or_concat M with rfl | ⟨N, m, rfl⟩
 ·simp
 ·simp
theorem resO_blocked {T : Tb} {O : List Int} {st c : Int} (h0 : 0 ≤ st) (h : ¬ unbl T (O.drop (st.toNat + 1)) c) : resO T O st c = none := by
 unfold resO stepO
 rw [if_neg (by omega), if_neg h]
theorem resO_open {T : Tb} {O : List Int} {st c : Int} (h0 : 0 ≤ st) (h : unbl T (O.drop (st.toNat + 1)) c) : resO T O st c = pairO T (O.getD st.toNat 0) c := by
 unfold resO stepO
 rw [if_neg (by omega), if_pos h]
theorem resO_none {T : Tb} {O : List Int} {st c : Int} (h0 : st < 0) : resO T O st c = none := by unfold resO; rw [if_pos h0]
theorem pairO_han {T : Tb} {a b x : Int} (h : compS a b = (x, true)) : pairO T a b = some x := by unfold pairO; rw [h]; rfl
def pairT0 (T : Tb) (a b : Int) : Int × Bool := match pairO T a b with | some p => (p, true) | none => (0, false)
theorem pairT0_some {T : Tb} {a b p : Int} (h : pairT0 T a b = (p, true)) : pairO T a b = some p := by
 unfold pairT0 at h
 cases hq : pairO T a b with
 | none => rw [hq] at h; simp at h
 | some q => rw [hq] at h; simp at h; rw [h]
theorem pairT0_none {T : Tb} {a b p : Int} (h : pairT0 T a b = (p, false)) : pairO T a b = none ∧ p = 0 := by
 unfold pairT0 at h
 cases hq : pairO T a b with
 | none => rw [hq] at h; simp at h; exact ⟨rfl, h.symm⟩
 | some q => rw [hq] at h; simp at h
end Go.Proofs.YtopaojjodkoidaaGreatDoor
