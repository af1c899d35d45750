/-
  decompose: plain mathematics: what a code point and a list are expanded to; canonical order of parts.
  decompose: plain mathematics: NFD, its errors, equivalence.
  Rows of ints that a chain of calls appends to: where the new row lies. slices.Clone, table.Decomp: new slices.
-/
import Derived.Test.YtiafhifbgdkgaaaGreatDoorPkE
import Derived.Test.YtiafhifbgdkgaaaGreatDoorQHanSpec
import Derived.Test.YtiafhifbgdkgaaaGreatDoorPkR
import Derived.Test.YtiafhifbgdkgaaaGreatDoorQTblR
import Derived.Test.YtiafhifbgdkgaaaGreatDoorPkT
set_option linter.unusedSimpArgs false
set_option linter.unusedVariables false
namespace Go.Proofs.YtiafhifbgdkgaaaGreatDoor
set_option linter.unusedVariables false

/-- What a code point is expanded to, and a list. -/
def expT (T : Tb) (c : Int) : List Int := if decS c = [] then ful T.dec c else decS c
def flatT (T : Tb) (l : List Int) : List Int := l.flatMap (expT T)

/-- A code point that nothing can be made of. -/
def Fin1 (T : Tb) (x : Int) : Prop := scaB x = true ∧ findM T.dec x = [] ∧ decS x = []

theorem check_rules {T : Tb} (h : checkT T = 0) : r1 T = true ∧ r2 T = true ∧ r3 T = true ∧ r4 T = true ∧ r6 T = true := by
  unfold checkT at h
  split at h
  · omega
  split at h
  · omega
  split at h
  · omega
  split at h
  · omega
  split at h
  · omega
  split at h
  · omega
  rename_i h1 h2 h3 h4 h5 h6
  exact ⟨by simpa using h1, by simpa using h2, by simpa using h3, by simpa using h4, by simpa using h6⟩

theorem decS_nil {c : Int} : decS c = [] ↔ ¬ (44032 ≤ c ∧ c ≤ 55203) := by
  unfold decS
  constructor
  · intro h hc
    rw [if_pos hc] at h
    split at h <;> cases h
  · intro hc; rw [if_neg hc]

theorem decS_mem {c x : Int} (h : x ∈ decS c) : (4352 ≤ x ∧ x ≤ 4370) ∨ (4449 ≤ x ∧ x ≤ 4469) ∨ (4520 ≤ x ∧ x ≤ 4546) := by
  unfold decS at h
  split at h
  · rename_i hc
    split at h
    · simp only [List.mem_cons, List.not_mem_nil, or_false] at h
      rcases h with rfl | rfl <;> omega
    · simp only [List.mem_cons, List.not_mem_nil, or_false] at h
      rcases h with rfl | rfl | rfl <;> omega
  · cases h

theorem decS_length (c : Int) : (decS c).length ≤ 3 := by
  unfold decS
  split
  · split <;> simp
  · simp

theorem dec_res {T : Tb} (h : checkT T = 0) {x : Int} (hx : resB x = true) : findM T.dec x = [] := by
  obtain ⟨_, h2, _⟩ := check_rules h
  apply Classical.byContradiction
  intro hne
  have hm := has_of_find hne
  unfold r2 keyOk at h2
  simp only [Bool.and_eq_true, List.all_eq_true] at h2
  have := h2.2.2.2.1.2 x hm
  rw [hx] at this
  cases this

theorem findM_mem {l : List Mp} {c : Int} (h : findM l c ≠ []) : (c, findM l c) ∈ l := by
  cases hb : hasM l c with
  | false => exact absurd (findM_nil hb) h
  | true => exact findM_has hb

theorem dec_short {T : Tb} (h : checkT T = 0) : ∀ m ∈ T.dec, m.2.length ≤ 18 := by
  intro m hm
  have h4 := (check_rules h).2.2.2.1
  unfold r4 at h4
  simp only [Bool.and_eq_true, List.all_eq_true] at h4
  have := h4.2.2.1 m hm
  unfold seqS at this
  simp only [Bool.and_eq_true, decide_eq_true_eq] at this
  exact this.1.2

theorem dec_length {T : Tb} (h : checkT T = 0) (c : Int) : (findM T.dec c).length ≤ 18 := by
  by_cases hf : findM T.dec c = []
  · rw [hf]; simp
  · exact dec_short h _ (findM_mem hf)

theorem dec_part {T : Tb} (h : checkT T = 0) {c x : Int} (hx : x ∈ findM T.dec c) : scaB x = true ∧ decS x = [] := by
  obtain ⟨_, _, _, h4, h6⟩ := check_rules h
  have hm := findM_mem (ne_nil_of_mem' hx)
  have a := r4_sca h4 _ hm
  rw [List.all_eq_true] at a
  refine ⟨a x hx, ?_⟩
  unfold r6 at h6
  simp only [Bool.and_eq_true, List.all_eq_true] at h6
  have b := h6.1 _ hm
  unfold short2 at b
  simp only [Bool.and_eq_true, List.all_eq_true] at b
  have b2 := b.2 x hx
  rw [decS_nil]
  intro hc
  have : sylB x = true := sylB_iff.2 hc
  unfold forb at b2
  rw [this] at b2
  simp at b2

theorem fin_jamo {T : Tb} (h : checkT T = 0) {c x : Int} (hx : x ∈ decS c) : Fin1 T x := by
  have hj := decS_mem hx
  refine ⟨?_, dec_res h (resB_iff.2 (by omega)), decS_nil.2 (by omega)⟩
  unfold scaB
  simp
  omega

theorem ful_fin {T : Tb} (h : checkT T = 0) (k : Nat) (c : Int) (hd : Dp T.dec k c) (hs : scaB c = true) (hn : decS c = []) : ∀ x ∈ fulF T.dec k c, Fin1 T x := by
  induction k generalizing c with
  | zero =>
    intro x hx
    have : x = c := by simpa [fulF] using hx
    subst this
    exact ⟨hs, hd, hn⟩
  | succ k ih =>
    intro x hx
    by_cases hf : findM T.dec c = []
    · rw [fulF_nil _ hf] at hx
      have : x = c := by simpa using hx
      subst this
      exact ⟨hs, hf, hn⟩
    · rw [fulF, if_neg hf, List.mem_flatMap] at hx
      obtain ⟨y, hy, hx⟩ := hx
      have hp := dec_part h hy
      exact ih y (hd y hy) hp.1 hp.2 x hx

theorem ful_len {l : List Mp} (k : Nat) (c : Int) (h : sz l k c ≤ 18) (hd : Dp l k c) : (fulF l k c).length = sz l k c := by
  induction k generalizing c with
  | zero => rw [sz_zero _ hd]; rfl
  | succ k ih =>
    by_cases hf : findM l c = []
    · rw [fulF_nil _ hf, sz_zero _ hf]; rfl
    · rw [sz_succ _ hf] at h ⊢
      rw [fulF, if_neg hf, List.length_flatMap]
      have e : (findM l c).map (fun x => (fulF l k x).length) = (findM l c).map (sz l k) := by
        refine List.map_congr_left fun x hx => ih x ?_ (hd x hx)
        have := sum_mem (sz l k) _ x hx
        omega
      rw [e]; omega

theorem dec_few {T : Tb} (h : checkT T = 0) : T.dec.length ≤ 256 := by
  obtain ⟨h1, _⟩ := check_rules h
  unfold r1 mpsT fewM at h1
  simp only [List.all_cons, List.all_nil, Bool.and_eq_true, decide_eq_true_eq, and_true] at h1
  exact h1.2.1.2.2.1

theorem dec_dp {T : Tb} (h : checkT T = 0) (c : Int) : Dp T.dec 256 c := siz_dp (dec_few h) (r6_fin (check_rules h).2.2.2.2 c)

theorem exp_fin {T : Tb} (h : checkT T = 0) {c : Int} (hc : scaB c = true) : ∀ x ∈ expT T c, Fin1 T x := by
  intro x hx
  unfold expT at hx
  split at hx
  · rename_i hn
    exact ful_fin h 256 c (dec_dp h c) hc hn x hx
  · exact fin_jamo h hx

theorem exp_len {T : Tb} (h : checkT T = 0) (c : Int) : 1 ≤ (expT T c).length ∧ (expT T c).length ≤ 18 := by
  unfold expT
  split
  · have h2 := r6_fin (check_rules h).2.2.2.2 c
    have h3 := siz_bd T.dec c
    have h4 : (ful T.dec c).length = siz T.dec c := ful_len 256 c h2 (dec_dp h c)
    omega
  · rename_i hn
    have := decS_length c
    have := List.length_pos_iff.2 hn
    omega

theorem Fin1.exp {T : Tb} {x : Int} (h : Fin1 T x) : expT T x = [x] := by
  unfold expT
  rw [if_pos h.2.2, ful_nil h.2.1]

theorem exp_rec {T : Tb} (h : checkT T = 0) {c : Int} (hn : decS c = []) (hf : findM T.dec c ≠ []) : expT T c = flatT T (findM T.dec c) := by
  unfold flatT
  rw [show expT T c = ful T.dec c by unfold expT; rw [if_pos hn], ful_eq (dec_dp h c) hf, List.flatMap_def, List.flatMap_def]
  congr 1
  refine List.map_congr_left fun x hx => ?_
  unfold expT
  rw [if_pos (dec_part h hx).2]

theorem exp_one {T : Tb} {c : Int} (hn : decS c = []) (hf : findM T.dec c = []) : expT T c = [c] := by
  unfold expT
  rw [if_pos hn, ful_nil hf]

theorem all_append (T : Tb) (a b : List Int) : flatT T (a ++ b) = flatT T a ++ flatT T b := by simp [flatT]
theorem all_cons (T : Tb) (c : Int) (b : List Int) : flatT T (c :: b) = expT T c ++ flatT T b := by simp [flatT]

theorem all_take (T : Tb) (l : List Int) (k : Nat) (hk : k < l.length) : flatT T (l.take (k + 1)) = flatT T (l.take k) ++ expT T (l.getD k 0) := by
  rw [take_snoc_int l k hk, all_append]; simp [flatT]

theorem all_fin {T : Tb} (h : checkT T = 0) {l : List Int} (hl : l.all scaB = true) : ∀ x ∈ flatT T l, Fin1 T x := by
  intro x hx
  rw [flatT, List.mem_flatMap] at hx
  obtain ⟨c, hc, hx⟩ := hx
  rw [List.all_eq_true] at hl
  exact exp_fin h (hl c hc) x hx

theorem all_id {T : Tb} {l : List Int} (hl : ∀ x ∈ l, Fin1 T x) : flatT T l = l := by
  induction l with
  | nil => rfl
  | cons x r ih =>
    rw [all_cons, (hl x (by simp)).exp, ih fun y hy => hl y (by simp [hy])]; rfl

theorem fin_sca {T : Tb} {l : List Int} (hl : ∀ x ∈ l, Fin1 T x) : l.all scaB = true := by
  rw [List.all_eq_true]; exact fun x hx => (hl x hx).1

theorem all_len {T : Tb} (h : checkT T = 0) (l : List Int) : l.length ≤ (flatT T l).length ∧ (flatT T l).length ≤ 18 * l.length := by
  induction l with
  | nil => simp [flatT]
  | cons x r ih =>
    have := exp_len h x
    rw [all_cons, List.length_append, List.length_cons]
    omega

theorem all_pre (T : Tb) (l : List Int) (k : Nat) : (flatT T (l.take k)).length ≤ (flatT T l).length := by
  conv => rhs; rw [← List.take_append_drop k l]
  rw [all_append, List.length_append]; omega

/-- A list of one code point, many times. -/
theorem all_rep (T : Tb) (n : Nat) (c : Int) : (flatT T (List.replicate n c)).length = n * (expT T c).length := by
  induction n with
  | zero => simp [flatT]
  | succ n ih => rw [List.replicate_succ, all_cons, List.length_append, ih, Nat.succ_mul]; omega

/-- Parts that are in order already. -/
theorem ordS_left (k : Int → Int) (a b : List Int) : ordS k (ordS k a ++ b) = ordS k (a ++ b) := by
  have e : ordR k [] (ordS k a) = ordR k [] a := by
    rw [ordR_id k (ordS k a) [] (by simpa using ordS_inOrd k a), List.append_nil]
    unfold ordS
    rw [List.reverse_reverse]
  unfold ordS at e ⊢
  rw [ordR_append, ordR_append, e]

theorem ordS_right (k : Int → Int) (a b : List Int) : ordS k (a ++ ordS k b) = ordS k (a ++ b) := by
  obtain ⟨n, hn⟩ : ∃ n, invs k b ≤ n := ⟨_, Nat.le_refl _⟩
  induction n generalizing b with
  | zero =>
    rw [(ordS_id_iff k b).2]
    rw [inOrd_iff]
    intro i hi hc
    have := (swp_ord k b i hi hc.1 hc.2).2
    omega
  | succ n ih =>
    by_cases hin : inOrd k b
    · rw [ordS_id k b hin]
    · rw [inOrd_iff] at hin
      obtain ⟨i, hi⟩ := Classical.not_forall.1 hin
      obtain ⟨hi, hc⟩ := Classical.not_imp.1 hi
      have hc := Classical.not_not.1 hc
      obtain ⟨e1, e2⟩ := swp_ord k b i hi hc.1 hc.2
      obtain ⟨p, q, _, f1, f2⟩ := swp_form b i hi
      have e3 : ordS k (a ++ swp b i) = ordS k (a ++ b) := by
        have := ordS_swap k (a ++ p) q hc.1 hc.2
        rw [f2]
        conv => rhs; rw [f1]
        simpa using this.symm
      rw [← e1, ih (swp b i) (by omega), e3]

theorem ordS_parts (k : Int → Int) (a b : List Int) : ordS k (ordS k a ++ ordS k b) = ordS k (a ++ b) := by rw [ordS_left, ordS_right]

theorem ord_fin {T : Tb} {l : List Int} (hl : ∀ x ∈ l, Fin1 T x) : ∀ x ∈ ordS (clsT T) l, Fin1 T x := fun x hx => hl x ((ordS_perm _ l).mem_iff.1 hx)

end Go.Proofs.YtiafhifbgdkgaaaGreatDoor

namespace Go.Proofs.YtiafhifbgdkgaaaGreatDoor
set_option linter.unusedVariables false

def oneT (T : Tb) (c : Int) : List Int := if scaB c = true ∧ checkT T = 0 then expT T c else []
def nfdE (T : Tb) (l : List Int) : Int := if accE T l ≠ 0 then accE T l else if 4096 < (flatT T l).length then 7 else 0
def nfdL (T : Tb) (l : List Int) : List Int := if nfdE T l = 0 then ordS (clsT T) (flatT T l) else []
def isnB (T : Tb) (l : List Int) : Bool := decide (nfdE T l = 0) && (nfdL T l == l)
def eqvE (T : Tb) (a b : List Int) : Int := if nfdE T a ≠ 0 then nfdE T a else nfdE T b
def eqvB (T : Tb) (a b : List Int) : Bool := decide (eqvE T a b = 0) && (nfdL T a == nfdL T b)

theorem nfdE_acc {T : Tb} {l : List Int} (h : accE T l ≠ 0) : nfdE T l = accE T l := if_pos h
theorem nfdE_full {T : Tb} {l : List Int} (h : accE T l = 0) (hb : 4096 < (flatT T l).length) : nfdE T l = 7 := by
  unfold nfdE; rw [if_neg (by omega), if_pos hb]
theorem nfdE_ok {T : Tb} {l : List Int} (h : accE T l = 0) (hb : (flatT T l).length ≤ 4096) : nfdE T l = 0 := by
  unfold nfdE; rw [if_neg (by omega), if_neg (by omega)]
theorem nfdE_zero {T : Tb} {l : List Int} (h : nfdE T l = 0) : accE T l = 0 ∧ (flatT T l).length ≤ 4096 := by
  unfold nfdE at h
  split at h
  · omega
  · split at h
    · omega
    · omega
theorem nfdL_ok {T : Tb} {l : List Int} (h : nfdE T l = 0) : nfdL T l = ordS (clsT T) (flatT T l) := if_pos h
theorem nfdL_err {T : Tb} {l : List Int} (h : nfdE T l ≠ 0) : nfdL T l = [] := if_neg h
theorem nfdL_len (T : Tb) (l : List Int) : (nfdL T l).length ≤ 4096 := by
  unfold nfdL
  split
  · rename_i h
    rw [ordS_length]; exact (nfdE_zero h).2
  · simp

theorem nfd_check {T : Tb} {l : List Int} (h : nfdE T l = 0) : checkT T = 0 := (accE_ok (nfdE_zero h).1).1
theorem nfd_sca {T : Tb} {l : List Int} (h : nfdE T l = 0) : l.all scaB = true := (accE_ok (nfdE_zero h).1).2.2

/-- What Order answers at the expanded list. -/
theorem nfd_acc {T : Tb} {l : List Int} (h : accE T l = 0) (hb : (flatT T l).length ≤ 4096) : accE T (flatT T l) = 0 ∧ ordL T (flatT T l) = nfdL T l := by
  obtain ⟨h1, _, h3⟩ := accE_ok h
  have e := accE_zero h1 hb (fin_sca (all_fin h1 h3))
  refine ⟨e, ?_⟩
  unfold ordL
  rw [if_pos e, nfdL_ok (nfdE_ok h hb)]

theorem nfd_fin {T : Tb} {l : List Int} (h : nfdE T l = 0) : ∀ x ∈ nfdL T l, Fin1 T x := by
  rw [nfdL_ok h]
  exact ord_fin (all_fin (nfd_check h) (nfd_sca h))

theorem nfd_twice {T : Tb} {l : List Int} (h : nfdE T l = 0) : nfdE T (nfdL T l) = 0 ∧ nfdL T (nfdL T l) = nfdL T l := by
  have hf := nfd_fin h
  have hi := all_id hf
  have hl := nfdL_len T l
  have e : nfdE T (nfdL T l) = 0 := nfdE_ok (accE_zero (nfd_check h) hl (fin_sca hf)) (by rw [hi]; exact hl)
  refine ⟨e, ?_⟩
  rw [nfdL_ok e, hi]
  conv => lhs; rw [nfdL_ok h, ordS_twice]
  exact (nfdL_ok h).symm

theorem isn_nfd {T : Tb} {l : List Int} (h : nfdE T l = 0) : isnB T (nfdL T l) = true := by
  obtain ⟨e1, e2⟩ := nfd_twice h
  unfold isnB
  rw [e1, e2]; simp

/-- Short lists are not too long. -/
theorem nfd_small {T : Tb} {l : List Int} (h : checkT T = 0) (hs : l.all scaB = true) (hl : l.length ≤ 227) : nfdE T l = 0 := by
  have := (all_len h l).2
  exact nfdE_ok (accE_zero h (by omega) hs) (by omega)

theorem nfd_concat {T : Tb} {a b : List Int} (ha : nfdE T a = 0) (hb : nfdE T b = 0) (hab : nfdE T (a ++ b) = 0) : accE T (nfdL T a ++ nfdL T b) = 0 ∧ ordL T (nfdL T a ++ nfdL T b) = nfdL T (a ++ b) := by
  have hc := nfd_check ha
  have hl := (nfdE_zero hab).2
  have e : accE T (nfdL T a ++ nfdL T b) = 0 := by
    refine accE_zero hc ?_ ?_
    · rw [nfdL_ok ha, nfdL_ok hb, List.length_append, ordS_length, ordS_length]
      rw [all_append, List.length_append] at hl
      exact hl
    · rw [List.all_append, fin_sca (nfd_fin ha), fin_sca (nfd_fin hb)]; rfl
  refine ⟨e, ?_⟩
  unfold ordL
  rw [if_pos e, nfdL_ok ha, nfdL_ok hb, nfdL_ok hab, ordS_parts, all_append]

/-- A code point is replaced by what it is expanded to. -/
theorem all_expand {T : Tb} (h : checkT T = 0) (a : List Int) (ha : a.all scaB = true) (k : Nat) (hk : k < a.length) : flatT T (a.take k ++ expT T (a.getD k 0) ++ a.drop (k + 1)) = flatT T a := by
  have hs : scaB (a.getD k 0) = true := by
    rw [List.all_eq_true] at ha
    exact ha _ (by simp [hk])
  have e : a = a.take k ++ (a.getD k 0 :: a.drop (k + 1)) := by
    have : a.getD k 0 = a[k] := by simp [hk]
    rw [this, ← List.drop_eq_getElem_cons hk, List.take_append_drop]
  conv => rhs; rw [e]
  rw [all_append, all_append, all_append, all_cons, all_id (exp_fin h hs)]
  simp

theorem nfd_expand {T : Tb} (h : checkT T = 0) (a : List Int) (ha : a.all scaB = true) (k : Nat) (hk : k < a.length) (hl : a.length ≤ 200) :
    nfdE T a = 0 ∧ nfdE T (a.take k ++ expT T (a.getD k 0) ++ a.drop (k + 1)) = 0 ∧ nfdL T (a.take k ++ expT T (a.getD k 0) ++ a.drop (k + 1)) = nfdL T a := by
  have hs : scaB (a.getD k 0) = true := by
    rw [List.all_eq_true] at ha
    exact ha _ (by simp [hk])
  have he := exp_len h (a.getD k 0)
  have e1 : nfdE T a = 0 := nfd_small h ha (by omega)
  have e2 : nfdE T (a.take k ++ expT T (a.getD k 0) ++ a.drop (k + 1)) = 0 := by
    refine nfd_small h ?_ (by simp only [List.length_append, List.length_take, List.length_drop]; omega)
    rw [List.all_append, List.all_append, fin_sca (exp_fin h hs)]
    rw [List.all_eq_true] at ha
    simp only [Bool.and_true, Bool.and_eq_true, List.all_eq_true]
    exact ⟨fun x hx => ha x (List.mem_of_mem_take hx), fun x hx => ha x (List.mem_of_mem_drop hx)⟩
  refine ⟨e1, e2, ?_⟩
  rw [nfdL_ok e1, nfdL_ok e2, all_expand h a ha k hk]

/-- A list of one code point, many times: its error. -/
theorem nfd_rep {T : Tb} (h : checkT T = 0) (k : Nat) (c : Int) (hs : scaB c = true) :
    nfdE T (List.replicate k c) = if 4096 < k * (expT T c).length then 7 else 0 := by
  have he := exp_len h c
  have hr := all_rep T k c
  have ha : (List.replicate k c).all scaB = true := by
    rw [List.all_eq_true]
    intro x hx
    rw [(List.mem_replicate.1 hx).2]; exact hs
  have hkn : k ≤ k * (expT T c).length := Nat.le_mul_of_pos_right k (by omega)
  by_cases hb : 4096 < k
  · have e := accE_full h (l := List.replicate k c) (by simpa using hb)
    rw [nfdE_acc (by rw [e]; decide), e, if_pos (by omega)]
  · have e := accE_zero h (l := List.replicate k c) (by simp; omega) ha
    unfold nfdE
    rw [hr, e]; simp

end Go.Proofs.YtiafhifbgdkgaaaGreatDoor

namespace Go.Proofs.YtiafhifbgdkgaaaGreatDoor
open Go.RowKit
set_option linter.unusedVariables false

theorem wp_append_ints_at {w : World} {o : Oper} {a : Act} {K : Act → World → Prop} {Q : Exit → Act → World → Prop} (s x : Operand)
    (ho : o.op = .call { callee := .builtin .append, args := #[s, x], argTypes := #[22, 22] })
    (base : Nat) (v : Value) (xs : List Int) (hs : a.eval s = v) (hown : Ints w base v xs)
    (p : Option Addr) (m c : Nat) (ys : List Int) (hm : ys.length = m) (hx : a.eval x = .slice p m c) (hin : IntsIn w p ys)
    (hlen : xs.length + ys.length ≤ 17592186043904) (hbase : base ≤ w.heap.size)
    (h : ∀ v' w', Ints w' base v' (xs ++ ys) → w.grownBy w' v.ownBlock → (v'.ownBlock = v.ownBlock ∨ v'.ownBlock = some w.heap.size) → K (a.put o.dst v') w') : o.wp Tryz.prog a w K Q := by
  subst hm
  obtain ⟨i0, hi, hz0, hz1, hz2⟩ := info_parts Tryz.info3
  cases p with
  | none =>
    have hy : ys = [] := by
      cases ys with
      | nil => rfl
      | cons y r => obtain ⟨_, _, e, _⟩ := hin 0 (by simp); cases e
    subst hy
    have hr := run_append_nil (P := Tryz.prog) base 22 o.type 3 i0 1 Tryz.underlying22 hi v xs.length _ c hown
    unfold Oper.wp execOp
    simp only [ho, resolve, invoke, builtin, Sem.run_bind, Sem.run_pure, Result.andThen_ok, List.map_toArray, List.map_cons, List.map_nil, hs, hx, List.length_nil, hr]
    exact h v w (by simpa using hown) (grownBy_refl _ _) (.inl rfl)
  | some ad =>
    have hcells : ∀ j u, (ys.map (Value.int .i64))[j]? = some u → w.cell? (ad.add j) = some u := by
      intro j u hu
      rw [List.getElem?_map] at hu
      cases hj : ys[j]? with
      | none => rw [hj] at hu; cases hu
      | some y =>
        rw [hj] at hu
        simp only [Option.map_some, Option.some.injEq] at hu
        obtain ⟨hjl, hje⟩ := List.getElem?_eq_some_iff.1 hj
        obtain ⟨b, off, e, hc⟩ := hin j hjl
        simp only [Option.some.injEq] at e
        subst e
        rw [Addr.add_lit, hc, ← hu]
        simp [List.getD, hj]
    have hone : ∀ u ∈ ys.map (Value.int .i64), u.oneCell' = true := by
      intro u hu
      obtain ⟨y, _, rfl⟩ := List.mem_map.1 hu
      rfl
    obtain ⟨v', w', hrun, h2, h3, _, h5⟩ := run_append_own_at (P := Tryz.prog) w base 22 o.type 3 i0 _ 1 8 Tryz.underlying22 hi hz0 hz1 hz2 rfl (by decide) v xs.length _ hown
      ad ys.length c (ys.map (Value.int .i64)) (by simp) hcells hone (by unfold maxLen; omega) (by omega) hbase
    unfold Oper.wp execOp
    simp only [ho, resolve, invoke, builtin, Sem.run_bind, Sem.run_pure, Result.andThen_ok, List.map_toArray, List.map_cons, List.map_nil, hs, hx, hrun]
    exact h v' w' (by unfold Ints; simpa using h2) h3 h5

theorem wpList_append_ints_at {w : World} {ops : Array Oper} {rest : List Oper} {o : Oper} {a : Act} {Q : Exit → Act → World → Prop} (s x : Operand)
    (ho : o.op = .call { callee := .builtin .append, args := #[s, x], argTypes := #[22, 22] })
    (hw : Region.wanted o (yielded ops a.tmps) = true)
    (base : Nat) (v : Value) (xs : List Int) (hs : a.eval s = v) (hown : Ints w base v xs)
    (p : Option Addr) (m c : Nat) (ys : List Int) (hm : ys.length = m) (hx : a.eval x = .slice p m c) (hin : IntsIn w p ys)
    (hlen : xs.length + ys.length ≤ 17592186043904) (hbase : base ≤ w.heap.size)
    (h : ∀ v' w', Ints w' base v' (xs ++ ys) → w.grownBy w' v.ownBlock → (v'.ownBlock = v.ownBlock ∨ v'.ownBlock = some w.heap.size) → wpList Tryz.prog ops Q rest (a.put o.dst v') w') : wpList Tryz.prog ops Q (o :: rest) a w := by
  unfold wpList
  rw [if_pos hw]
  exact .inl (wp_append_ints_at s x ho base v xs hs hown p m c ys hm hx hin hlen hbase h)

/-- What a call leaves that appends to its first argument. -/
def AppPost (B : Nat) (v : Value) (ys : List Int) (w : World) (e : Ending) (w' : World) : Prop :=
  ∃ v', e = .returned v' ∧ Ints w' B v' ys ∧ w.grownBy w' v.ownBlock ∧ ∀ b, b < w.heap.size → v.ownBlock ≠ some b → v'.ownBlock ≠ some b

/-- A row u that began as v in the world w1. -/
structure Chn (B : Nat) (w1 : World) (v u : Value) (ys : List Int) (wr : World) : Prop where
  row : Ints wr B u ys
  grown : w1.grownBy wr v.ownBlock
  off : ∀ b, b < w1.heap.size → v.ownBlock ≠ some b → u.ownBlock ≠ some b

theorem Chn.start {B : Nat} {w1 : World} {v : Value} {xs : List Int} (h : Ints w1 B v xs) : Chn B w1 v v xs w1 := ⟨h, grownBy_refl _ _, fun _ _ h => h⟩

theorem Chn.step {B : Nat} {w1 wr w' : World} {v u : Value} {ys : List Int} (h : Chn B w1 v u ys wr) (hb : Below wr.heap.size wr w') : Chn B w1 v u ys w' :=
  ⟨h.row.below hb, grownBy_of_below h.grown hb, h.off⟩

theorem Chn.write {B : Nat} {w1 wr w' : World} {v u u' : Value} {ys zs : List Int} (h : Chn B w1 v u ys wr) (hr : Ints w' B u' zs) (hg : wr.grownBy w' u.ownBlock) (ho : ∀ b, b < wr.heap.size → u.ownBlock ≠ some b → u'.ownBlock ≠ some b) : Chn B w1 v u' zs w' := by
  refine ⟨hr, ⟨hg.os.trans h.grown.os, hg.tape.trans h.grown.tape, hg.output.trans h.grown.output, Nat.le_trans h.grown.size hg.size, fun i hi hne => ?_⟩, fun b hb hne => ho b (Nat.lt_of_lt_of_le hb h.grown.size) (h.off b hb hne)⟩
  exact (hg.block i (Nat.lt_of_lt_of_le hi h.grown.size) (fun e => h.off i hi (fun e2 => hne e2.symm) e.symm)).trans (h.grown.block i hi hne)

theorem off_new {v u : Value} {w : World} (h : u.ownBlock = v.ownBlock ∨ u.ownBlock = some w.heap.size) : ∀ b, b < w.heap.size → v.ownBlock ≠ some b → u.ownBlock ≠ some b := by
  intro b hb hne
  rcases h with e | e
  · rw [e]; exact hne
  · rw [e]; simp; omega

theorem BoxT.off {w w' : World} {g : Nat} {x : TV} {row : Option Nat} (h : BoxT w g x) (hg : w.grownBy w' row) (hr : row ≠ some g) : BoxT w' g x := by
  obtain ⟨⟨h0, h1, h2, h3, h4, h5⟩, ⟨h6, h7, h8, h9, h10, h11⟩⟩ := h
  have key : ∀ i v, w.cell? ⟨g, i, none⟩ = some v → w'.cell? ⟨g, i, none⟩ = some v := fun i v hc => hg.cell hc (fun e => hr e.symm)
  exact ⟨⟨key _ _ h0, key _ _ h1, key _ _ h2, key _ _ h3, key _ _ h4, key _ _ h5⟩, ⟨key _ _ h6, key _ _ h7, key _ _ h8, key _ _ h9, key _ _ h10, key _ _ h11⟩⟩

theorem Chn.box {B g : Nat} {w1 wr : World} {v u : Value} {ys : List Int} {x : TV} (h : Chn B w1 v u ys wr) (hx : BoxT w1 g x) (hne : v.ownBlock ≠ some g) : BoxT wr g x := hx.off h.grown hne
theorem Chn.bel {w0 w1 wr : World} {v u : Value} {xs ys : List Int} (h : Chn w0.heap.size w1 v u ys wr) (hv : Ints w1 w0.heap.size v xs) (hb : Below w0.heap.size w0 w1) : Below w0.heap.size w0 wr := hb.grown h.grown hb.size hv.base
theorem Chn.kept {B C : Nat} {w1 wr : World} {v u q : Value} {ys fl : List Int} (h : Chn B w1 v u ys wr) (hq : Ints w1 C q fl) (hne : ∀ b, q.ownBlock = some b → v.ownBlock ≠ some b) : Ints wr C q fl := by
  refine World.ownsRow.kept hq h.grown ?_
  cases hb : q.ownBlock with
  | none => exact .inl rfl
  | some b => exact .inr fun e => hne b hb e.symm

/-- The end of the call. -/
theorem Chn.post {B : Nat} {w w1 wr : World} {v u : Value} {ys : List Int} (h : Chn B w1 v u ys wr) (hb : Below w.heap.size w w1) : w.grownBy wr v.ownBlock ∧ ∀ b, b < w.heap.size → v.ownBlock ≠ some b → u.ownBlock ≠ some b :=
  ⟨grownBy_trans (below_grownBy hb _) h.grown, fun b hlt => h.off b (Nat.lt_of_lt_of_le hlt hb.size)⟩

theorem NRet.step {L : List Int} {w w1 w2 : World} {e : Ending} (hb : Below w.heap.size w w1) (h : NRet L w1 e w2) : NRet L w e w2 := by
  obtain ⟨v, e1, ho, hb2⟩ := h
  exact ⟨v, e1, ho.mono hb.size, hb.trans (hb2.mono hb.size)⟩

end Go.Proofs.YtiafhifbgdkgaaaGreatDoor
