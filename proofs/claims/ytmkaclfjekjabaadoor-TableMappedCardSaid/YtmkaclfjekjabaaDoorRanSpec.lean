/-
  Lists of spans, plain mathematics: ascending lists, the value of a code point, joining, and that a normal list is the only one with its values.
-/
namespace Go.Proofs.YtmkaclfjekjabaaDoor

abbrev Sp := Int × Int × Int

def ends (lo : Int) : List Sp → Int
  | [] => lo
  | s :: r => ends (s.2.1 + 1) r

def ascB (lo : Int) : List Sp → Bool
  | [] => true
  | s :: r => decide (lo ≤ s.1) && (decide (s.1 ≤ s.2.1) && (decide (s.2.1 ≤ 1114111) && ascB (s.2.1 + 1) r))

theorem asc_cons {lo : Int} {s : Sp} {r : List Sp} : ascB lo (s :: r) = true ↔ lo ≤ s.1 ∧ s.1 ≤ s.2.1 ∧ s.2.1 ≤ 1114111 ∧ ascB (s.2.1 + 1) r = true := by
  simp [ascB]

theorem ends_append (lo : Int) (a b : List Sp) : ends lo (a ++ b) = ends (ends lo a) b := by
  induction a generalizing lo with
  | nil => rfl
  | cons s r ih => exact ih _

theorem asc_append {lo : Int} {a b : List Sp} : ascB lo (a ++ b) = true ↔ ascB lo a = true ∧ ascB (ends lo a) b = true := by
  induction a generalizing lo with
  | nil => simp [ascB, ends]
  | cons s r ih => simp only [List.cons_append, asc_cons, ih, ends, and_assoc]

theorem asc_weak {lo lo' : Int} {l : List Sp} (h : ascB lo' l = true) (hl : lo ≤ lo') : ascB lo l = true := by
  cases l with
  | nil => rfl
  | cons s r => rw [asc_cons] at h ⊢; exact ⟨by omega, h.2⟩

theorem ends_ge {lo : Int} {l : List Sp} (h : ascB lo l = true) : lo + l.length ≤ ends lo l := by
  induction l generalizing lo with
  | nil => simp [ends]
  | cons s r ih =>
    rw [asc_cons] at h
    have := ih h.2.2.2
    simp only [ends, List.length_cons]
    omega

theorem ends_le {lo : Int} {l : List Sp} (h : ascB lo l = true) (hl : lo ≤ 1114112) : ends lo l ≤ 1114112 := by
  induction l generalizing lo with
  | nil => simpa [ends] using hl
  | cons s r ih => rw [asc_cons] at h; exact ih h.2.2.2 (by omega)

theorem asc_length {l : List Sp} (h : ascB 0 l = true) : l.length ≤ 1114112 := by
  have h1 := ends_ge h
  have h2 := ends_le h (by omega)
  omega

theorem asc_mem {lo : Int} {l : List Sp} (h : ascB lo l = true) {s : Sp} (hs : s ∈ l) : lo ≤ s.1 ∧ s.1 ≤ s.2.1 ∧ s.2.1 ≤ 1114111 ∧ s.2.1 < ends lo l := by
  induction l generalizing lo with
  | nil => cases hs
  | cons t r ih =>
    rw [asc_cons] at h
    have h2 := ends_ge h.2.2.2
    rcases List.mem_cons.1 hs with rfl | hs
    · simp only [ends]; omega
    · have := ih h.2.2.2 hs
      simp only [ends]; omega

def val : List Sp → Int → Option Int
  | [], _ => none
  | s :: r, c => if s.1 ≤ c ∧ c ≤ s.2.1 then some s.2.2 else val r c

theorem val_cons (s : Sp) (r : List Sp) (c : Int) : val (s :: r) c = if s.1 ≤ c ∧ c ≤ s.2.1 then some s.2.2 else val r c := rfl

theorem val_append (a b : List Sp) (c : Int) : val (a ++ b) c = (val a c).or (val b c) := by
  induction a with
  | nil => simp [val]
  | cons s r ih => simp only [List.cons_append, val_cons, ih]; split <;> simp

theorem val_none {lo : Int} {l : List Sp} (h : ascB lo l = true) {c : Int} (hc : c < lo ∨ ends lo l ≤ c) : val l c = none := by
  induction l generalizing lo with
  | nil => rfl
  | cons s r ih =>
    rw [asc_cons] at h
    have h2 := ends_ge h.2.2.2
    simp only [ends] at hc
    rw [val_cons, if_neg (by omega)]
    exact ih h.2.2.2 (by omega)

theorem val_some {lo : Int} {l : List Sp} (h : ascB lo l = true) {c v : Int} (hv : val l c = some v) : lo ≤ c ∧ c < ends lo l := by
  by_cases hc : lo ≤ c ∧ c < ends lo l
  · exact hc
  · rw [val_none h (by omega)] at hv; cases hv

def touch (p s : Sp) : Bool := decide (p.2.1 + 1 = s.1) && decide (p.2.2 = s.2.2)

def nrmB : List Sp → Bool
  | s :: t :: r => !touch s t && nrmB (t :: r)
  | _ => true

theorem nrm_cons2 {s t : Sp} {r : List Sp} : nrmB (s :: t :: r) = true ↔ touch s t = false ∧ nrmB (t :: r) = true := by
  simp [nrmB]

theorem nrm_tail {s : Sp} {r : List Sp} (h : nrmB (s :: r) = true) : nrmB r = true := by
  cases r with
  | nil => rfl
  | cons t r => exact (nrm_cons2.1 h).2

theorem uniq {a b : List Sp} {lo : Int} (ha : ascB lo a = true) (hb : ascB lo b = true) (na : nrmB a = true) (nb : nrmB b = true) (h : ∀ c, val a c = val b c) : a = b := by
  induction a generalizing b lo with
  | nil =>
    cases b with
    | nil => rfl
    | cons t r =>
      rw [asc_cons] at hb
      have := h t.1
      rw [val_cons, if_pos (by omega)] at this
      cases this
  | cons s a ih =>
    cases b with
    | nil =>
      rw [asc_cons] at ha
      have := h s.1
      rw [val_cons, if_pos (by omega)] at this
      cases this
    | cons t b =>
      have ha' := ha
      have hb' := hb
      rw [asc_cons] at ha hb
      have key : ∀ {s t : Sp} {a b : List Sp}, ascB lo (s :: a) = true → ascB lo (t :: b) = true → (∀ c, val (s :: a) c = val (t :: b) c) → t.1 ≤ s.1 := by
        intro s t a b ha hb h
        rw [asc_cons] at ha hb
        have h1 := h s.1
        rw [val_cons, if_pos (by omega), val_cons] at h1
        by_cases hc : t.1 ≤ s.1 ∧ s.1 ≤ t.2.1
        · exact hc.1
        · rw [if_neg hc] at h1
          have := (val_some hb.2.2.2 h1.symm).1
          omega
      have e1 : s.1 = t.1 := by
        have := key ha' hb' h
        have := key hb' ha' (fun c => (h c).symm)
        omega
      have e2 : s.2.2 = t.2.2 := by
        have h1 := h s.1
        rw [val_cons, if_pos (by omega), val_cons, if_pos (by omega)] at h1
        simpa using h1
      have key2 : ∀ {s t : Sp} {a b : List Sp}, ascB lo (s :: a) = true → ascB lo (t :: b) = true → nrmB (s :: a) = true → s.1 = t.1 → s.2.2 = t.2.2 → (∀ c, val (s :: a) c = val (t :: b) c) → t.2.1 ≤ s.2.1 := by
        intro s t a b ha hb na e1 e2 h
        rw [asc_cons] at ha hb
        by_cases hlt : s.2.1 < t.2.1
        · have h1 := h (s.2.1 + 1)
          rw [val_cons, if_neg (by omega), val_cons, if_pos (by omega)] at h1
          cases a with
          | nil => cases h1
          | cons u a =>
            have hu := ha.2.2.2
            rw [asc_cons] at hu
            have hs := nrm_cons2.1 na
            rw [val_cons] at h1
            by_cases hc : u.1 ≤ s.2.1 + 1 ∧ s.2.1 + 1 ≤ u.2.1
            · rw [if_pos hc] at h1
              have hv : u.2.2 = t.2.2 := by simpa using h1
              have ht := hs.1
              simp only [touch, Bool.and_eq_false_iff, decide_eq_false_iff_not] at ht
              omega
            · rw [if_neg hc] at h1
              have := (val_some hu.2.2.2 h1).1
              omega
        · omega
      have e3 : s.2.1 = t.2.1 := by
        have := key2 ha' hb' na e1 e2 h
        have := key2 hb' ha' nb e1.symm e2.symm (fun c => (h c).symm)
        omega
      have est : s = t := Prod.ext e1 (Prod.ext e3 e2)
      subst est
      have := ih ha.2.2.2 hb.2.2.2 (nrm_tail na) (nrm_tail nb) (fun c => by
        by_cases hc : s.1 ≤ c ∧ c ≤ s.2.1
        · rw [val_none ha.2.2.2 (by omega), val_none hb.2.2.2 (by omega)]
        · have := h c
          rwa [val_cons, val_cons, if_neg hc, if_neg hc] at this)
      rw [this]

/-- One more span is joined to those that are there. -/
def jstep (acc : List Sp) (s : Sp) : List Sp :=
  match acc.getLast? with
  | none => [s]
  | some p => if touch p s = true then acc.dropLast ++ [(p.1, s.2.1, p.2.2)] else acc ++ [s]

theorem jstep_nil (s : Sp) : jstep [] s = [s] := rfl
theorem jstep_snoc (i : List Sp) (p s : Sp) : jstep (i ++ [p]) s = if touch p s = true then i ++ [(p.1, s.2.1, p.2.2)] else i ++ [p] ++ [s] := by
  simp [jstep]

def joinS (l : List Sp) : List Sp := l.foldl jstep []

theorem joinS_snoc (l : List Sp) (s : Sp) : joinS (l ++ [s]) = jstep (joinS l) s := by simp [joinS]

theorem nrm_snoc2 (i : List Sp) (p s : Sp) : nrmB (i ++ [p] ++ [s]) = (nrmB (i ++ [p]) && !touch p s) := by
  induction i with
  | nil => simp [nrmB]
  | cons t r ih =>
    cases r with
    | nil => simp [nrmB]
    | cons u r =>
      have := ih
      simp only [List.cons_append, nrmB] at this ⊢
      rw [this, Bool.and_assoc]

theorem nrm_last (i : List Sp) (p q : Sp) (h1 : p.1 = q.1) (h2 : p.2.2 = q.2.2) : nrmB (i ++ [p]) = nrmB (i ++ [q]) := by
  rcases List.eq_nil_or_concat i with rfl | ⟨j, u, rfl⟩
  · rfl
  · rw [List.concat_eq_append, nrm_snoc2, nrm_snoc2]; simp [touch, h1, h2]

theorem join_facts (l acc : List Sp) (lo : Int) (h : ascB lo (acc ++ l) = true) (hn : nrmB acc = true) :
    ascB lo (l.foldl jstep acc) = true ∧ nrmB (l.foldl jstep acc) = true ∧ (∀ c, val (l.foldl jstep acc) c = val (acc ++ l) c) ∧ ends lo (l.foldl jstep acc) = ends lo (acc ++ l) := by
  induction l generalizing acc with
  | nil => simp only [List.append_nil] at h; simp [h, hn]
  | cons s l ih =>
    rcases List.eq_nil_or_concat acc with rfl | ⟨i, p, rfl⟩
    · exact ih [s] h rfl
    · rw [List.concat_eq_append] at *
      have ha := h
      rw [List.append_assoc, asc_append] at h
      obtain ⟨hi, h⟩ := h
      simp only [List.cons_append, List.nil_append, asc_cons] at h
      rw [List.foldl_cons, jstep_snoc]
      by_cases ht : touch p s = true
      · rw [if_pos ht]
        simp only [touch, Bool.and_eq_true, decide_eq_true_eq] at ht
        have h1 : ascB lo (i ++ [(p.1, s.2.1, p.2.2)] ++ l) = true := by
          rw [List.append_assoc, asc_append]
          refine ⟨hi, ?_⟩
          simp only [List.cons_append, List.nil_append, asc_cons]
          exact ⟨h.1, by omega, h.2.2.2.2.2.1, h.2.2.2.2.2.2⟩
        have hq := ih (i ++ [(p.1, s.2.1, p.2.2)]) h1 (by rw [nrm_last i (p.1, s.2.1, p.2.2) p rfl rfl]; exact hn)
        refine ⟨hq.1, hq.2.1, fun c => ?_, ?_⟩
        · rw [hq.2.2.1, List.append_assoc, List.append_assoc, val_append i, val_append i]
          congr 1
          simp only [List.cons_append, List.nil_append, val_cons]
          by_cases hc : s.1 ≤ c ∧ c ≤ s.2.1
          · rw [if_pos (by omega), if_neg (by omega), if_pos hc, ht.2]
          · by_cases hp : p.1 ≤ c ∧ c ≤ p.2.1
            · rw [if_pos (by omega), if_pos hp]
            · rw [if_neg (by omega), if_neg hp, if_neg hc]
        · rw [hq.2.2.2, List.append_assoc, List.append_assoc, ends_append lo i, ends_append lo i]; rfl
      · rw [if_neg ht]
        have hq := ih (i ++ [p] ++ [s]) (by simpa using ha) (by rw [nrm_snoc2, hn]; simpa using ht)
        refine ⟨hq.1, hq.2.1, fun c => ?_, ?_⟩
        · rw [hq.2.2.1]; simp
        · rw [hq.2.2.2]; simp

theorem join_asc {l : List Sp} {lo : Int} (h : ascB lo l = true) : ascB lo (joinS l) = true := (join_facts l [] lo h rfl).1
theorem join_nrm {l : List Sp} {lo : Int} (h : ascB lo l = true) : nrmB (joinS l) = true := (join_facts l [] lo h rfl).2.1
theorem join_val {l : List Sp} {lo : Int} (h : ascB lo l = true) (c : Int) : val (joinS l) c = val l c := (join_facts l [] lo h rfl).2.2.1 c
theorem join_ends {l : List Sp} {lo : Int} (h : ascB lo l = true) : ends lo (joinS l) = ends lo l := (join_facts l [] lo h rfl).2.2.2

/-- Ascending lists with the same values join to the same list. -/
theorem join_eq {a b : List Sp} {lo : Int} (ha : ascB lo a = true) (hb : ascB lo b = true) (h : ∀ c, val a c = val b c) : joinS a = joinS b :=
  uniq (join_asc ha) (join_asc hb) (join_nrm ha) (join_nrm hb) fun c => by rw [join_val ha, join_val hb, h]

theorem join_of_nrm {a : List Sp} {lo : Int} (ha : ascB lo a = true) (h : nrmB a = true) : joinS a = a :=
  uniq (join_asc ha) ha (join_nrm ha) h fun c => join_val ha c

theorem jstep_length (acc : List Sp) (s : Sp) : (jstep acc s).length ≤ acc.length + 1 := by
  rcases List.eq_nil_or_concat acc with rfl | ⟨i, p, rfl⟩
  · simp [jstep]
  · rw [List.concat_eq_append, jstep_snoc]; split <;> simp <;> omega

theorem join_length_aux (l acc : List Sp) : (l.foldl jstep acc).length ≤ acc.length + l.length := by
  induction l generalizing acc with
  | nil => simp
  | cons s l ih => have := ih (jstep acc s); have := jstep_length acc s; simp only [List.foldl_cons, List.length_cons]; omega

theorem join_length (l : List Sp) : (joinS l).length ≤ l.length := by have := join_length_aux l []; simpa [joinS] using this

/-- How many code points have a value. -/
def cnt : List Sp → Int
  | [] => 0
  | s :: r => (s.2.1 - s.1 + 1) + cnt r

theorem cnt_append (a b : List Sp) : cnt (a ++ b) = cnt a + cnt b := by
  induction a with
  | nil => simp [cnt]
  | cons s r ih => simp only [List.cons_append, cnt, ih]; omega

theorem cnt_snoc (a : List Sp) (s : Sp) : cnt (a ++ [s]) = cnt a + (s.2.1 - s.1 + 1) := by rw [cnt_append]; simp [cnt]

theorem cnt_bd {lo : Int} {l : List Sp} (h : ascB lo l = true) : 0 ≤ cnt l ∧ cnt l ≤ ends lo l - lo := by
  induction l generalizing lo with
  | nil => simp [cnt, ends]
  | cons s r ih => rw [asc_cons] at h; have := ih h.2.2.2; simp only [cnt, ends]; omega

theorem cnt_join_aux (l acc : List Sp) : cnt (l.foldl jstep acc) = cnt acc + cnt l := by
  induction l generalizing acc with
  | nil => simp [cnt]
  | cons s l ih =>
    rw [List.foldl_cons, ih]
    rcases List.eq_nil_or_concat acc with rfl | ⟨i, p, rfl⟩
    · simp [jstep, cnt]
    · rw [List.concat_eq_append, jstep_snoc]
      split
      · rename_i ht
        simp only [touch, Bool.and_eq_true, decide_eq_true_eq] at ht
        rw [cnt_snoc, cnt_snoc]; simp only [cnt]; omega
      · rw [cnt_snoc]; simp only [cnt]; omega

theorem cnt_join (l : List Sp) : cnt (joinS l) = cnt l := by have := cnt_join_aux l []; simpa [joinS, cnt] using this

end Go.Proofs.YtmkaclfjekjabaaDoor
