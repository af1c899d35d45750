/-
  Lists of spans, plain mathematics: ascending lists, the value of a code point, joining, and that a normal list is the only one with its values.
  Small words on slices that a call owns.
  Slices of spans in memory.
  Slices of spans: make, append of one span and of many, a store into a span of the call's own.
  append of spans: where the new row lies; a struct variable's block.
  Lists of spans, plain mathematics: finding, the parts before and after a code point, what a list leaves uncovered of another one, interleaving; setting, clearing, overlaying in two ways.
  ranges: isValid.
  ranges: Check.
-/
import Derived.Test.YtiafhifbgdkgaaaGreatDoorRows
import Derived.WalkKit
import Derived.WalkSpells
import Derived.WalkLawsBesides
import Derived.Lib.Hide
import Derived.Laws.BytesArg
import Derived.Deep.QuietTactic
import Derived.BigQuiet
import Derived.Deep.DeepCutAuto
import Derived.Maps.AppendAt
import Derived.Deep.RegionHeld3
import Derived.Deep.AppendLies
import Derived.OwnWalk
set_option linter.unusedSimpArgs false
set_option linter.unusedVariables false
namespace Go.Proofs.YtiafhifbgdkgaaaGreatDoor

abbrev Sp := Int × Int × Int

def ends (lo : Int) : List Sp → Int
  | [] => lo
  | s :: r => ends (s.2.1 + 1) r

def ascB (lo : Int) : List Sp → Bool
  | [] => true
  | s :: r => decide (lo ≤ s.1) && (decide (s.1 ≤ s.2.1) && (decide (s.2.1 ≤ 1114111) && ascB (s.2.1 + 1) r))

theorem asc_cons {lo : Int} {s : Sp} {r : List Sp} : ascB lo (s :: r) = true ↔ lo ≤ s.1 ∧ s.1 ≤ s.2.1 ∧ s.2.1 ≤ 1114111 ∧ ascB (s.2.1 + 1) r = true := by
  simp [ascB]

theorem ends_append (lo : Int) (a b : List Sp) : ends lo (a ++ b) = ends (ends lo a) b := by
  induction a generalizing lo with
  | nil => rfl
  | cons s r ih => exact ih _

theorem asc_append {lo : Int} {a b : List Sp} : ascB lo (a ++ b) = true ↔ ascB lo a = true ∧ ascB (ends lo a) b = true := by
  induction a generalizing lo with
  | nil => simp [ascB, ends]
  | cons s r ih => simp only [List.cons_append, asc_cons, ih, ends, and_assoc]

theorem asc_weak {lo lo' : Int} {l : List Sp} (h : ascB lo' l = true) (hl : lo ≤ lo') : ascB lo l = true := by
  cases l with
  | nil => rfl
  | cons s r => rw [asc_cons] at h ⊢; exact ⟨by omega, h.2⟩

theorem ends_ge {lo : Int} {l : List Sp} (h : ascB lo l = true) : lo + l.length ≤ ends lo l := by
  induction l generalizing lo with
  | nil => simp [ends]
  | cons s r ih =>
    rw [asc_cons] at h
    have := ih h.2.2.2
    simp only [ends, List.length_cons]
    omega

theorem ends_le {lo : Int} {l : List Sp} (h : ascB lo l = true) (hl : lo ≤ 1114112) : ends lo l ≤ 1114112 := by
  induction l generalizing lo with
  | nil => simpa [ends] using hl
  | cons s r ih => rw [asc_cons] at h; exact ih h.2.2.2 (by omega)

theorem asc_length {l : List Sp} (h : ascB 0 l = true) : l.length ≤ 1114112 := by
  have h1 := ends_ge h
  have h2 := ends_le h (by omega)
  omega

theorem asc_mem {lo : Int} {l : List Sp} (h : ascB lo l = true) {s : Sp} (hs : s ∈ l) : lo ≤ s.1 ∧ s.1 ≤ s.2.1 ∧ s.2.1 ≤ 1114111 ∧ s.2.1 < ends lo l := by
  induction l generalizing lo with
  | nil => cases hs
  | cons t r ih =>
    rw [asc_cons] at h
    have h2 := ends_ge h.2.2.2
    rcases List.mem_cons.1 hs with rfl | hs
    · simp only [ends]; omega
    · have := ih h.2.2.2 hs
      simp only [ends]; omega

def val : List Sp → Int → Option Int
  | [], _ => none
  | s :: r, c => if s.1 ≤ c ∧ c ≤ s.2.1 then some s.2.2 else val r c

theorem val_cons (s : Sp) (r : List Sp) (c : Int) : val (s :: r) c = if s.1 ≤ c ∧ c ≤ s.2.1 then some s.2.2 else val r c := rfl

theorem val_append (a b : List Sp) (c : Int) : val (a ++ b) c = (val a c).or (val b c) := by
  induction a with
  | nil => simp [val]
  | cons s r ih => simp only [List.cons_append, val_cons, ih]; split <;> simp

theorem val_none {lo : Int} {l : List Sp} (h : ascB lo l = true) {c : Int} (hc : c < lo ∨ ends lo l ≤ c) : val l c = none := by
  induction l generalizing lo with
  | nil => rfl
  | cons s r ih =>
    rw [asc_cons] at h
    have h2 := ends_ge h.2.2.2
    simp only [ends] at hc
    rw [val_cons, if_neg (by omega)]
    exact ih h.2.2.2 (by omega)

theorem val_some {lo : Int} {l : List Sp} (h : ascB lo l = true) {c v : Int} (hv : val l c = some v) : lo ≤ c ∧ c < ends lo l := by
  by_cases hc : lo ≤ c ∧ c < ends lo l
  · exact hc
  · rw [val_none h (by omega)] at hv; cases hv

def touch (p s : Sp) : Bool := decide (p.2.1 + 1 = s.1) && decide (p.2.2 = s.2.2)

def nrmB : List Sp → Bool
  | s :: t :: r => !touch s t && nrmB (t :: r)
  | _ => true

theorem nrm_cons2 {s t : Sp} {r : List Sp} : nrmB (s :: t :: r) = true ↔ touch s t = false ∧ nrmB (t :: r) = true := by
  simp [nrmB]

theorem nrm_tail {s : Sp} {r : List Sp} (h : nrmB (s :: r) = true) : nrmB r = true := by
  cases r with
  | nil => rfl
  | cons t r => exact (nrm_cons2.1 h).2

theorem uniq {a b : List Sp} {lo : Int} (ha : ascB lo a = true) (hb : ascB lo b = true) (na : nrmB a = true) (nb : nrmB b = true) (h : ∀ c, val a c = val b c) : a = b := by
  induction a generalizing b lo with
  | nil =>
    cases b with
    | nil => rfl
    | cons t r =>
      rw [asc_cons] at hb
      have := h t.1
      rw [val_cons, if_pos (by omega)] at this
      cases this
  | cons s a ih =>
    cases b with
    | nil =>
      rw [asc_cons] at ha
      have := h s.1
      rw [val_cons, if_pos (by omega)] at this
      cases this
    | cons t b =>
      have ha' := ha
      have hb' := hb
      rw [asc_cons] at ha hb
      have key : ∀ {s t : Sp} {a b : List Sp}, ascB lo (s :: a) = true → ascB lo (t :: b) = true → (∀ c, val (s :: a) c = val (t :: b) c) → t.1 ≤ s.1 := by
        intro s t a b ha hb h
        rw [asc_cons] at ha hb
        have h1 := h s.1
        rw [val_cons, if_pos (by omega), val_cons] at h1
        by_cases hc : t.1 ≤ s.1 ∧ s.1 ≤ t.2.1
        · exact hc.1
        · rw [if_neg hc] at h1
          have := (val_some hb.2.2.2 h1.symm).1
          omega
      have e1 : s.1 = t.1 := by
        have := key ha' hb' h
        have := key hb' ha' (fun c => (h c).symm)
        omega
      have e2 : s.2.2 = t.2.2 := by
        have h1 := h s.1
        rw [val_cons, if_pos (by omega), val_cons, if_pos (by omega)] at h1
        simpa using h1
      have key2 : ∀ {s t : Sp} {a b : List Sp}, ascB lo (s :: a) = true → ascB lo (t :: b) = true → nrmB (s :: a) = true → s.1 = t.1 → s.2.2 = t.2.2 → (∀ c, val (s :: a) c = val (t :: b) c) → t.2.1 ≤ s.2.1 := by
        intro s t a b ha hb na e1 e2 h
        rw [asc_cons] at ha hb
        by_cases hlt : s.2.1 < t.2.1
        · have h1 := h (s.2.1 + 1)
          rw [val_cons, if_neg (by omega), val_cons, if_pos (by omega)] at h1
          cases a with
          | nil => cases h1
          | cons u a =>
            have hu := ha.2.2.2
            rw [asc_cons] at hu
            have hs := nrm_cons2.1 na
            rw [val_cons] at h1
            by_cases hc : u.1 ≤ s.2.1 + 1 ∧ s.2.1 + 1 ≤ u.2.1
            · rw [if_pos hc] at h1
              have hv : u.2.2 = t.2.2 := by simpa using h1
              have ht := hs.1
              simp only [touch, Bool.and_eq_false_iff, decide_eq_false_iff_not] at ht
              omega
            · rw [if_neg hc] at h1
              have := (val_some hu.2.2.2 h1).1
              omega
        · omega
      have e3 : s.2.1 = t.2.1 := by
        have := key2 ha' hb' na e1 e2 h
        have := key2 hb' ha' nb e1.symm e2.symm (fun c => (h c).symm)
        omega
      have est : s = t := Prod.ext e1 (Prod.ext e3 e2)
      subst est
      have := ih ha.2.2.2 hb.2.2.2 (nrm_tail na) (nrm_tail nb) (fun c => by
        by_cases hc : s.1 ≤ c ∧ c ≤ s.2.1
        · rw [val_none ha.2.2.2 (by omega), val_none hb.2.2.2 (by omega)]
        · have := h c
          rwa [val_cons, val_cons, if_neg hc, if_neg hc] at this)
      rw [this]

/-- One more span is joined to those that are there. -/
def jstep (acc : List Sp) (s : Sp) : List Sp :=
  match acc.getLast? with
  | none => [s]
  | some p => if touch p s = true then acc.dropLast ++ [(p.1, s.2.1, p.2.2)] else acc ++ [s]

theorem jstep_nil (s : Sp) : jstep [] s = [s] := rfl
theorem jstep_snoc (i : List Sp) (p s : Sp) : jstep (i ++ [p]) s = if touch p s = true then i ++ [(p.1, s.2.1, p.2.2)] else i ++ [p] ++ [s] := by
  simp [jstep]

def joinS (l : List Sp) : List Sp := l.foldl jstep []

theorem joinS_snoc (l : List Sp) (s : Sp) : joinS (l ++ [s]) = jstep (joinS l) s := by simp [joinS]

theorem nrm_snoc2 (i : List Sp) (p s : Sp) : nrmB (i ++ [p] ++ [s]) = (nrmB (i ++ [p]) && !touch p s) := by
  induction i with
  | nil => simp [nrmB]
  | cons t r ih =>
    cases r with
    | nil => simp [nrmB]
    | cons u r =>
      have := ih
      simp only [List.cons_append, nrmB] at this ⊢
      rw [this, Bool.and_assoc]

theorem nrm_last (i : List Sp) (p q : Sp) (h1 : p.1 = q.1) (h2 : p.2.2 = q.2.2) : nrmB (i ++ [p]) = nrmB (i ++ [q]) := by
  rcases List.eq_nil_or_concat i with rfl | ⟨j, u, rfl⟩
  · rfl
  · rw [List.concat_eq_append, nrm_snoc2, nrm_snoc2]; simp [touch, h1, h2]

theorem join_facts (l acc : List Sp) (lo : Int) (h : ascB lo (acc ++ l) = true) (hn : nrmB acc = true) :
    ascB lo (l.foldl jstep acc) = true ∧ nrmB (l.foldl jstep acc) = true ∧ (∀ c, val (l.foldl jstep acc) c = val (acc ++ l) c) ∧ ends lo (l.foldl jstep acc) = ends lo (acc ++ l) := by
  induction l generalizing acc with
  | nil => simp only [List.append_nil] at h; simp [h, hn]
  | cons s l ih =>
    rcases List.eq_nil_or_concat acc with rfl | ⟨i, p, rfl⟩
    · exact ih [s] h rfl
    · rw [List.concat_eq_append] at *
      have ha := h
      rw [List.append_assoc, asc_append] at h
      obtain ⟨hi, h⟩ := h
      simp only [List.cons_append, List.nil_append, asc_cons] at h
      rw [List.foldl_cons, jstep_snoc]
      by_cases ht : touch p s = true
      · rw [if_pos ht]
        simp only [touch, Bool.and_eq_true, decide_eq_true_eq] at ht
        have h1 : ascB lo (i ++ [(p.1, s.2.1, p.2.2)] ++ l) = true := by
          rw [List.append_assoc, asc_append]
          refine ⟨hi, ?_⟩
          simp only [List.cons_append, List.nil_append, asc_cons]
          exact ⟨h.1, by omega, h.2.2.2.2.2.1, h.2.2.2.2.2.2⟩
        have hq := ih (i ++ [(p.1, s.2.1, p.2.2)]) h1 (by rw [nrm_last i (p.1, s.2.1, p.2.2) p rfl rfl]; exact hn)
        refine ⟨hq.1, hq.2.1, fun c => ?_, ?_⟩
        · rw [hq.2.2.1, List.append_assoc, List.append_assoc, val_append i, val_append i]
          congr 1
          simp only [List.cons_append, List.nil_append, val_cons]
          by_cases hc : s.1 ≤ c ∧ c ≤ s.2.1
          · rw [if_pos (by omega), if_neg (by omega), if_pos hc, ht.2]
          · by_cases hp : p.1 ≤ c ∧ c ≤ p.2.1
            · rw [if_pos (by omega), if_pos hp]
            · rw [if_neg (by omega), if_neg hp, if_neg hc]
        · rw [hq.2.2.2, List.append_assoc, List.append_assoc, ends_append lo i, ends_append lo i]; rfl
      · rw [if_neg ht]
        have hq := ih (i ++ [p] ++ [s]) (by simpa using ha) (by rw [nrm_snoc2, hn]; simpa using ht)
        refine ⟨hq.1, hq.2.1, fun c => ?_, ?_⟩
        · rw [hq.2.2.1]; simp
        · rw [hq.2.2.2]; simp

theorem join_asc {l : List Sp} {lo : Int} (h : ascB lo l = true) : ascB lo (joinS l) = true := (join_facts l [] lo h rfl).1
theorem join_nrm {l : List Sp} {lo : Int} (h : ascB lo l = true) : nrmB (joinS l) = true := (join_facts l [] lo h rfl).2.1
theorem join_val {l : List Sp} {lo : Int} (h : ascB lo l = true) (c : Int) : val (joinS l) c = val l c := (join_facts l [] lo h rfl).2.2.1 c
theorem join_ends {l : List Sp} {lo : Int} (h : ascB lo l = true) : ends lo (joinS l) = ends lo l := (join_facts l [] lo h rfl).2.2.2

/-- Ascending lists with the same values join to the same list. -/
theorem join_eq {a b : List Sp} {lo : Int} (ha : ascB lo a = true) (hb : ascB lo b = true) (h : ∀ c, val a c = val b c) : joinS a = joinS b :=
  uniq (join_asc ha) (join_asc hb) (join_nrm ha) (join_nrm hb) fun c => by rw [join_val ha, join_val hb, h]

theorem join_of_nrm {a : List Sp} {lo : Int} (ha : ascB lo a = true) (h : nrmB a = true) : joinS a = a :=
  uniq (join_asc ha) ha (join_nrm ha) h fun c => join_val ha c

theorem jstep_length (acc : List Sp) (s : Sp) : (jstep acc s).length ≤ acc.length + 1 := by
  rcases List.eq_nil_or_concat acc with rfl | ⟨i, p, rfl⟩
  · simp [jstep]
  · rw [List.concat_eq_append, jstep_snoc]; split <;> simp <;> omega

theorem join_length_aux (l acc : List Sp) : (l.foldl jstep acc).length ≤ acc.length + l.length := by
  induction l generalizing acc with
  | nil => simp
  | cons s l ih => have := ih (jstep acc s); have := jstep_length acc s; simp only [List.foldl_cons, List.length_cons]; omega

theorem join_length (l : List Sp) : (joinS l).length ≤ l.length := by have := join_length_aux l []; simpa [joinS] using this

/-- How many code points have a value. -/
def cnt : List Sp → Int
  | [] => 0
  | s :: r => (s.2.1 - s.1 + 1) + cnt r

theorem cnt_append (a b : List Sp) : cnt (a ++ b) = cnt a + cnt b := by
  induction a with
  | nil => simp [cnt]
  | cons s r ih => simp only [List.cons_append, cnt, ih]; omega

theorem cnt_snoc (a : List Sp) (s : Sp) : cnt (a ++ [s]) = cnt a + (s.2.1 - s.1 + 1) := by rw [cnt_append]; simp [cnt]

theorem cnt_bd {lo : Int} {l : List Sp} (h : ascB lo l = true) : 0 ≤ cnt l ∧ cnt l ≤ ends lo l - lo := by
  induction l generalizing lo with
  | nil => simp [cnt, ends]
  | cons s r ih => rw [asc_cons] at h; have := ih h.2.2.2; simp only [cnt, ends]; omega

theorem cnt_join_aux (l acc : List Sp) : cnt (l.foldl jstep acc) = cnt acc + cnt l := by
  induction l generalizing acc with
  | nil => simp [cnt]
  | cons s l ih =>
    rw [List.foldl_cons, ih]
    rcases List.eq_nil_or_concat acc with rfl | ⟨i, p, rfl⟩
    · simp [jstep, cnt]
    · rw [List.concat_eq_append, jstep_snoc]
      split
      · rename_i ht
        simp only [touch, Bool.and_eq_true, decide_eq_true_eq] at ht
        rw [cnt_snoc, cnt_snoc]; simp only [cnt]; omega
      · rw [cnt_snoc]; simp only [cnt]; omega

theorem cnt_join (l : List Sp) : cnt (joinS l) = cnt l := by have := cnt_join_aux l []; simpa [joinS, cnt] using this

end Go.Proofs.YtiafhifbgdkgaaaGreatDoor

namespace Go.Proofs.YtiafhifbgdkgaaaGreatDoor
open Go.RowKit

theorem below_grownBy {w w' : World} (h : Below w.heap.size w w') (row : Option Nat) : w.grownBy w' row :=
  ⟨h.os, h.tape, h.output, h.size, fun k hk _ => h.block k hk⟩

/-- An owned row is kept by a call that only makes memory. -/
theorem ownsRow_below {w w' : World} {B : Nat} {e : TypeId} {z : Nat} {v : Value} {n : Nat} {xs : List Value} (h : w.ownsRow B e z v n xs) (hb : Below w.heap.size w w') : w'.ownsRow B e z v n xs :=
  h.kept (below_grownBy hb none) (by cases v.ownBlock <;> simp)

/-- An owned row from B on is owned from every smaller number on. -/
theorem ownsRow_mono {w : World} {B B' : Nat} {e : TypeId} {z : Nat} {v : Value} {n : Nat} {xs : List Value} (h : w.ownsRow B e z v n xs) (hB : B' ≤ B) : w.ownsRow B' e z v n xs := by
  obtain ⟨h1, h2⟩ := h
  refine ⟨h1, ?_⟩
  rcases h2 with h2 | ⟨g, cap, cur, a, b, c⟩
  · exact .inl h2
  · exact .inr ⟨g, cap, cur, a, by omega, c⟩

theorem below_own {B : Nat} {w wr w1 : World} {row : Option Nat} (h : Below B w wr) (hg : wr.grownBy w1 row) (hB : B ≤ w.heap.size) (hr : ∀ k, row = some k → B ≤ k) : Below B w w1 :=
  h.grown hg (Nat.le_trans hB h.size) hr

theorem Tryz.info3 : (Tryz.prog.info? 3).map (fun i => (i.zero, i.size, i.bytes)) = some (some (.int .i64 0), 1, 8) := by kernel_rfl

/-- A new slice of ints. -/
def Ints (w : World) (B : Nat) (v : Value) (xs : List Int) : Prop := w.ownsRow B 3 1 v xs.length (xs.map (.int .i64))

theorem Ints.nil (w : World) (B : Nat) : Ints w B (.slice none 0 0) [] := World.ownsRow_nil _ _ _ _
theorem Ints.below {w w' : World} {B : Nat} {v : Value} {xs : List Int} (h : Ints w B v xs) (hb : Below w.heap.size w w') : Ints w' B v xs := ownsRow_below h hb

/-- The numbers of a slice that is only read: the cell of each place. -/
def RowIn (t : IntKind) (w : World) (p : Option Addr) (zs : List Int) : Prop :=
  ∀ k, k < zs.length → ∃ b off, p = some ⟨b, off, none⟩ ∧ w.cell? ⟨b, off + k, none⟩ = some (.int t (zs.getD k 0))

abbrev IntsIn (w : World) (p : Option Addr) (zs : List Int) : Prop := RowIn .i64 w p zs
abbrev BytesInS (w : World) (p : Option Addr) (zs : List Int) : Prop := RowIn .u8 w p zs

theorem RowIn.below {t : IntKind} {w w' : World} {p : Option Addr} {zs : List Int} (h : RowIn t w p zs) (hb : Below w.heap.size w w') : RowIn t w' p zs := by
  intro k hk
  obtain ⟨b, off, e, hc⟩ := h k hk
  exact ⟨b, off, e, (hb.cell (p := ⟨b, off + k, none⟩) (World.block_lt_of_cell? w _ hc)).trans hc⟩

theorem RowIn.alloc {t : IntKind} {w : World} {p : Option Addr} {zs : List Int} (h : RowIn t w p zs) (o : Obj) : RowIn t (w.alloc o) p zs :=
  h.below ((Below.refl _ _).alloc (Nat.le_refl _) o)

/-- What the frame of a law tells of a slice of integers that came in: it is nil; or it leads to a row of 'cap' cells. -/
def IsRow (k : IntKind) (w : World) (a : Option Addr) (len cap : Nat) (zs : List Int) : Prop :=
  (a = none ∧ len = 0 ∧ cap = 0 ∧ zs = []) ∨
  ∃ x, a = some x ∧ len ≤ cap ∧ cap * (k.bits / 8) ≤ 140737488351232 ∧ zs.length = cap ∧ (∀ i, i < zs.length → w.cell? (x.add i) = some (.int k (zs.getD i 0))) ∧ ∀ n ∈ zs, (Lit.int k n).wf = true

theorem IsRow.inn {t : IntKind} {w : World} {a : Option Addr} {len cap : Nat} {zs : List Int} (h : IsRow t w a len cap zs) :
    ∃ xs : List Int, len = xs.length ∧ xs.length * (t.bits / 8) ≤ 140737488351232 ∧ RowIn t w a xs ∧ ∀ n ∈ xs, (Lit.int t n).wf = true := by
  rcases h with ⟨rfl, rfl, rfl, rfl⟩ | ⟨x, rfl, h1, h2, h3, h4, h5⟩
  · exact ⟨[], rfl, by simp, fun k hk => by simp at hk, by simp⟩
  · refine ⟨zs.take len, by simp; omega, Nat.le_trans (Nat.mul_le_mul_right _ (by simp; omega)) h2, fun k hk => ?_, fun n hn => h5 n (List.mem_of_mem_take hn)⟩
    have hk' : k < len := by simp at hk; omega
    have hz : k < zs.length := by omega
    have h0 := h4 0 (by omega)
    have hs : x.spot = none := by
      rw [Addr.add_zero'] at h0
      unfold World.cell? at h0
      split at h0
      · split at h0
        · cases h0
        · rename_i hh; simpa using hh
      · cases h0
    obtain ⟨b, off, sp⟩ := x
    subst hs
    refine ⟨b, off, rfl, ?_⟩
    have := h4 k hz
    rw [Addr.add_lit] at this
    rw [this]
    simp [hk', hz]

theorem Ints.inn {w : World} {B : Nat} {v : Value} {zs : List Int} (h : Ints w B v zs) : ∃ p cap, v = .slice p zs.length cap ∧ IntsIn w p zs := by
  obtain ⟨h1, h2⟩ := h
  rcases h2 with ⟨rfl, h3⟩ | ⟨g, cap, cur, rfl, hB, hg, hn, hc, hs, ht⟩
  · have : zs = [] := List.eq_nil_of_length_eq_zero h3
    subst this
    exact ⟨none, 0, rfl, fun k hk => by simp at hk⟩
  · refine ⟨_, cap, rfl, fun k hk => ⟨g, 0, rfl, ?_⟩⟩
    rw [cell_of_row w g (0 + k) cur _ (0, 0) hg, Nat.zero_add]
    have e : (cur.toList.take (zs.length * 1))[k]? = (zs.map (Value.int .i64))[k]? := by rw [ht]
    rw [List.getElem?_take, if_pos (by omega)] at e
    simpa [List.getD, List.getElem?_eq_getElem hk] using e

theorem take_snoc_int (l : List Int) (k : Nat) (h : k < l.length) : l.take (k + 1) = l.take k ++ [l.getD k 0] := by
  rw [List.take_succ_eq_append_getElem h]; simp [h]

end Go.Proofs.YtiafhifbgdkgaaaGreatDoor

namespace Go.Proofs.YtiafhifbgdkgaaaGreatDoor
open Go.RowKit

theorem Tryz.infoSpan : (Tryz.prog.info? 47).map (fun i => (i.zero, i.size, i.bytes)) = some (some (.agg #[.int .i64 0, .int .i64 0, .int .i64 0]), 3, 24) := by kernel_rfl

abbrev sp0 : Sp := (0, 0, 0)
abbrev spV (s : Sp) : Value := .agg #[.int .i64 s.1, .int .i64 s.2.1, .int .i64 s.2.2]

/-- The cells of a list of spans. -/
def cellsS : List Sp → List Value
  | [] => []
  | s :: r => .int .i64 s.1 :: .int .i64 s.2.1 :: .int .i64 s.2.2 :: cellsS r

theorem cellsS_length (l : List Sp) : (cellsS l).length = l.length * 3 := by
  induction l with
  | nil => rfl
  | cons s r ih => simp only [cellsS, List.length_cons, ih]; omega

theorem cellsS_append (a b : List Sp) : cellsS (a ++ b) = cellsS a ++ cellsS b := by
  induction a with
  | nil => rfl
  | cons s r ih => simp [cellsS, ih]

theorem cellsS_at (l : List Sp) (k : Nat) (h : k < l.length) :
    (cellsS l)[k * 3]? = some (.int .i64 (l.getD k sp0).1) ∧ (cellsS l)[k * 3 + 1]? = some (.int .i64 (l.getD k sp0).2.1) ∧ (cellsS l)[k * 3 + 2]? = some (.int .i64 (l.getD k sp0).2.2) := by
  induction l generalizing k with
  | nil => simp at h
  | cons s r ih =>
    cases k with
    | zero => simp [cellsS]
    | succ k =>
      have := ih k (by simpa using h)
      rw [show (k + 1) * 3 = k * 3 + 1 + 1 + 1 by omega]
      simpa [cellsS] using this

/-- A slice of spans that is only read. -/
def SpIn (w : World) (p : Option Addr) (l : List Sp) : Prop :=
  ∀ k, k < l.length → ∃ b off, p = some ⟨b, off, none⟩ ∧ w.cell? ⟨b, off + k * 3, none⟩ = some (.int .i64 (l.getD k sp0).1) ∧ w.cell? ⟨b, off + k * 3 + 1, none⟩ = some (.int .i64 (l.getD k sp0).2.1) ∧
    w.cell? ⟨b, off + k * 3 + 2, none⟩ = some (.int .i64 (l.getD k sp0).2.2)

theorem SpIn.below {w w' : World} {p : Option Addr} {l : List Sp} (h : SpIn w p l) (hb : Below w.heap.size w w') : SpIn w' p l := by
  intro k hk
  obtain ⟨b, off, e, h1, h2, h3⟩ := h k hk
  have hlt := World.block_lt_of_cell? w _ h1
  exact ⟨b, off, e, (hb.cell (p := ⟨b, off + k * 3, none⟩) hlt).trans h1, (hb.cell (p := ⟨b, off + k * 3 + 1, none⟩) hlt).trans h2, (hb.cell (p := ⟨b, off + k * 3 + 2, none⟩) hlt).trans h3⟩

theorem SpIn.alloc {w : World} {p : Option Addr} {l : List Sp} (h : SpIn w p l) (o : Obj) : SpIn (w.alloc o) p l :=
  h.below ((Below.refl _ _).alloc (Nat.le_refl _) o)

/-- A new slice of spans. -/
def Spans (w : World) (B : Nat) (v : Value) (l : List Sp) : Prop := w.ownsRow B 47 3 v l.length (cellsS l)

theorem Spans.nil (w : World) (B : Nat) : Spans w B (.slice none 0 0) [] := World.ownsRow_nil _ _ _ _
theorem Spans.below {w w' : World} {B : Nat} {v : Value} {l : List Sp} (h : Spans w B v l) (hb : Below w.heap.size w w') : Spans w' B v l := ownsRow_below h hb
theorem Spans.mono {w : World} {B B' : Nat} {v : Value} {l : List Sp} (h : Spans w B v l) (hB : B' ≤ B) : Spans w B' v l := ownsRow_mono h hB

theorem Spans.inn {w : World} {B : Nat} {v : Value} {l : List Sp} (h : Spans w B v l) : ∃ p cap, v = .slice p l.length cap ∧ SpIn w p l := by
  obtain ⟨h1, h2⟩ := h
  rcases h2 with ⟨rfl, h3⟩ | ⟨g, cap, cur, rfl, hB, hg, hn, hc, hs, ht⟩
  · have : l = [] := List.eq_nil_of_length_eq_zero h3
    subst this
    exact ⟨none, 0, rfl, fun k hk => by simp at hk⟩
  · refine ⟨_, cap, rfl, fun k hk => ⟨g, 0, rfl, ?_⟩⟩
    have key : ∀ j v, j < l.length * 3 → (cellsS l)[j]? = some v → w.cell? ⟨g, j, none⟩ = some v := by
      intro j v hj hv
      rw [cell_of_row w g j cur _ (0, 0) hg]
      rw [← ht, List.getElem?_take, if_pos hj] at hv
      simpa using hv
    obtain ⟨c1, c2, c3⟩ := cellsS_at l k hk
    refine ⟨?_, ?_, ?_⟩
    · rw [Nat.zero_add]; exact key _ _ (by omega) c1
    · rw [Nat.zero_add]; exact key _ _ (by omega) c2
    · rw [Nat.zero_add]; exact key _ _ (by omega) c3

theorem take_snoc_sp (l : List Sp) (k : Nat) (h : k < l.length) : l.take (k + 1) = l.take k ++ [l.getD k sp0] := by
  rw [List.take_succ_eq_append_getElem h]; simp [h]

theorem drop_cons_sp (l : List Sp) (k : Nat) (h : k < l.length) : l.drop k = l.getD k sp0 :: l.drop (k + 1) := by
  rw [List.drop_eq_getElem_cons h]; simp [h]

theorem getD_mem (l : List Sp) (k : Nat) (h : k < l.length) : l.getD k sp0 ∈ l := by
  simp [h]

/-- One more span, and the list is ascending still. -/
theorem asc_snoc_iff (lo : Int) (a : List Sp) (s : Sp) : ascB lo (a ++ [s]) = true ↔ ascB lo a = true ∧ ends lo a ≤ s.1 ∧ s.1 ≤ s.2.1 ∧ s.2.1 ≤ 1114111 := by
  rw [asc_append, asc_cons]; simp [ascB]

theorem asc_prefix {lo : Int} {l : List Sp} (k : Nat) (h : ascB lo (l.take k) = false) : ascB lo l = false := by
  cases hb : ascB lo l with
  | false => rfl
  | true =>
    rw [← List.take_append_drop k l, asc_append] at hb
    rw [hb.1] at h; cases h

def validS (l : List Sp) : Bool := decide (l.length ≤ 256) && ascB 0 l

/-- A new slice of spans is returned. -/
def OwnPost (xs : List Sp) (w : World) (e : Ending) (w' : World) : Prop :=
  ∃ v, e = .returned v ∧ Spans w' w.heap.size v xs ∧ Below w.heap.size w w'

theorem asc_getD {l : List Sp} (h : ascB 0 l = true) (k : Nat) (hk : k < l.length) : 0 ≤ (l.getD k sp0).1 ∧ (l.getD k sp0).1 ≤ (l.getD k sp0).2.1 ∧ (l.getD k sp0).2.1 ≤ 1114111 := by
  have := asc_mem h (getD_mem l k hk)
  omega

end Go.Proofs.YtiafhifbgdkgaaaGreatDoor

namespace Go.Proofs.YtiafhifbgdkgaaaGreatDoor
open Go.RowKit

theorem run_make_rowN {P : Program} (t e : TypeId) (i : TypeInfo) (z : Value) (ht : P.underlying t = some (.slice e)) (hi : P.info? e = some i) (hz : i.zero = some z)
    (kl kc : IntKind) (n c : Nat) (hnc : n ≤ c) (hbytes : i.bytes * c ≤ 281474976710656) (h63 : c ≤ 9223372036854775807) (w : World) :
    (Instr.makeSlice t (.int kl (n : Int)) (.int kc (c : Int))).run P w = .ok (.slice (some ⟨w.heap.size, 0, none⟩) n c) (w.alloc (.cells (madeCells z.cells (c * i.size)) e)) := by
  have hb : (i.bytes : Int) * (c : Int) ≤ 281474976710656 := by
    have h : ((i.bytes * c : Nat) : Int) ≤ 281474976710656 := by omega
    rwa [Int.natCast_mul] at h
  have hr := run_make (P := P) w t e i z ht hi hz kl kc n c (by omega) (by omega) hb (by omega)
  simp only [Int.toNat_natCast] at hr
  exact hr

/-- The block that make lays for c spans. -/
def madeSp (c : Nat) : Obj := .cells (madeCells (Value.cells (.agg #[.int .i64 0, .int .i64 0, .int .i64 0])) (c * 3)) 47

theorem run_make_spans (c : Nat) (hc : c ≤ 4194304) (w : World) :
    (Instr.makeSlice 23 (.int .i64 0) (.int .i64 (c : Int))).run Tryz.prog w = .ok (.slice (some ⟨w.heap.size, 0, none⟩) 0 c) (w.alloc (madeSp c)) := by
  obtain ⟨i0, hi, hz0, hz1, hz2⟩ := info_parts Tryz.infoSpan
  have h := run_make_rowN (P := Tryz.prog) 23 47 i0 _ Tryz.underlying23 hi hz0 .i64 .i64 0 c (Nat.zero_le _) (by rw [hz2]; omega) (by omega) w
  rw [hz1] at h
  exact h

theorem Spans.made (w : World) (B c : Nat) (hB : B ≤ w.heap.size) (hc : c ≤ 4194304) : Spans (w.alloc (madeSp c)) B (.slice (some ⟨w.heap.size, 0, none⟩) 0 c) [] := by
  unfold Spans madeSp
  exact World.ownsRow_made w _ c hB (by unfold maxLen; omega) (size_madeCells _ _)

theorem cells_one (l : List Sp) : ∀ u ∈ cellsS l, u.oneCell' = true := by
  induction l with
  | nil => intro u hu; cases hu
  | cons s r ih =>
    intro u hu
    simp only [cellsS, List.mem_cons] at hu
    rcases hu with rfl | rfl | rfl | hu
    · rfl
    · rfl
    · rfl
    · exact ih u hu

theorem sp_grownBy_refl (w : World) (row : Option Nat) : w.grownBy w row := ⟨rfl, rfl, rfl, Nat.le_refl _, fun _ _ _ => rfl⟩

theorem run_append_nil_sp {P : Program} {w : World} (base : Nat) (t ty e : TypeId) (i : TypeInfo) (size : Nat) (ht : P.underlying t = some (.slice e)) (hi : P.info? e = some i)
    (v : Value) (n : Nat) (xs : List Value) (c : Nat) (hown : w.ownsRow base e size v n xs) :
    (Builtin.append_ #[t, t] ty #[v, .slice none 0 c]).run P w = .ok v w := by
  rcases hown.2 with ⟨rfl, rfl⟩ | ⟨g, cap, cur, rfl, _, _, hnc, _⟩
  · simp [Builtin.append_, run_underlying ht, sizeOf, typeInfo, hi, Builtin.lenOf, Builtin.firstCells]
  · simp [Builtin.append_, run_underlying ht, sizeOf, typeInfo, hi, Builtin.lenOf, Builtin.firstCells, hnc, storeCells]

/-- The cells of a slice that is read, counted from its own address. -/
theorem SpIn.cells {w : World} {ad : Addr} {l : List Sp} (h : SpIn w (some ad) l) : ∀ j u, (cellsS l)[j]? = some u → w.cell? (ad.add j) = some u := by
  intro j u hu
  have hj : j < l.length * 3 := by
    have := (List.getElem?_eq_some_iff.1 hu).1
    rwa [cellsS_length] at this
  have hk : j / 3 < l.length := by omega
  obtain ⟨b, off, e, h1, h2, h3⟩ := h (j / 3) hk
  obtain ⟨c1, c2, c3⟩ := cellsS_at l (j / 3) hk
  simp only [Option.some.injEq] at e
  subst e
  rw [Addr.add_lit]
  have hm : j % 3 = 0 ∨ j % 3 = 1 ∨ j % 3 = 2 := by omega
  rcases hm with hm | hm | hm
  · have e : j / 3 * 3 = j := by omega
    rw [e] at h1 c1
    rw [h1, ← hu, c1]
  · have e : j / 3 * 3 + 1 = j := by omega
    rw [Nat.add_assoc, e] at h2; rw [e] at c2
    rw [h2, ← hu, c2]
  · have e : j / 3 * 3 + 2 = j := by omega
    rw [Nat.add_assoc, e] at h3; rw [e] at c3
    rw [h3, ← hu, c3]

theorem wp_append_spans {w : World} {o : Oper} {a : Act} {K : Act → World → Prop} {Q : Exit → Act → World → Prop} (s x : Operand)
    (ho : o.op = .call { callee := .builtin .append, args := #[s, x], argTypes := #[23, 23] })
    (base : Nat) (v : Value) (xs : List Sp) (hs : a.eval s = v) (hown : Spans w base v xs)
    (p : Option Addr) (m c : Nat) (ys : List Sp) (hm : ys.length = m) (hx : a.eval x = .slice p m c) (hin : SpIn w p ys)
    (hlen : xs.length + ys.length ≤ 1099511627776) (hbase : base ≤ w.heap.size)
    (h : ∀ v' w', Spans w' base v' (xs ++ ys) → w.grownBy w' v.ownBlock → K (a.put o.dst v') w') : o.wp Tryz.prog a w K Q := by
  subst hm
  obtain ⟨i0, hi, hz0, hz1, hz2⟩ := info_parts Tryz.infoSpan
  cases p with
  | none =>
    have hy : ys = [] := by
      cases ys with
      | nil => rfl
      | cons y r => obtain ⟨_, _, e, _⟩ := hin 0 (by simp); cases e
    subst hy
    have hr := run_append_nil_sp (P := Tryz.prog) base 23 o.type 47 i0 3 Tryz.underlying23 hi v xs.length _ c hown
    unfold Oper.wp execOp
    simp only [ho, resolve, invoke, builtin, Sem.run_bind, Sem.run_pure, Result.andThen_ok, List.map_toArray, List.map_cons, List.map_nil, hs, hx, List.length_nil, hr]
    exact h v w (by simpa using hown) (sp_grownBy_refl _ _)
  | some ad =>
    refine wp_append_own w s x 23 ho base 47 i0 _ 3 24 Tryz.underlying23 hi hz0 hz1 hz2 rfl (by decide) v xs.length _ hs hown ad ys.length c (cellsS ys) hx (cellsS_length _) hin.cells (cells_one ys) (by unfold maxLen; omega) (by omega) hbase ?_
    intro v' w' h1 h2 _
    exact h v' w' (by unfold Spans; rw [List.length_append, cellsS_append]; exact h1) h2

theorem wpList_append_spans {w : World} {ops : Array Oper} {rest : List Oper} {o : Oper} {a : Act} {Q : Exit → Act → World → Prop} (s x : Operand)
    (ho : o.op = .call { callee := .builtin .append, args := #[s, x], argTypes := #[23, 23] })
    (hw : Region.wanted o (yielded ops a.tmps) = true)
    (base : Nat) (v : Value) (xs : List Sp) (hs : a.eval s = v) (hown : Spans w base v xs)
    (p : Option Addr) (m c : Nat) (ys : List Sp) (hm : ys.length = m) (hx : a.eval x = .slice p m c) (hin : SpIn w p ys)
    (hlen : xs.length + ys.length ≤ 1099511627776) (hbase : base ≤ w.heap.size)
    (h : ∀ v' w', Spans w' base v' (xs ++ ys) → w.grownBy w' v.ownBlock → wpList Tryz.prog ops Q rest (a.put o.dst v') w') : wpList Tryz.prog ops Q (o :: rest) a w := by
  unfold wpList
  rw [if_pos hw]
  exact .inl (wp_append_spans s x ho base v xs hs hown p m c ys hm hx hin hlen hbase h)

/-- A block of one span, just made. -/
theorem one_new (w : World) (f t v : Int) (ty : TypeId) : SpIn (w.alloc (.cells #[.int .i64 f, .int .i64 t, .int .i64 v] ty)) (some ⟨w.heap.size, 0, none⟩) [(f, t, v)] := by
  intro k hk
  obtain rfl : k = 0 := by simp at hk; omega
  refine ⟨_, _, rfl, ?_, ?_, ?_⟩ <;> simp [World.cell?_alloc_new]

theorem wp_append_span {W : World} {o : Oper} {a : Act} {K : Act → World → Prop} {Q : Exit → Act → World → Prop} (s x : Operand)
    (ho : o.op = .call { callee := .builtin .append, args := #[s, x], argTypes := #[23, 23] })
    (base : Nat) (v : Value) (xs : List Sp) (hs : a.eval s = v) (hown : Spans W base v xs)
    (y : Sp) (c g : Nat) (hx : a.eval x = .slice (some ⟨g, 0, none⟩) 1 c) (hg : g = W.heap.size)
    (hlen : xs.length ≤ 1099511627775) (hbase : base ≤ W.heap.size)
    (h : ∀ v' w', Spans w' base v' (xs ++ [y]) → W.grownBy w' v.ownBlock → K (a.put o.dst v') w') : o.wp Tryz.prog a (W.alloc (.cells #[.int .i64 y.1, .int .i64 y.2.1, .int .i64 y.2.2] 47)) K Q := by
  subst hg
  refine wp_append_spans s x ho base v xs hs (World.ownsRow.alloc hown _) _ 1 c [y] rfl hx (one_new W y.1 y.2.1 y.2.2 _) (by simp; omega) (by simp; omega) ?_
  intro v' w' h1 h2
  refine h v' w' h1 ?_
  have hA := World.grownBy_alloc W (.cells #[.int .i64 y.1, .int .i64 y.2.1, .int .i64 y.2.2] 47) v.ownBlock
  exact ⟨h2.os.trans hA.os, h2.tape.trans hA.tape, h2.output.trans hA.output, Nat.le_trans hA.size h2.size, fun i hi hne => (h2.block i (Nat.lt_of_lt_of_le hi hA.size) hne).trans (hA.block i hi hne)⟩

theorem wpList_append_span {W : World} {ops : Array Oper} {rest : List Oper} {o : Oper} {a : Act} {Q : Exit → Act → World → Prop} (s x : Operand)
    (ho : o.op = .call { callee := .builtin .append, args := #[s, x], argTypes := #[23, 23] })
    (hw : Region.wanted o (yielded ops a.tmps) = true)
    (base : Nat) (v : Value) (xs : List Sp) (hs : a.eval s = v) (hown : Spans W base v xs)
    (y : Sp) (c g : Nat) (hx : a.eval x = .slice (some ⟨g, 0, none⟩) 1 c) (hg : g = W.heap.size)
    (hlen : xs.length ≤ 1099511627775) (hbase : base ≤ W.heap.size)
    (h : ∀ v' w', Spans w' base v' (xs ++ [y]) → W.grownBy w' v.ownBlock → wpList Tryz.prog ops Q rest (a.put o.dst v') w') : wpList Tryz.prog ops Q (o :: rest) a (W.alloc (.cells #[.int .i64 y.1, .int .i64 y.2.1, .int .i64 y.2.2] 47)) := by
  unfold wpList
  rw [if_pos hw]
  exact .inl (wp_append_span s x ho base v xs hs hown y c g hx hg hlen hbase h)

theorem cellsS_set (i : List Sp) (p : Sp) (t : Int) : (cellsS (i ++ [p])).set (i.length * 3 + 1) (.int .i64 t) = cellsS (i ++ [(p.1, t, p.2.2)]) := by
  rw [cellsS_append, cellsS_append, List.set_append_right _ _ (by rw [cellsS_length]; omega)]
  congr 1
  rw [cellsS_length, show i.length * 3 + 1 - i.length * 3 = 1 by omega]
  rfl

/-- The last span of an own slice: its cells, and a store into its To. -/
theorem Spans.last {w : World} {B : Nat} {v : Value} {i : List Sp} {p : Sp} (h : Spans w B v (i ++ [p])) :
    ∃ g cap, v = .slice (some ⟨g, 0, none⟩) (i.length + 1) cap ∧ B ≤ g ∧ g < w.heap.size ∧ w.cell? ⟨g, i.length * 3, none⟩ = some (.int .i64 p.1) ∧ w.cell? ⟨g, i.length * 3 + 1, none⟩ = some (.int .i64 p.2.1) ∧
      w.cell? ⟨g, i.length * 3 + 2, none⟩ = some (.int .i64 p.2.2) ∧ w.frozen? ⟨g, i.length * 3 + 1, none⟩ = false := by
  have hb := h.lt
  obtain ⟨q, cap, rfl, hin⟩ := h.inn
  obtain ⟨b, off, rfl, h1, h2, h3⟩ := hin i.length (by simp)
  have hf : off = 0 := by
    rcases h.2 with ⟨h', _⟩ | ⟨g', _, _, h', _⟩
    · cases h'
    · injection h' with h'; injection h' with h'; injection h'
  subst hf
  have hd : (i ++ [p]).getD i.length sp0 = p := by simp
  rw [hd] at h1 h2 h3
  have := hb b rfl
  simp only [Nat.zero_add] at h1 h2 h3
  have hz := World.ownsRow.frozenAt (g := b) (cap := cap) (n := (i ++ [p]).length) h
  exact ⟨b, cap, by simp, this.1, this.2, h1, h2, h3, hz _⟩

theorem Spans.setTo {w : World} {B : Nat} {i : List Sp} {p : Sp} {g n cap : Nat} (h : Spans w B (.slice (some ⟨g, 0, none⟩) n cap) (i ++ [p])) (hn : n = i.length + 1) (t : Int) :
    Spans (w.setCell ⟨g, i.length * 3 + 1, none⟩ (.int .i64 t)) B (.slice (some ⟨g, 0, none⟩) n cap) (i ++ [(p.1, t, p.2.2)]) := by
  subst hn
  unfold Spans at h ⊢
  rw [← cellsS_set]
  simp only [List.length_append, List.length_cons, List.length_nil] at h ⊢
  exact (World.ownsRow.stored h _ _).1

theorem Spans.drewN {w : World} {B : Nat} {v : Value} {l : List Sp} (h : Spans w B v l) (n : Nat) : Spans (w.drewN n) B v l := h
theorem Spans.alloc {w : World} {B : Nat} {v : Value} {l : List Sp} (h : Spans w B v l) (o : Obj) : Spans (w.alloc o) B v l := World.ownsRow.alloc h o
theorem SpIn.drewN {w : World} {p : Option Addr} {l : List Sp} (h : SpIn w p l) (n : Nat) : SpIn (w.drewN n) p l := h
theorem Spans.base {w : World} {B : Nat} {v : Value} {l : List Sp} (h : Spans w B v l) : ∀ k, v.ownBlock = some k → B ≤ k := fun k hk => (World.ownsRow.lt h k hk).1
theorem below_drewN_sp {B : Nat} {a w : World} (h : Below B a w) (n : Nat) : Below B a (w.drewN n) := ⟨h.os, h.tape, h.output, h.size, h.block⟩

/-- Behind a block of one span and an append: below B all is as it was. -/
theorem below_app {B : Nat} {a w W w1 : World} {v : Value} {l : List Sp} (h : Below B a w) (hw : ∃ o n, W = (w.alloc o).drewN n) (ho : Spans w B v l) (hB : B ≤ a.heap.size) (hg : W.grownBy w1 v.ownBlock) : Below B a w1 := by
  obtain ⟨o, n, rfl⟩ := hw
  have hz : B ≤ w.heap.size := Nat.le_trans hB h.size
  exact (below_drewN_sp (h.alloc hz o) n).grown hg (by show B ≤ (w.alloc o).heap.size; simp; omega) ho.base

end Go.Proofs.YtiafhifbgdkgaaaGreatDoor

namespace Go.Proofs.YtiafhifbgdkgaaaGreatDoor
open Go.RowKit

theorem wp_append_spans_at {w : World} {o : Oper} {a : Act} {K : Act → World → Prop} {Q : Exit → Act → World → Prop} (s x : Operand)
    (ho : o.op = .call { callee := .builtin .append, args := #[s, x], argTypes := #[23, 23] })
    (base : Nat) (v : Value) (xs : List Sp) (hs : a.eval s = v) (hown : Spans w base v xs)
    (ad : Addr) (m c : Nat) (ys : List Sp) (hm : ys.length = m) (hx : a.eval x = .slice (some ad) m c) (hin : SpIn w (some ad) ys)
    (hlen : xs.length + ys.length ≤ 1099511627776) (hbase : base ≤ w.heap.size)
    (h : ∀ v' w', Spans w' base v' (xs ++ ys) → w.grownBy w' v.ownBlock → (∀ b, b < w.heap.size → v.ownBlock ≠ some b → v'.ownBlock ≠ some b) → K (a.put o.dst v') w') : o.wp Tryz.prog a w K Q := by
  subst hm
  obtain ⟨i0, hi, hz0, hz1, hz2⟩ := info_parts Tryz.infoSpan
  obtain ⟨v', w', hrun, h2, h3, _, h5⟩ := run_append_own_at (P := Tryz.prog) w base 23 o.type 47 i0 _ 3 24 Tryz.underlying23 hi hz0 hz1 hz2 rfl (by decide) v xs.length _ hown
    ad ys.length c (cellsS ys) (cellsS_length _) hin.cells (cells_one ys) (by unfold maxLen; omega) (by omega) hbase
  unfold Oper.wp execOp
  simp only [ho, resolve, invoke, builtin, Sem.run_bind, Sem.run_pure, Result.andThen_ok, List.map_toArray, List.map_cons, List.map_nil, hs, hx, hrun]
  refine h v' w' (by unfold Spans; rw [List.length_append, cellsS_append]; exact h2) h3 ?_
  intro b hb hne
  rcases h5 with e | e
  · rw [e]; exact hne
  · rw [e]; simp; omega

theorem step_append_spans_at {w : World} {ops : Array Oper} {o : Oper} {a : Act} {K : Act → World → Prop} {Q : Exit → Act → World → Prop} {E : Prop} (hgd : o.guard = none) (s x : Operand)
    (ho : o.op = .call { callee := .builtin .append, args := #[s, x], argTypes := #[23, 23] })
    (base : Nat) (v : Value) (xs : List Sp) (hs : a.eval s = v) (hown : Spans w base v xs)
    (ad : Addr) (m c : Nat) (ys : List Sp) (hm : ys.length = m) (hx : a.eval x = .slice (some ad) m c) (hin : SpIn w (some ad) ys)
    (hlen : xs.length + ys.length ≤ 1099511627776) (hbase : base ≤ w.heap.size)
    (h : ∀ v' w', Spans w' base v' (xs ++ ys) → w.grownBy w' v.ownBlock → (∀ b, b < w.heap.size → v.ownBlock ≠ some b → v'.ownBlock ≠ some b) → K (a.put o.dst v') w') :
    if Region.wanted o (yielded ops a.tmps) = true then Oper.wp Tryz.prog o a w K Q else E := by
  have hw : Region.wanted o (yielded ops a.tmps) = true := by simp [Region.wanted, hgd]
  rw [if_pos hw]
  exact wp_append_spans_at s x ho base v xs hs hown ad m c ys hm hx hin hlen hbase h

theorem wp_append_span_at {W : World} {o : Oper} {a : Act} {K : Act → World → Prop} {Q : Exit → Act → World → Prop} (s x : Operand)
    (ho : o.op = .call { callee := .builtin .append, args := #[s, x], argTypes := #[23, 23] })
    (base : Nat) (v : Value) (xs : List Sp) (hs : a.eval s = v) (hown : Spans W base v xs)
    (y : Sp) (c g : Nat) (hx : a.eval x = .slice (some ⟨g, 0, none⟩) 1 c) (hg : g = W.heap.size)
    (hlen : xs.length ≤ 1099511627775) (hbase : base ≤ W.heap.size)
    (h : ∀ v' w', Spans w' base v' (xs ++ [y]) → W.grownBy w' v.ownBlock → (∀ b, b < W.heap.size → v.ownBlock ≠ some b → v'.ownBlock ≠ some b) → K (a.put o.dst v') w') : o.wp Tryz.prog a (W.alloc (.cells #[.int .i64 y.1, .int .i64 y.2.1, .int .i64 y.2.2] 47)) K Q := by
  subst hg
  refine wp_append_spans_at s x ho base v xs hs (World.ownsRow.alloc hown _) _ 1 c [y] rfl hx (one_new W y.1 y.2.1 y.2.2 _) (by simp; omega) (by simp; omega) ?_
  intro v' w' h1 h3 h4
  have hA := World.grownBy_alloc W (.cells #[.int .i64 y.1, .int .i64 y.2.1, .int .i64 y.2.2] 47) v.ownBlock
  exact h v' w' h1 ⟨h3.os.trans hA.os, h3.tape.trans hA.tape, h3.output.trans hA.output, Nat.le_trans hA.size h3.size, fun i hi hne => (h3.block i (Nat.lt_of_lt_of_le hi hA.size) hne).trans (hA.block i hi hne)⟩ fun b hb => h4 b (by simp; omega)

theorem wpList_append_span_at {W : World} {ops : Array Oper} {rest : List Oper} {o : Oper} {a : Act} {Q : Exit → Act → World → Prop} (s x : Operand)
    (ho : o.op = .call { callee := .builtin .append, args := #[s, x], argTypes := #[23, 23] })
    (hw : Region.wanted o (yielded ops a.tmps) = true)
    (base : Nat) (v : Value) (xs : List Sp) (hs : a.eval s = v) (hown : Spans W base v xs)
    (y : Sp) (c g : Nat) (hx : a.eval x = .slice (some ⟨g, 0, none⟩) 1 c) (hg : g = W.heap.size)
    (hlen : xs.length ≤ 1099511627775) (hbase : base ≤ W.heap.size)
    (h : ∀ v' w', Spans w' base v' (xs ++ [y]) → W.grownBy w' v.ownBlock → (∀ b, b < W.heap.size → v.ownBlock ≠ some b → v'.ownBlock ≠ some b) → wpList Tryz.prog ops Q rest (a.put o.dst v') w') : wpList Tryz.prog ops Q (o :: rest) a (W.alloc (.cells #[.int .i64 y.1, .int .i64 y.2.1, .int .i64 y.2.2] 47)) := by
  unfold wpList
  rw [if_pos hw]
  exact .inl (wp_append_span_at s x ho base v xs hs hown y c g hx hg hlen hbase h)

/-- Block g holds one span, a variable of the call's own. -/
def Cur (w : World) (g : Nat) (f t v : Int) : Prop :=
  w.cell? ⟨g, 0, none⟩ = some (.int .i64 f) ∧ w.cell? ⟨g, 1, none⟩ = some (.int .i64 t) ∧ w.cell? ⟨g, 2, none⟩ = some (.int .i64 v) ∧ w.frozen? ⟨g, 0, none⟩ = false ∧ g < w.heap.size

theorem Cur.new (w : World) (f t v : Int) (ty : TypeId) : Cur (w.alloc (.cells #[.int .i64 f, .int .i64 t, .int .i64 v] ty)) w.heap.size f t v := by
  refine ⟨?_, ?_, ?_, ?_, ?_⟩ <;> simp [World.cell?_alloc_new]

theorem Cur.drewN {w : World} {g : Nat} {f t v : Int} (h : Cur w g f t v) (n : Nat) : Cur (w.drewN n) g f t v := h

theorem Cur.grown {w w' : World} {g : Nat} {f t v : Int} {row : Option Nat} (h : Cur w g f t v) (hg : w.grownBy w' row) (hne : row ≠ some g) : Cur w' g f t v := by
  obtain ⟨h1, h2, h3, h4, h5⟩ := h
  exact ⟨hg.cell h1 (Ne.symm hne), hg.cell h2 (Ne.symm hne), hg.cell h3 (Ne.symm hne), (World.frozen?_of_block (hg.block g h5 (Ne.symm hne))).trans h4, Nat.lt_of_lt_of_le h5 hg.size⟩

theorem Cur.set {w : World} {g : Nat} {f t v : Int} (h : Cur w g f t v) (x : Int) : Cur (w.setCell ⟨g, 0, none⟩ (.int .i64 x)) g x t v := by
  obtain ⟨h1, h2, h3, h4, h5⟩ := h
  exact ⟨World.cell?_setCell_same _ _ _ h1, (World.cell?_setCell_other _ _ _ _ (by simp)).trans h2, (World.cell?_setCell_other _ _ _ _ (by simp)).trans h3, (World.frozen?_setCell _ _ _ _).trans h4, by simpa [World.setCell] using h5⟩

theorem sp_grownBy_store (w : World) (g o : Nat) (v : Value) : w.grownBy (w.setCell ⟨g, o, none⟩ v) (some g) :=
  ⟨rfl, rfl, rfl, by simp, fun k _ hne => heap_setCell_other w ⟨g, o, none⟩ k v (fun e => hne (by simp [e]))⟩

theorem Spans.store {w : World} {B g : Nat} {v : Value} {l : List Sp} (h : Spans w B v l) (hne : v.ownBlock ≠ some g) (o : Nat) (u : Value) : Spans (w.setCell ⟨g, o, none⟩ u) B v l :=
  World.ownsRow.kept h (sp_grownBy_store w g o u) (.inr hne)

end Go.Proofs.YtiafhifbgdkgaaaGreatDoor

namespace Go.Proofs.YtiafhifbgdkgaaaGreatDoor

/-- Find. -/
def findS (l : List Sp) (c : Int) : Int × Bool :=
  if validS l = true then match val l c with
    | some v => (v, true)
    | none => (0, false)
  else (0, false)

theorem findS_inv {l : List Sp} {c : Int} (h : validS l = false) : findS l c = (0, false) := by rw [findS, if_neg (by simp [h])]
theorem findS_some {l : List Sp} {c v : Int} (h : validS l = true) (hv : val l c = some v) : findS l c = (v, true) := by rw [findS, if_pos h, hv]
theorem findS_none {l : List Sp} {c : Int} (h : validS l = true) (hv : val l c = none) : findS l c = (0, false) := by rw [findS, if_pos h, hv]

theorem val_of_none {l : List Sp} {c : Int} (h : ∀ s ∈ l, ¬ (s.1 ≤ c ∧ c ≤ s.2.1)) : val l c = none := by
  induction l with
  | nil => rfl
  | cons s r ih =>
    rw [val_cons, if_neg (h s (by simp))]
    exact ih fun t ht => h t (by simp [ht])

/-- Where all spans before k end before c, and the others do not. -/
theorem val_split {l : List Sp} {c : Int} (k : Nat) (h : ∀ s ∈ l.take k, s.2.1 < c) : val l c = val (l.drop k) c := by
  have e := val_append (l.take k) (l.drop k) c
  rw [List.take_append_drop] at e
  rw [e, val_of_none (fun s hs hc => by have := h s hs; omega)]
  rfl

theorem asc_drop {l : List Sp} (k : Nat) (h : ascB 0 l = true) : ascB 0 (l.drop k) = true := by
  rw [← List.take_append_drop k l, asc_append] at h
  have h1 := ends_ge h.1
  exact asc_weak h.2 (by omega)

theorem asc_take {l : List Sp} (k : Nat) (h : ascB 0 l = true) : ascB 0 (l.take k) = true := by
  rw [← List.take_append_drop k l, asc_append] at h
  exact h.1

/-- In an ascending list later spans end later. -/
theorem asc_mono {lo : Int} {l : List Sp} (h : ascB lo l = true) (k : Nat) (hk : k < l.length) : (∀ s ∈ l.take k, s.2.1 < (l.getD k sp0).1) ∧ ∀ s ∈ l.drop (k + 1), (l.getD k sp0).2.1 < s.1 := by
  induction l generalizing lo k with
  | nil => simp at hk
  | cons t r ih =>
    rw [asc_cons] at h
    cases k with
    | zero =>
      refine ⟨by simp, fun s hs => ?_⟩
      have := asc_mem h.2.2.2 (s := s) (by simpa using hs)
      simp; omega
    | succ k =>
      have hk' : k < r.length := by simpa using hk
      have := ih h.2.2.2 k hk'
      refine ⟨fun s hs => ?_, fun s hs => ?_⟩
      · rw [List.take_succ_cons] at hs
        rcases List.mem_cons.1 hs with rfl | hs
        · have := asc_mem h.2.2.2 (getD_mem r k hk')
          simp only [List.getD_cons_succ]; omega
        · simpa using this.1 s hs
      · simpa using this.2 s (by simpa using hs)

/-- ref: the parts before a code point. -/
def beforeS (c : Int) : List Sp → List Sp
  | [] => []
  | s :: r => if s.1 < c then (s.1, min s.2.1 (c - 1), s.2.2) :: beforeS c r else beforeS c r

def afterS (c : Int) : List Sp → List Sp
  | [] => []
  | s :: r => if c < s.2.1 then (max s.1 (c + 1), s.2.1, s.2.2) :: afterS c r else afterS c r

theorem before_snoc (c : Int) (l : List Sp) (s : Sp) : beforeS c (l ++ [s]) = beforeS c l ++ if s.1 < c then [(s.1, min s.2.1 (c - 1), s.2.2)] else [] := by
  induction l with
  | nil => simp [beforeS]
  | cons t r ih => simp only [List.cons_append, beforeS, ih]; split <;> simp

theorem after_snoc (c : Int) (l : List Sp) (s : Sp) : afterS c (l ++ [s]) = afterS c l ++ if c < s.2.1 then [(max s.1 (c + 1), s.2.1, s.2.2)] else [] := by
  induction l with
  | nil => simp [afterS]
  | cons t r ih => simp only [List.cons_append, afterS, ih]; split <;> simp

theorem before_length (c : Int) (l : List Sp) : (beforeS c l).length ≤ l.length := by
  induction l with
  | nil => simp [beforeS]
  | cons t r ih => simp only [beforeS]; split <;> simp <;> omega

theorem after_length (c : Int) (l : List Sp) : (afterS c l).length ≤ l.length := by
  induction l with
  | nil => simp [afterS]
  | cons t r ih => simp only [afterS]; split <;> simp <;> omega

theorem val_before (c x : Int) (l : List Sp) : val (beforeS c l) x = if x < c then val l x else none := by
  induction l with
  | nil => simp [beforeS, val]
  | cons s r ih =>
    simp only [beforeS]
    split
    · rw [val_cons, ih, val_cons]
      simp only
      by_cases h : x < c
      · simp only [h, if_true]
        by_cases h2 : s.1 ≤ x ∧ x ≤ s.2.1
        · rw [if_pos (by omega), if_pos h2]
        · rw [if_neg (by omega), if_neg h2]
      · rw [if_neg (by omega), if_neg h, if_neg h]
    · rw [ih, val_cons]
      by_cases h : x < c
      · rw [if_pos h, if_pos h, if_neg (by omega)]
      · rw [if_neg h, if_neg h]

theorem val_after (c x : Int) (l : List Sp) : val (afterS c l) x = if c < x then val l x else none := by
  induction l with
  | nil => simp [afterS, val]
  | cons s r ih =>
    simp only [afterS]
    split
    · rw [val_cons, ih, val_cons]
      simp only
      by_cases h : c < x
      · simp only [h, if_true]
        by_cases h2 : s.1 ≤ x ∧ x ≤ s.2.1
        · rw [if_pos (by omega), if_pos h2]
        · rw [if_neg (by omega), if_neg h2]
      · rw [if_neg (by omega), if_neg h, if_neg h]
    · rw [ih, val_cons]
      by_cases h : c < x
      · rw [if_pos h, if_pos h, if_neg (by omega)]
      · rw [if_neg h, if_neg h]

theorem asc_before {lo c : Int} {l : List Sp} (h : ascB lo l = true) (hl : lo ≤ c) : ascB lo (beforeS c l) = true ∧ ends lo (beforeS c l) ≤ c := by
  induction l generalizing lo with
  | nil => exact ⟨rfl, hl⟩
  | cons s r ih =>
    rw [asc_cons] at h
    simp only [beforeS]
    split
    · by_cases hc : s.2.1 < c
      · have := ih h.2.2.2 (by omega)
        rw [asc_cons]
        simp only [ends]
        rw [show min s.2.1 (c - 1) = s.2.1 by omega]
        exact ⟨⟨h.1, h.2.1, h.2.2.1, this.1⟩, this.2⟩
      · have hr : beforeS c r = [] := by
          have hh := h.2.2.2
          clear ih h
          have : ∀ t ∈ r, s.2.1 + 1 ≤ t.1 := fun t ht => (asc_mem hh ht).1
          clear hh
          induction r with
          | nil => rfl
          | cons t r ih2 =>
            simp only [beforeS]
            rw [if_neg (by have := this t (by simp); omega)]
            exact ih2 fun u hu => this u (by simp [hu])
        rw [hr, asc_cons]
        simp only [ends, ascB]
        refine ⟨⟨h.1, ?_, ?_, trivial⟩, ?_⟩ <;> omega
    · have := ih (lo := lo) (asc_weak h.2.2.2 (by omega)) hl
      exact this

theorem asc_after {lo c : Int} {l : List Sp} (h : ascB lo l = true) : ascB (max lo (c + 1)) (afterS c l) = true := by
  induction l generalizing lo with
  | nil => rfl
  | cons s r ih =>
    rw [asc_cons] at h
    simp only [afterS]
    have := ih h.2.2.2
    split
    · rw [asc_cons]
      refine ⟨?_, ?_, h.2.2.1, asc_weak this (by simp only; omega)⟩ <;> simp only <;> omega
    · exact asc_weak this (by omega)

/-- l with by in the place of what it says from f to t. -/
theorem put_facts {l by' : List Sp} {f t : Int} (h : ascB 0 l = true) (hf : 0 ≤ f) (hby : ascB f by' = true) (he : ends f by' ≤ t + 1) (hft : f ≤ t) :
    ascB 0 (beforeS f l ++ by' ++ afterS t l) = true ∧ ∀ c, val (beforeS f l ++ by' ++ afterS t l) c = if f ≤ c ∧ c ≤ t then val by' c else val l c := by
  obtain ⟨h1, h2⟩ := asc_before h hf
  have h3 := asc_after (c := t) h
  have h4 : ascB (ends 0 (beforeS f l)) by' = true := asc_weak hby h2
  constructor
  · rw [asc_append, asc_append, ends_append]
    refine ⟨⟨h1, h4⟩, asc_weak h3 ?_⟩
    cases by' with
    | nil => simp only [ends] at he ⊢; omega
    | cons s r => simp only [ends] at he ⊢; omega
  · intro c
    rw [val_append, val_append, val_before, val_after]
    by_cases h1 : c < f
    · rw [if_pos h1, if_neg (by omega : ¬ t < c), val_none hby (.inl h1), if_neg (by omega)]; simp
    · rw [if_neg h1]
      by_cases h2 : t < c
      · rw [if_pos h2, val_none hby (.inr (by omega)), if_neg (by omega)]; simp
      · rw [if_neg h2, if_pos (by omega)]; simp

/-- The answer of a change: the list, and an error. -/
def limS (l : List Sp) : List Sp × Int := if 256 < l.length then ([], 7) else (l, 0)

def replS (l : List Sp) (f t : Int) (by' : List Sp) : List Sp × Int :=
  if validS l = false then ([], 1) else if f < 0 ∨ t < f ∨ 1114111 < t then ([], 3) else limS (joinS (beforeS f l ++ by' ++ afterS t l))

def setS (l : List Sp) (f t v : Int) : List Sp × Int := replS l f t [(f, t, v)]
def clearS (l : List Sp) (f t : Int) : List Sp × Int := replS l f t []

/-- What b leaves uncovered of one span. -/
def cutS : Sp → List Sp → List Sp
  | s, [] => if s.1 ≤ s.2.1 then [s] else []
  | s, x :: b => if x.1 ≤ s.2.1 then (if s.1 < x.1 then [(s.1, x.1 - 1, s.2.2)] else []) ++ cutS (x.2.1 + 1, s.2.1, s.2.2) b else if s.1 ≤ s.2.1 then [s] else []

def skipS (f : Int) (b : List Sp) : List Sp := b.dropWhile fun x => decide (x.2.1 < f)

/-- What b leaves uncovered of a. -/
def uncovS : List Sp → List Sp → List Sp
  | [], _ => []
  | s :: a, b => cutS s (skipS s.1 b) ++ uncovS a (skipS s.1 b)

theorem skip_step {f : Int} {x : Sp} {b : List Sp} (h : x.2.1 < f) : skipS f (x :: b) = skipS f b := by simp [skipS, h]
theorem skip_stop {f : Int} {b : List Sp} (h : ∀ x r, b = x :: r → f ≤ x.2.1) : skipS f b = b := by
  cases b with
  | nil => rfl
  | cons x r => have := h x r rfl; simp only [skipS]; rw [List.dropWhile_cons_of_neg (by simp; omega)]

theorem skip_facts {f lo : Int} {b : List Sp} (h : ascB lo b = true) : ascB lo (skipS f b) = true ∧ (∀ c, f ≤ c → val (skipS f b) c = val b c) ∧ (∀ x r, skipS f b = x :: r → f ≤ x.2.1) := by
  induction b generalizing lo with
  | nil => exact ⟨rfl, fun _ _ => rfl, fun x r e => by cases e⟩
  | cons s b ih =>
    have h0 := h
    rw [asc_cons] at h
    by_cases hc : s.2.1 < f
    · rw [skip_step hc]
      obtain ⟨i1, i2, i3⟩ := ih h.2.2.2
      refine ⟨asc_weak i1 (by omega), fun c hcf => ?_, i3⟩
      rw [i2 c hcf, val_cons, if_neg (by omega)]
    · have : ∀ x r, s :: b = x :: r → f ≤ x.2.1 := by
        intro x r e
        injection e with e1 _
        subst e1; omega
      rw [skip_stop this]
      exact ⟨h0, fun _ _ => rfl, this⟩

theorem cut_facts (b : List Sp) (s : Sp) (lo : Int) (h : ascB lo b = true) (hh : ∀ x r, b = x :: r → s.1 ≤ x.2.1 + 1) (hs : 0 ≤ s.1) (hM : s.2.1 ≤ 1114111) :
    ascB s.1 (cutS s b) = true ∧ ends s.1 (cutS s b) ≤ max s.1 (s.2.1 + 1) ∧ ∀ c, val (cutS s b) c = if (s.1 ≤ c ∧ c ≤ s.2.1) ∧ val b c = none then some s.2.2 else none := by
  induction b generalizing s lo with
  | nil =>
    simp only [cutS]
    split
    · refine ⟨by rw [asc_cons]; exact ⟨by omega, by assumption, hM, rfl⟩, by simp only [ends]; omega, fun c => ?_⟩
      rw [val_cons]; simp [val]
    · refine ⟨rfl, by simp only [ends]; omega, fun c => ?_⟩
      rw [if_neg (by omega)]; rfl
  | cons x b ih =>
    rw [asc_cons] at h
    have hx := hh x b rfl
    simp only [cutS]
    by_cases hc : x.1 ≤ s.2.1
    · rw [if_pos hc]
      obtain ⟨i1, i2, i3⟩ := ih (x.2.1 + 1, s.2.1, s.2.2) (x.2.1 + 1) h.2.2.2 (fun y r e => by
        subst e
        have := h.2.2.2
        rw [asc_cons] at this
        simp only; omega) (by simp only; omega) (by simpa using hM)
      simp only at i1 i2 i3
      have hvx : ∀ c, x.2.1 < c → (val (x :: b) c = val b c) := fun c hcx => by rw [val_cons, if_neg (by omega)]
      have hcut : ∀ y r, cutS (x.2.1 + 1, s.2.1, s.2.2) b = y :: r → x.2.1 + 1 ≤ s.2.1 := by
        intro y r hk
        have h5 := i3 y.1
        have h7 := i1
        rw [hk, asc_cons] at h7
        rw [hk, val_cons, if_pos ⟨Int.le_refl _, h7.2.1⟩] at h5
        by_cases h6 : x.2.1 + 1 ≤ y.1 ∧ y.1 ≤ s.2.1
        · omega
        · rw [if_neg (fun h => h6 h.1)] at h5; cases h5
      by_cases hp : s.1 < x.1
      · rw [if_pos hp]
        refine ⟨?_, ?_, fun c => ?_⟩
        · rw [List.cons_append, asc_cons]
          refine ⟨by simp only; omega, by simp only; omega, by simp only; omega, asc_weak i1 (by simp only; omega)⟩
        · simp only [List.cons_append, List.nil_append, ends]
          cases hk : cutS (x.2.1 + 1, s.2.1, s.2.2) b with
          | nil => simp only [ends]; omega
          | cons y r => have := hcut y r hk; rw [hk] at i2; simp only [ends] at i2 ⊢; omega
        · rw [List.cons_append, List.nil_append, val_cons, i3 c, val_cons]
          simp only
          by_cases h1 : s.1 ≤ c ∧ c ≤ x.1 - 1
          · rw [if_pos h1, if_neg (by omega : ¬ (x.1 ≤ c ∧ c ≤ x.2.1)), val_none h.2.2.2 (.inl (by omega)), if_pos ⟨by omega, rfl⟩]
          · rw [if_neg h1]
            by_cases h2 : x.1 ≤ c ∧ c ≤ x.2.1
            · rw [if_neg (by omega), if_pos h2, if_neg (by simp)]
            · rw [if_neg h2]
              by_cases h3 : val b c = none
              · simp only [h3, and_true]
                by_cases h4 : x.2.1 + 1 ≤ c ∧ c ≤ s.2.1
                · rw [if_pos h4, if_pos (by omega)]
                · rw [if_neg h4, if_neg (by omega)]
              · simp [h3]
      · rw [if_neg hp, List.nil_append]
        refine ⟨asc_weak i1 (by omega), ?_, fun c => ?_⟩
        · cases hk : cutS (x.2.1 + 1, s.2.1, s.2.2) b with
          | nil => simp only [ends]; omega
          | cons y r => have := hcut y r hk; rw [hk] at i2; simp only [ends] at i2 ⊢; omega
        · rw [i3 c, val_cons]
          by_cases h2 : x.1 ≤ c ∧ c ≤ x.2.1
          · rw [if_neg (by omega), if_pos h2, if_neg (by simp)]
          · rw [if_neg h2]
            by_cases h3 : val b c = none
            · simp only [h3, and_true]
              by_cases h4 : x.2.1 + 1 ≤ c ∧ c ≤ s.2.1
              · rw [if_pos h4, if_pos (by omega)]
              · rw [if_neg h4, if_neg (by omega)]
            · simp [h3]
    · rw [if_neg hc]
      have hv : ∀ c, c ≤ s.2.1 → val (x :: b) c = none := fun c hcs => by
        rw [val_cons, if_neg (by omega)]; exact val_none h.2.2.2 (.inl (by omega))
      split
      · refine ⟨by rw [asc_cons]; exact ⟨by omega, by assumption, hM, rfl⟩, by simp only [ends]; omega, fun c => ?_⟩
        rw [val_cons]
        by_cases h4 : s.1 ≤ c ∧ c ≤ s.2.1
        · rw [if_pos h4, if_pos ⟨h4, hv c h4.2⟩]
        · rw [if_neg h4, if_neg (fun h => h4 h.1)]; rfl
      · refine ⟨rfl, by simp only [ends]; omega, fun c => ?_⟩
        rw [if_neg (by omega)]; rfl

theorem uncov_facts (a b : List Sp) (lo l2 : Int) (ha : ascB lo a = true) (hb : ascB l2 b = true) (hl : 0 ≤ lo) :
    ascB lo (uncovS a b) = true ∧ ends lo (uncovS a b) ≤ ends lo a ∧ ∀ c, val (uncovS a b) c = if val b c = none then val a c else none := by
  induction a generalizing lo b l2 with
  | nil => exact ⟨rfl, Int.le_refl _, fun c => by simp [uncovS, val]⟩
  | cons s a ih =>
    rw [asc_cons] at ha
    obtain ⟨k1, k2, k3⟩ := skip_facts (f := s.1) hb
    obtain ⟨c1, c2, c3⟩ := cut_facts (skipS s.1 b) s l2 k1 (fun x r e => by have := k3 x r e; omega) (by omega) ha.2.2.1
    obtain ⟨i1, i2, i3⟩ := ih (skipS s.1 b) (s.2.1 + 1) l2 ha.2.2.2 k1 (by omega)
    simp only [uncovS]
    have c1' : ascB lo (cutS s (skipS s.1 b)) = true := asc_weak c1 ha.1
    have c2' : ends lo (cutS s (skipS s.1 b)) ≤ s.2.1 + 1 := by
      cases hk : cutS s (skipS s.1 b) with
      | nil => simp only [ends]; omega
      | cons y r => rw [hk] at c2; simp only [ends] at c2 ⊢; omega
    refine ⟨?_, ?_, fun c => ?_⟩
    · rw [asc_append]; exact ⟨c1', asc_weak i1 c2'⟩
    · rw [ends_append]
      simp only [ends]
      cases hk : uncovS a (skipS s.1 b) with
      | nil => have := ends_ge ha.2.2.2; simp only [ends]; omega
      | cons y r => rw [hk] at i2; simpa [ends] using i2
    · rw [val_append, c3 c, i3 c, val_cons]
      by_cases hc : s.1 ≤ c
      · rw [k2 c hc]
        by_cases h3 : val b c = none
        · simp only [h3, and_true, if_true]
          by_cases h4 : c ≤ s.2.1
          · rw [if_pos ⟨hc, h4⟩, if_pos ⟨hc, h4⟩]; rfl
          · rw [if_neg (by omega), if_neg (by omega)]; simp
        · simp [h3]
      · rw [if_neg (by omega : ¬ (s.1 ≤ c ∧ c ≤ s.2.1)), if_neg (fun h => hc h.1.1), val_none ha.2.2.2 (.inl (by omega))]
        simp

/-- The spans of a and of b in ascending order. -/
def interS : List Sp → List Sp → List Sp
  | [], b => b
  | s :: a, b => b.takeWhile (fun x => decide (x.1 < s.1)) ++ s :: interS a (b.dropWhile fun x => decide (x.1 < s.1))

theorem inter_step {s x : Sp} {a b : List Sp} (h : x.1 < s.1) : interS (s :: a) (x :: b) = x :: interS (s :: a) b := by simp [interS, h]
theorem inter_stop {s : Sp} {a b : List Sp} (h : ∀ x r, b = x :: r → s.1 ≤ x.1) : interS (s :: a) b = s :: interS a b := by
  cases b with
  | nil => simp [interS]
  | cons x r =>
    have := h x r rfl
    simp only [interS]
    rw [List.takeWhile_cons_of_neg (by simp; omega), List.dropWhile_cons_of_neg (by simp; omega)]
    rfl

theorem inter_facts (n : Nat) (a b : List Sp) (lo : Int) (hn : a.length + b.length ≤ n) (ha : ascB lo a = true) (hb : ascB lo b = true) (hd : ∀ c, val a c = none ∨ val b c = none) :
    ascB lo (interS a b) = true ∧ ∀ c, val (interS a b) c = (val a c).or (val b c) := by
  induction n generalizing a b lo with
  | zero =>
    have h1 : a = [] := List.eq_nil_of_length_eq_zero (by omega)
    have h2 : b = [] := List.eq_nil_of_length_eq_zero (by omega)
    subst h1; subst h2
    exact ⟨rfl, fun c => rfl⟩
  | succ n ih =>
    cases a with
    | nil => exact ⟨hb, fun c => by simp [interS, val]⟩
    | cons s a =>
      have ha0 := ha
      rw [asc_cons] at ha
      have hd1 := hd s.1
      rw [val_cons, if_pos (by omega)] at hd1
      have hbs : val b s.1 = none := by
        rcases hd1 with h | h
        · cases h
        · exact h
      cases b with
      | nil =>
        rw [inter_stop (fun x r e => by cases e)]
        obtain ⟨i1, i2⟩ := ih a [] (s.2.1 + 1) (by simp at hn ⊢; omega) ha.2.2.2 rfl (fun c => .inr rfl)
        refine ⟨by rw [asc_cons]; exact ⟨ha.1, ha.2.1, ha.2.2.1, i1⟩, fun c => ?_⟩
        rw [val_cons, i2 c, val_cons]; split <;> simp
      | cons x b =>
        have hb0 := hb
        rw [asc_cons] at hb
        by_cases hx : x.1 < s.1
        · rw [inter_step hx]
          have hxs : x.2.1 < s.1 := by
            rw [val_cons] at hbs
            by_cases hc : x.1 ≤ s.1 ∧ s.1 ≤ x.2.1
            · rw [if_pos hc] at hbs; cases hbs
            · omega
          have hd' : ∀ c, val (s :: a) c = none ∨ val b c = none := fun c => by
            rcases hd c with h | h
            · exact .inl h
            · right
              rw [val_cons] at h
              split at h
              · cases h
              · exact h
          obtain ⟨i1, i2⟩ := ih (s :: a) b (x.2.1 + 1) (by simp at hn ⊢; omega) (by rw [asc_cons]; exact ⟨by omega, ha.2⟩) hb.2.2.2 hd'
          refine ⟨by rw [asc_cons]; exact ⟨hb.1, hb.2.1, hb.2.2.1, i1⟩, fun c => ?_⟩
          rw [val_cons, i2 c, val_cons x b]
          by_cases hc : x.1 ≤ c ∧ c ≤ x.2.1
          · rw [if_pos hc, if_pos hc]
            rw [val_cons, if_neg (by omega), val_none ha.2.2.2 (.inl (by omega))]; rfl
          · rw [if_neg hc, if_neg hc]
        · have hxs : s.2.1 < x.1 := by
            by_cases hc : x.1 ≤ s.2.1
            · have := hd x.1
              rw [val_cons, if_pos (by omega), val_cons, if_pos (by omega)] at this
              rcases this with h | h <;> cases h
            · omega
          rw [inter_stop (fun y r e => by injection e with e1 _; subst e1; omega)]
          have hd' : ∀ c, val a c = none ∨ val (x :: b) c = none := fun c => by
            rcases hd c with h | h
            · left
              rw [val_cons] at h
              split at h
              · cases h
              · exact h
            · exact .inr h
          obtain ⟨i1, i2⟩ := ih a (x :: b) (s.2.1 + 1) (by simp at hn ⊢; omega) ha.2.2.2 (by rw [asc_cons]; exact ⟨by omega, hb.2⟩) hd'
          refine ⟨by rw [asc_cons]; exact ⟨ha.1, ha.2.1, ha.2.2.1, i1⟩, fun c => ?_⟩
          rw [val_cons, i2 c, val_cons s a]
          split <;> simp

/-- ranges: the spans of b and what they leave uncovered of those of a. -/
def layS (a b : List Sp) : List Sp := interS (uncovS a b) b

theorem lay_facts {a b : List Sp} (ha : ascB 0 a = true) (hb : ascB 0 b = true) :
    ascB 0 (layS a b) = true ∧ ∀ c, val (layS a b) c = (val b c).or (val a c) := by
  obtain ⟨u1, u2, u3⟩ := uncov_facts a b 0 0 ha hb (by omega)
  obtain ⟨i1, i2⟩ := inter_facts _ (uncovS a b) b 0 (Nat.le_refl _) u1 hb (fun c => by
    rw [u3 c]
    by_cases h : val b c = none
    · exact .inr h
    · rw [if_neg h]; exact .inl rfl)
  refine ⟨i1, fun c => ?_⟩
  rw [layS, i2 c, u3 c]
  cases hb : val b c with
  | none => simp
  | some v => simp

/-- ref: one span is laid over the others. -/
def ovstep (out : List Sp) (s : Sp) : List Sp := beforeS s.1 out ++ [s] ++ afterS s.2.1 out

theorem ov_facts (b a : List Sp) (lo : Int) (ha : ascB 0 a = true) (hb : ascB lo b = true) (hl : 0 ≤ lo) :
    ascB 0 (b.foldl ovstep a) = true ∧ ∀ c, val (b.foldl ovstep a) c = (val b c).or (val a c) := by
  induction b generalizing a lo with
  | nil => exact ⟨ha, fun c => by simp [val]⟩
  | cons s b ih =>
    rw [asc_cons] at hb
    have hp := put_facts (l := a) (by' := [s]) (f := s.1) (t := s.2.1) ha (by omega) (by rw [asc_cons]; exact ⟨by omega, hb.2.1, hb.2.2.1, rfl⟩) (by simp only [ends]; omega) hb.2.1
    obtain ⟨i1, i2⟩ := ih (ovstep a s) (s.2.1 + 1) hp.1 hb.2.2.2 (by omega)
    refine ⟨i1, fun c => ?_⟩
    rw [List.foldl_cons, i2 c, ovstep, hp.2 c, val_cons, val_cons]
    by_cases hc : s.1 ≤ c ∧ c ≤ s.2.1
    · rw [if_pos hc, if_pos hc, if_pos hc, val_none hb.2.2.2 (.inl (by omega))]; rfl
    · rw [if_neg hc, if_neg hc]

def overS (a b : List Sp) : List Sp × Int := if validS a = true ∧ validS b = true then limS (joinS (b.foldl ovstep a)) else ([], 1)

theorem over_eq {a b : List Sp} (ha : ascB 0 a = true) (hb : ascB 0 b = true) : joinS (b.foldl ovstep a) = joinS (layS a b) := by
  obtain ⟨h1, h2⟩ := ov_facts b a 0 ha hb (by omega)
  obtain ⟨h3, h4⟩ := lay_facts ha hb
  exact join_eq h1 h3 fun c => by rw [h2, h4]

theorem one_asc {f t v : Int} (h0 : 0 ≤ f) (h1 : f ≤ t) (h2 : t ≤ 1114111) : ascB 0 [(f, t, v)] = true := by
  rw [asc_cons]; exact ⟨h0, h1, h2, rfl⟩

theorem set_eq {a : List Sp} {f t v : Int} (ha : ascB 0 a = true) (h0 : 0 ≤ f) (h1 : f ≤ t) (h2 : t ≤ 1114111) : joinS (beforeS f a ++ [(f, t, v)] ++ afterS t a) = joinS (layS a [(f, t, v)]) :=
  over_eq ha (one_asc h0 h1 h2)

theorem clear_eq {a : List Sp} {f t v : Int} (ha : ascB 0 a = true) (h0 : 0 ≤ f) (h1 : f ≤ t) (h2 : t ≤ 1114111) : joinS (beforeS f a ++ [] ++ afterS t a) = joinS (uncovS a [(f, t, v)]) := by
  have hp := put_facts (l := a) (by' := []) (f := f) (t := t) ha h0 rfl (by simp only [ends]; omega) h1
  obtain ⟨u1, _, u3⟩ := uncov_facts a [(f, t, v)] 0 0 ha (one_asc h0 h1 h2) (by omega)
  refine join_eq hp.1 u1 fun c => ?_
  rw [hp.2 c, u3 c, val_cons]
  by_cases hc : f ≤ c ∧ c ≤ t
  · rw [if_pos hc, if_pos hc, if_neg (by simp)]; rfl
  · rw [if_neg hc, if_neg hc]; simp [val]

end Go.Proofs.YtiafhifbgdkgaaaGreatDoor

namespace Go.Proofs.YtiafhifbgdkgaaaGreatDoor
open Go.RowKit

set_option maxHeartbeats 1000000 in
theorem isValid_any (p : Option Addr) (n c : Nat) (l : List Sp) (w : World) (hl : l.length = n) (hn : n ≤ maxLen) (hin : SpIn w p l) :
    Calls Tryz.prog 85 #[.slice p n c] w fun e w' => e = .returned (.bool (validS l)) ∧ Below w.heap.size w w' := by
  unfold maxLen at hn
  have HI := Lib.hid hin
  have HL := Lib.hid hl
  clear hin hl
  by_cases hbig : 256 < n
  · have HV : Hid (validS l = false) := by unfold Hid validS; rw [HL.out, decide_eq_false (by omega)]; rfl
    go_enter Tryz.func85, Tryz.ntmps85
    go_wp2
    go_ret
    rw [HV.out]
    exact ⟨rfl, Below.refl _ _⟩
  · go_enter Tryz.func85, Tryz.ntmps85
    go_wp2
    go_loopw [3, 11] (fun v i wr => ∃ k : Nat, k ≤ n ∧ i = .int .i64 k ∧ (∃ e : Int, 0 ≤ e ∧ e ≤ 1114112 ∧ v = .int .i64 e ∧ Hid (ends 0 (l.take k) = e)) ∧ Hid (ascB 0 (l.take k) = true) ∧ Below w.heap.size w wr) (fun _ i _ => n - (intOf i).toNat)
    case atStart => exact ⟨0, Nat.zero_le _, rfl, ⟨0, by omega, by omega, rfl, rfl⟩, rfl, Below.refl _ _⟩
    case round =>
      obtain ⟨k, hk, rfl, ⟨e, he0, he1, rfl, hee⟩, ha, hbel⟩ := hrel
      by_cases hlt : k < n
      · have hkl : k < l.length := by rw [HL.out]; exact hlt
        obtain ⟨b, off, rfl, hc1, hc2, hc3⟩ := (HI.out.below hbel) k hkl
        have HB := Lib.hid hbel
        obtain ⟨⟨f, t, v⟩, hs⟩ : ∃ s, l.getD k sp0 = s := ⟨_, rfl⟩
        rw [hs] at hc1 hc2 hc3
        have HS := Lib.hid hs
        clear hs hbel
        by_cases hok : e ≤ f ∧ f ≤ t ∧ t ≤ 1114111
        · obtain ⟨ho1, ho2, ho3⟩ := hok
          have HA : Hid (ascB 0 (l.take (k + 1)) = true) := by
            unfold Hid; rw [take_snoc_sp l k hkl, asc_snoc_iff, HS.out, hee.out]; exact ⟨ha.out, ho1, ho2, ho3⟩
          have HE : Hid (ends 0 (l.take (k + 1)) = t + 1) := by
            unfold Hid; rw [take_snoc_sp l k hkl, ends_append, HS.out]; rfl
          go_wp2
          go_roundw
          case rel => exact ⟨k + 1, by omega, by go_num, ⟨t + 1, by omega, by omega, rfl, HE⟩, HA, HB.out.alloc HB.out.size _⟩
          case measure => simp [intOf]; omega
        · have HN := Lib.hid hok
          have HV : Hid (validS l = false) := by
            unfold Hid validS
            rw [asc_prefix (k + 1), Bool.and_false]
            rw [← Bool.not_eq_true, take_snoc_sp l k hkl, asc_snoc_iff, HS.out, hee.out]
            exact fun h => HN.out h.2
          clear hok
          go_wp2
          all_goals first
            | (exfalso; have := HN.out; omega)
            | (go_ret; rw [HV.out]; exact ⟨rfl, HB.out.alloc HB.out.size _⟩)
      · obtain rfl : k = n := by omega
        have HV : Hid (validS l = true) := by
          unfold Hid validS
          have := ha.out
          rw [List.take_of_length_le (Nat.le_of_eq HL.out)] at this
          rw [this, HL.out, decide_eq_true (by omega)]; rfl
        have HB := Lib.hid hbel
        clear hbel
        go_wp2
        go_ret
        rw [HV.out]
        exact ⟨rfl, HB.out⟩

end Go.Proofs.YtiafhifbgdkgaaaGreatDoor

namespace Go.Proofs.YtiafhifbgdkgaaaGreatDoor
open Go.RowKit

theorem isValid_at (p : Option Addr) (n c : Nat) (l : List Sp) (b : Bool) (w : World) (hl : Hid (l.length = n)) (hn : n ≤ maxLen) (hin : SpIn w p l) (hv : Hid (validS l = b)) :
    Calls Tryz.prog 85 #[.slice p n c] w fun e w' => e = .returned (.bool b) ∧ Below w.heap.size w w' := by
  have := isValid_any p n c l w hl.out hn hin
  rw [hv.out] at this
  exact this

theorem valid_asc {l : List Sp} (h : validS l = true) : ascB 0 l = true := by
  simp only [validS, Bool.and_eq_true] at h; exact h.2
theorem valid_len {l : List Sp} (h : validS l = true) : l.length ≤ 256 := by
  simp only [validS, Bool.and_eq_true, decide_eq_true_eq] at h; exact h.1

/-- Check. -/
def checkS (l : List Sp) (lo hi : Int) : Bool := validS l && l.all fun s => decide (lo ≤ s.1) && decide (s.2.1 ≤ hi)

theorem check_ends {l : List Sp} (ha : ascB 0 l = true) (m : Nat) (hm : l.length = m + 1) (lo hi : Int) :
    (l.all fun s => decide (lo ≤ s.1) && decide (s.2.1 ≤ hi)) = (decide (lo ≤ (l.getD 0 sp0).1) && decide ((l.getD m sp0).2.1 ≤ hi)) := by
  rw [Bool.eq_iff_iff, List.all_eq_true]
  simp only [Bool.and_eq_true, decide_eq_true_eq]
  constructor
  · intro h
    exact ⟨(h _ (getD_mem l 0 (by omega))).1, (h _ (getD_mem l m (by omega))).2⟩
  · rintro ⟨h1, h2⟩ s hs
    have e0 := drop_cons_sp l 0 (by omega)
    have h0 := asc_mem ha (getD_mem l 0 (by omega))
    have hm' := asc_mem ha (getD_mem l m (by omega))
    have em := take_snoc_sp l m (by omega)
    rw [List.take_of_length_le (by omega)] at em
    constructor
    · rw [List.drop_zero] at e0
      rw [e0] at hs
      rcases List.mem_cons.1 hs with rfl | hs
      · exact h1
      · have := (asc_mono ha 0 (by omega)).2 s hs; omega
    · rw [em] at hs
      rcases List.mem_append.1 hs with hs | hs
      · have := (asc_mono ha m (by omega)).1 s hs; omega
      · rw [List.mem_singleton] at hs; subst hs; exact h2

set_option maxHeartbeats 1000000 in
theorem check_any (p : Option Addr) (n cp : Nat) (l : List Sp) (lo hi : Int) (w : World) (hl : l.length = n) (hn : n ≤ maxLen) (hin : SpIn w p l) :
    Calls Tryz.prog 55 #[.slice p n cp, .int .i64 lo, .int .i64 hi] w fun e w' => e = .returned (.bool (checkS l lo hi)) ∧ Below w.heap.size w w' := by
  have HI := Lib.hid hin
  have HL := Lib.hid hl
  clear hin hl
  cases hv : validS l with
  | false =>
    have HF : Hid (checkS l lo hi = false) := by unfold Hid checkS; rw [hv]; rfl
    have HV := Lib.hid hv
    clear hv
    go_enter Tryz.func55, Tryz.ntmps55
    go_wp2_with fail
    refine (isValid_at p n cp l false _ HL hn HI.out HV).mono ?_
    rintro e w1 ⟨rfl, hb1⟩
    have HB := Lib.hid hb1
    clear hb1
    go_wp2
    go_ret
    rw [HF.out]
    exact ⟨rfl, HB.out⟩
  | true =>
    have hn2 : n ≤ 256 := by rw [← HL.out]; exact valid_len hv
    have hasc := valid_asc hv
    have HV := Lib.hid hv
    by_cases h0 : n = 0
    · have HF : Hid (checkS l lo hi = true) := by
        unfold Hid checkS
        rw [hv, List.eq_nil_of_length_eq_zero (HL.out.trans h0)]; rfl
      subst h0
      clear hv hasc
      go_enter Tryz.func55, Tryz.ntmps55
      go_wp2_with fail
      refine (isValid_at p 0 cp l true _ HL hn HI.out HV).mono ?_
      rintro e w1 ⟨rfl, hb1⟩
      have HB := Lib.hid hb1
      clear hb1
      go_wp2
      go_ret
      rw [HF.out]
      exact ⟨rfl, HB.out⟩
    · obtain ⟨m, rfl⟩ : ∃ m, n = m + 1 := ⟨n - 1, by omega⟩
      have hc := check_ends hasc m HL.out lo hi
      have HF : Hid (checkS l lo hi = (decide (lo ≤ (l.getD 0 sp0).1) && decide ((l.getD m sp0).2.1 ≤ hi))) := by
        unfold Hid checkS; rw [hv, hc]; rfl
      obtain ⟨⟨f, t0, v0⟩, hs⟩ : ∃ s, l.getD 0 sp0 = s := ⟨_, rfl⟩
      obtain ⟨⟨f1, t, v1⟩, hs1⟩ : ∃ s, l.getD m sp0 = s := ⟨_, rfl⟩
      rw [hs, hs1] at HF
      have HS := Lib.hid hs
      have HS1 := Lib.hid hs1
      clear hv hasc hc hs hs1 h0
      go_enter Tryz.func55, Tryz.ntmps55
      go_wp2_with fail
      refine (isValid_at p (m + 1) cp l true _ HL hn HI.out HV).mono ?_
      rintro e w1 ⟨rfl, hb1⟩
      have HB := Lib.hid hb1
      have HI1 := Lib.hid (HI.out.below hb1)
      clear hb1
      obtain ⟨g, off, rfl, hc1, hc2, hc3⟩ := HI1.out 0 (by rw [HL.out]; omega)
      obtain ⟨g', off', e', hd1, hd2, hd3⟩ := HI1.out m (by rw [HL.out]; omega)
      injection e' with e'
      injection e' with e1 e2
      subst e1; subst e2
      rw [HS.out] at hc1
      rw [HS1.out] at hd2
      simp only [Nat.zero_mul, Nat.add_zero] at hc1
      simp only at hd2
      clear hc2 hc3 hd1 hd3
      have hne : ((m : Int) + 1 == 0) = false := by simp; omega
      by_cases h1 : lo ≤ f
      · by_cases h2 : t ≤ hi
        · have HG : Hid (checkS l lo hi = true) := by unfold Hid; rw [HF.out]; simp [h1, h2]
          go_wp2
          go_ret
          rw [HG.out]
          exact ⟨rfl, HB.out⟩
        · have HG : Hid (checkS l lo hi = false) := by unfold Hid; rw [HF.out]; simp [h1, h2]
          have hd : decide (t ≤ hi) = false := by simp; omega
          go_wp2
          go_ret
          rw [HG.out]
          exact ⟨rfl, HB.out⟩
      · have HG : Hid (checkS l lo hi = false) := by unfold Hid; rw [HF.out]; simp [h1]
        have hd : decide (lo ≤ f) = false := by simp; omega
        go_wp2
        go_ret
        rw [HG.out]
        exact ⟨rfl, HB.out⟩

theorem check_at (p : Option Addr) (n c : Nat) (l : List Sp) (lo hi : Int) (B : Bool) (w : World) (hl : Hid (l.length = n)) (hn : n ≤ maxLen) (hin : SpIn w p l) (hB : Hid (checkS l lo hi = B)) :
    Calls Tryz.prog 55 #[.slice p n c, .int .i64 lo, .int .i64 hi] w fun e w' => e = .returned (.bool B) ∧ Below w.heap.size w w' := by
  have := check_any p n c l lo hi w hl.out hn hin
  rw [hB.out] at this
  exact this

end Go.Proofs.YtiafhifbgdkgaaaGreatDoor
