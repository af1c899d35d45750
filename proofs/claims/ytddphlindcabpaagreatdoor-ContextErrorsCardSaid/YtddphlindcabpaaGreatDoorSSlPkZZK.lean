/-
  context (stage 15): plain mathematics: what needs a context, what is permitted, two sequences with a full stop between them.
  context: what the functions of the layer return, as functions of the tables and the sequence.
  context: the program's own way of saying it: kinds of code points, contents of a sequence, neighbours; it is what the layer's functions return.
  context: contracts of the program's kinds, contents and neighbours (genCK.py).
  context: contracts of the references in, Needs (genCX.py).
  context: contracts of the program's functions (genCK.py).
  The laws of context: special, awake (genCY.py).
-/
import Derived.Test.YtddphlindcabpaaGreatDoorSSlPkB
import Derived.Test.YtddphlindcabpaaGreatDoorSSlPkZZI
import Derived.Test.YtddphlindcabpaaGreatDoorSSlPkE
import Derived.Test.YtddphlindcabpaaGreatDoorSSlTabK
import Derived.Test.YtddphlindcabpaaGreatDoorSSlPkF
import Derived.BigRegion
import Derived.Test.YtddphlindcabpaaGreatDoorSSlPkA
import Derived.Test.YtddphlindcabpaaGreatDoorSSlPkR
import Derived.Test.YtddphlindcabpaaGreatDoorSSlTblR
import Derived.Test.YtddphlindcabpaaGreatDoorSSlPkZ
import Derived.Deep.RegionHeld3
import Derived.Test.YtddphlindcabpaaGreatDoorSSlTblQ
import Derived.Test.YtddphlindcabpaaGreatDoorSSlTabRG
import Derived.Test.YtddphlindcabpaaGreatDoorSSlPkS
set_option linter.unusedSimpArgs false
set_option linter.unusedVariables false
namespace Go.Proofs.YtddphlindcabpaaGreatDoor
set_option linter.unusedVariables false

def arB (c : Int) : Bool := decide (1632 ≤ c) && decide (c ≤ 1641)
def exB (c : Int) : Bool := decide (1776 ≤ c) && decide (c ≤ 1785)
def needB (c : Int) : Bool := decide (c = 183) || decide (c = 885) || decide (c = 1523) || decide (c = 1524) || decide (c = 12539) || arB c || exB c
def kanB (T : Tb) (c : Int) : Bool := decide (scrT T c = 7) || decide (scrT T c = 8) || decide (scrT T c = 6)
/-- The element ahead and the one behind, -1 where there is none. -/
def prvC (l : List Int) (i : Nat) : Int := if i = 0 then -1 else l.getD (i - 1) (-1)
def nxtC (l : List Int) (i : Nat) : Int := l.getD (i + 1) (-1)
def ctxB (T : Tb) (l : List Int) (i : Nat) : Bool :=
  let c := l.getD i 0
  if c = 183 then decide (prvC l i = 108) && decide (nxtC l i = 108)
  else if c = 885 then decide (i + 1 < l.length) && decide (scrT T (l.getD (i + 1) 0) = 4)
  else if c = 1523 ∨ c = 1524 then decide (0 < i) && decide (scrT T (l.getD (i - 1) 0) = 11)
  else if c = 12539 then l.any (kanB T)
  else if arB c = true then !l.any exB
  else if exB c = true then !l.any arB
  else true
/-- The first element from k on that is not permitted. -/
def badC (T : Tb) (l : List Int) : Nat → Nat → Option Nat
  | 0, _ => none
  | n + 1, k => if ctxB T l k = false then some k else badC T l n (k + 1)

theorem badC_none (T : Tb) (l : List Int) : ∀ (n k : Nat), badC T l n k = none ↔ ∀ j, k ≤ j → j < k + n → ctxB T l j = true
  | 0, k => by simp [badC]; intro j h1 h2; omega
  | n + 1, k => by
    rw [badC]
    cases h : ctxB T l k with
    | false =>
      rw [if_pos rfl]
      constructor
      · intro e; cases e
      · intro h2; have := h2 k (Nat.le_refl _) (by omega); rw [h] at this; cases this
    | true =>
      rw [if_neg (by simp), badC_none T l n (k + 1)]
      constructor
      · intro h2 j h3 h4
        by_cases e : j = k
        · rw [e]; exact h
        · exact h2 j (by omega) (by omega)
      · intro h2 j h3 h4; exact h2 j (by omega) (by omega)
end Go.Proofs.YtddphlindcabpaaGreatDoor

namespace Go.Proofs.YtddphlindcabpaaGreatDoor
set_option linter.unusedVariables false

def cpeR (T : Tb) (l : List Int) (i : Int) : Bool := decide (okI T l i) && ctxB T l i.toNat
def chkC (T : Tb) (l : List Int) : Int × Int := if accE T l ≠ 0 then (0, accE T l) else match badC T l l.length 0 with
  | some k => ((k : Int), 18)
  | none => (0, 0)
theorem cpeR_ok {T : Tb} {l : List Int} {k : Nat} (hk : k < l.length) (ha : accE T l = 0) : cpeR T l k = ctxB T l k := by unfold cpeR; rw [decide_eq_true (show okI T l k from ⟨by omega, by omega, ha⟩), Int.toNat_natCast]; rfl
theorem badC_first {T : Tb} {l : List Int} : ∀ (d m k : Nat), m ≤ k → k < m + d → (∀ j, m ≤ j → j < k → ctxB T l j = true) → ctxB T l k = false → badC T l d m = some k
  | 0, m, k, h1, h2, _, _ => by omega
  | d + 1, m, k, h1, h2, hg, hz => by
    rw [badC]
    by_cases e : m = k
    · rw [e, if_pos hz]
    · rw [if_neg (by rw [hg m (Nat.le_refl _) (by omega)]; simp), badC_first d (m + 1) k (by omega) (by omega) (fun j h3 h4 => hg j (by omega) h4) hz]
/-- The element with index i, -1 if there is none. -/
def atC (l : List Int) (i : Int) : Int := if i < 0 then -1 else l.getD i.toNat (-1)
theorem atC_prv (l : List Int) (k : Nat) : atC l ((k : Int) - 1) = prvC l k := by
  unfold atC prvC
  by_cases h : k = 0
  · subst h; rfl
  · rw [if_neg (by omega), if_neg h, show ((k : Int) - 1).toNat = k - 1 by omega]
theorem atC_nxt (l : List Int) (k : Nat) : atC l ((k : Int) + 1) = nxtC l k := by
  unfold atC nxtC
  rw [if_neg (by omega), show ((k : Int) + 1).toNat = k + 1 by omega]
theorem atC_in {l : List Int} {k : Nat} (h : k < l.length) : atC l k = l.getD k 0 := by
  unfold atC
  rw [if_neg (by omega), Int.toNat_natCast]
  simp [List.getD, h]
theorem atC_out {l : List Int} {i : Int} (h : ¬ (0 ≤ i ∧ i < l.length)) : atC l i = -1 := by
  unfold atC
  by_cases h0 : i < 0
  · rw [if_pos h0]
  · rw [if_neg h0, List.getD_eq_getElem?_getD, List.getElem?_eq_none (by omega)]; rfl
/-- Whether an element among the first k meets q. -/
theorem any_step (q : Int → Bool) (l : List Int) (k : Nat) (h : k < l.length) : (l.take (k + 1)).any q = ((l.take k).any q || q (l.getD k 0)) := by
  rw [List.take_succ_eq_append_getElem h, List.any_append]; simp [h]
theorem any_yes {q : Int → Bool} {l : List Int} {k : Nat} (h : k < l.length) (hq : q (l.getD k 0) = true) : l.any q = true := List.any_eq_true.2 ⟨l.getD k 0, by simp [h], hq⟩

end Go.Proofs.YtddphlindcabpaaGreatDoor

namespace Go.Proofs.YtddphlindcabpaaGreatDoor
set_option linter.unusedVariables false

def kndC (c : Int) : Int := if c = 183 then 1 else if c = 885 then 2 else if 1523 ≤ c ∧ c ≤ 1524 then 3 else if c = 12539 then 4 else if arB c = true then 5 else if exB c = true then 6 else 0
theorem arB_iff {c : Int} : arB c = true ↔ 1632 ≤ c ∧ c ≤ 1641 := by simp [arB]
theorem exB_iff {c : Int} : exB c = true ↔ 1776 ≤ c ∧ c ≤ 1785 := by simp [exB]
theorem kndC_ar {c : Int} : kndC c = 5 ↔ arB c = true := by
  unfold kndC
  constructor
  · intro h
    split at h
    · omega
    split at h
    · omega
    split at h
    · omega
    split at h
    · omega
    split at h
    · assumption
    split at h <;> omega
  · intro h
    have h2 := arB_iff.1 h
    rw [if_neg (by omega), if_neg (by omega), if_neg (by omega), if_neg (by omega), if_pos h]
theorem kndC_ex {c : Int} : kndC c = 6 ↔ exB c = true := by
  unfold kndC
  constructor
  · intro h
    split at h
    · omega
    split at h
    · omega
    split at h
    · omega
    split at h
    · omega
    split at h
    · omega
    split at h
    · assumption
    · omega
  · intro h
    have h2 := exB_iff.1 h
    rw [if_neg (by omega), if_neg (by omega), if_neg (by omega), if_neg (by omega), if_neg (by rw [arB_iff]; omega), if_pos h]
theorem kndC_need (c : Int) : needB c = !decide (kndC c = 0) := by
  unfold needB kndC
  by_cases h1 : c = 183
  · subst h1; decide
  by_cases h2 : c = 885
  · subst h2; decide
  by_cases h3 : c = 1523
  · subst h3; decide
  by_cases h4 : c = 1524
  · subst h4; decide
  by_cases h5 : c = 12539
  · subst h5; decide
  rw [if_neg h1, if_neg h2, if_neg (by omega), if_neg h5, decide_eq_false h1, decide_eq_false h2, decide_eq_false h3, decide_eq_false h4, decide_eq_false h5]
  cases h6 : arB c with
  | true => rfl
  | false => cases h7 : exB c with
    | true => rfl
    | false => rfl
theorem scrT_out {T : Tb} (ha : ascB 0 T.scr = true) : scrT T (-1) = 0 := by
  unfold scrT
  rw [val_none ha (.inl (by omega))]; rfl
/-- What is permitted, by the kind of the element and its neighbours. -/
theorem ctxB_knd {T : Tb} {l : List Int} {m : Nat} (ha : ascB 0 T.scr = true) (hm : m < l.length) :
    ctxB T l m = (if kndC (l.getD m 0) = 1 then decide (atC l ((m : Int) - 1) = 108) && decide (atC l ((m : Int) + 1) = 108)
      else if kndC (l.getD m 0) = 2 then decide (scrT T (atC l ((m : Int) + 1)) = 4)
      else if kndC (l.getD m 0) = 3 then decide (scrT T (atC l ((m : Int) - 1)) = 11)
      else if kndC (l.getD m 0) = 4 then l.any (kanB T)
      else if kndC (l.getD m 0) = 5 then !l.any exB
      else if kndC (l.getD m 0) = 6 then !l.any arB
      else true) := by
  have hs := scrT_out ha
  generalize hc : l.getD m 0 = c
  unfold ctxB
  simp only [hc]
  rw [atC_prv, atC_nxt]
  obtain ⟨k, hk⟩ : ∃ k, kndC c = k := ⟨_, rfl⟩
  rw [hk]
  unfold kndC at hk
  by_cases h1 : c = 183
  · rw [if_pos h1] at hk
    subst hk
    rw [if_pos h1, if_pos rfl]
  rw [if_neg h1] at hk ⊢
  by_cases h2 : c = 885
  · rw [if_pos h2] at hk
    subst hk
    rw [if_pos h2, if_neg (by decide), if_pos rfl]
    unfold nxtC
    by_cases h : m + 1 < l.length
    · rw [decide_eq_true h, Bool.true_and]; simp [List.getD, h]
    · have e : l.getD (m + 1) (-1) = -1 := by rw [List.getD_eq_getElem?_getD, List.getElem?_eq_none (by omega)]; rfl
      rw [decide_eq_false h, e, hs]; rfl
  rw [if_neg h2] at hk ⊢
  by_cases h3 : c = 1523 ∨ c = 1524
  · rw [if_pos (by omega)] at hk
    subst hk
    rw [if_pos h3, if_neg (by decide), if_neg (by decide), if_pos rfl]
    unfold prvC
    by_cases h : m = 0
    · rw [if_pos h, hs, decide_eq_false (show ¬ 0 < m by omega)]; rfl
    · rw [if_neg h, decide_eq_true (show 0 < m by omega), Bool.true_and]
      simp [List.getD, show m - 1 < l.length by omega]
  rw [if_neg (by omega)] at hk
  rw [if_neg h3]
  by_cases h4 : c = 12539
  · rw [if_pos h4] at hk
    subst hk
    rw [if_pos h4, if_neg (by decide), if_neg (by decide), if_neg (by decide), if_pos rfl]
  rw [if_neg h4] at hk ⊢
  cases h5 : arB c with
  | true => rw [h5, if_pos rfl] at hk; subst hk; rfl
  | false => cases h6 : exB c with
    | true => rw [h5, h6, if_neg (by simp), if_pos rfl] at hk; subst hk; rfl
    | false => rw [h5, h6, if_neg (by simp), if_neg (by simp)] at hk; subst hk; rfl

end Go.Proofs.YtddphlindcabpaaGreatDoor

namespace Go.Proofs.YtddphlindcabpaaGreatDoor
open Go.RowKit
set_option linter.unusedVariables false

theorem bool_dec {B : Bool} {p : Prop} [Decidable p] (h : p ↔ B = true) : B = decide p := by cases B <;> simp_all

set_option maxRecDepth 100000 in
set_option maxHeartbeats 4000000 in
theorem ckind_at (c k : Int) (w : World) (hk : Hid (kndC c = k)) :
    Calls Tryz.prog 33 #[.int .i64 c] w (Gives (.int .i64 k) w) := by
  by_cases h183 : c = 183
  · subst h183
    obtain rfl : k = 1 := by rw [← hk.out]; decide
    clear hk
    go_enter Tryz.func33, Tryz.ntmps33
    go_wp2
    go_ret
    exact ⟨rfl, Below.refl _ _⟩
  by_cases h885 : c = 885
  · subst h885
    obtain rfl : k = 2 := by rw [← hk.out]; decide
    clear hk
    go_enter Tryz.func33, Tryz.ntmps33
    go_wp2
    go_ret
    exact ⟨rfl, Below.refl _ _⟩
  by_cases h12539 : c = 12539
  · subst h12539
    obtain rfl : k = 4 := by rw [← hk.out]; decide
    clear hk
    go_enter Tryz.func33, Tryz.ntmps33
    go_wp2
    go_ret
    exact ⟨rfl, Below.refl _ _⟩
  have d183 : (c == 183) = false := by simp [h183]
  have d885 : (c == 885) = false := by simp [h885]
  have d12539 : (c == 12539) = false := by simp [h12539]
  by_cases q0 : c < 1523
  · have g1 : decide (1523 ≤ c) = false := decide_eq_false (by omega)
    have g3 : decide (1632 ≤ c) = false := decide_eq_false (by omega)
    have g5 : decide (1776 ≤ c) = false := decide_eq_false (by omega)
    obtain rfl : k = 0 := by rw [← hk.out]; unfold kndC; rw [if_neg h183, if_neg h885, if_neg (by omega), if_neg h12539, if_neg (by rw [arB_iff]; omega), if_neg (by rw [exB_iff]; omega)]
    clear h183 h885 h12539
    clear hk
    go_enter Tryz.func33, Tryz.ntmps33
    go_wp2
    go_ret
    exact ⟨rfl, Below.refl _ _⟩
  by_cases q1 : c < 1525
  · have g1 : decide (1523 ≤ c) = true := decide_eq_true (by omega)
    have g2 : decide (c ≤ 1524) = true := decide_eq_true (by omega)
    have g3 : decide (1632 ≤ c) = false := decide_eq_false (by omega)
    have g5 : decide (1776 ≤ c) = false := decide_eq_false (by omega)
    obtain rfl : k = 3 := by rw [← hk.out]; unfold kndC; rw [if_neg h183, if_neg h885, if_pos (by omega)]
    clear h183 h885 h12539
    clear hk
    go_enter Tryz.func33, Tryz.ntmps33
    go_wp2
    go_ret
    exact ⟨rfl, Below.refl _ _⟩
  by_cases q2 : c < 1632
  · have g1 : decide (1523 ≤ c) = true := decide_eq_true (by omega)
    have g2 : decide (c ≤ 1524) = false := decide_eq_false (by omega)
    have g3 : decide (1632 ≤ c) = false := decide_eq_false (by omega)
    have g5 : decide (1776 ≤ c) = false := decide_eq_false (by omega)
    obtain rfl : k = 0 := by rw [← hk.out]; unfold kndC; rw [if_neg h183, if_neg h885, if_neg (by omega), if_neg h12539, if_neg (by rw [arB_iff]; omega), if_neg (by rw [exB_iff]; omega)]
    clear h183 h885 h12539
    clear hk
    go_enter Tryz.func33, Tryz.ntmps33
    go_wp2
    go_ret
    exact ⟨rfl, Below.refl _ _⟩
  by_cases q3 : c < 1642
  · have g1 : decide (1523 ≤ c) = true := decide_eq_true (by omega)
    have g2 : decide (c ≤ 1524) = false := decide_eq_false (by omega)
    have g3 : decide (1632 ≤ c) = true := decide_eq_true (by omega)
    have g4 : decide (c ≤ 1641) = true := decide_eq_true (by omega)
    have g5 : decide (1776 ≤ c) = false := decide_eq_false (by omega)
    obtain rfl : k = 5 := by rw [← hk.out]; exact kndC_ar.2 (arB_iff.2 (by omega))
    clear h183 h885 h12539
    clear hk
    go_enter Tryz.func33, Tryz.ntmps33
    go_wp2
    go_ret
    exact ⟨rfl, Below.refl _ _⟩
  by_cases q4 : c < 1776
  · have g1 : decide (1523 ≤ c) = true := decide_eq_true (by omega)
    have g2 : decide (c ≤ 1524) = false := decide_eq_false (by omega)
    have g3 : decide (1632 ≤ c) = true := decide_eq_true (by omega)
    have g4 : decide (c ≤ 1641) = false := decide_eq_false (by omega)
    have g5 : decide (1776 ≤ c) = false := decide_eq_false (by omega)
    obtain rfl : k = 0 := by rw [← hk.out]; unfold kndC; rw [if_neg h183, if_neg h885, if_neg (by omega), if_neg h12539, if_neg (by rw [arB_iff]; omega), if_neg (by rw [exB_iff]; omega)]
    clear h183 h885 h12539
    clear hk
    go_enter Tryz.func33, Tryz.ntmps33
    go_wp2
    go_ret
    exact ⟨rfl, Below.refl _ _⟩
  by_cases q5 : c < 1786
  · have g1 : decide (1523 ≤ c) = true := decide_eq_true (by omega)
    have g2 : decide (c ≤ 1524) = false := decide_eq_false (by omega)
    have g3 : decide (1632 ≤ c) = true := decide_eq_true (by omega)
    have g4 : decide (c ≤ 1641) = false := decide_eq_false (by omega)
    have g5 : decide (1776 ≤ c) = true := decide_eq_true (by omega)
    have g6 : decide (c ≤ 1785) = true := decide_eq_true (by omega)
    obtain rfl : k = 6 := by rw [← hk.out]; exact kndC_ex.2 (exB_iff.2 (by omega))
    clear h183 h885 h12539
    clear hk
    go_enter Tryz.func33, Tryz.ntmps33
    go_wp2
    go_ret
    exact ⟨rfl, Below.refl _ _⟩
  have g1 : decide (1523 ≤ c) = true := decide_eq_true (by omega)
  have g2 : decide (c ≤ 1524) = false := decide_eq_false (by omega)
  have g3 : decide (1632 ≤ c) = true := decide_eq_true (by omega)
  have g4 : decide (c ≤ 1641) = false := decide_eq_false (by omega)
  have g5 : decide (1776 ≤ c) = true := decide_eq_true (by omega)
  have g6 : decide (c ≤ 1785) = false := decide_eq_false (by omega)
  obtain rfl : k = 0 := by rw [← hk.out]; unfold kndC; rw [if_neg h183, if_neg h885, if_neg (by omega), if_neg h12539, if_neg (by rw [arB_iff]; omega), if_neg (by rw [exB_iff]; omega)]
  clear h183 h885 h12539
  clear hk
  go_enter Tryz.func33, Tryz.ntmps33
  go_wp2
  go_ret
  exact ⟨rfl, Below.refl _ _⟩

set_option maxRecDepth 100000 in
set_option maxHeartbeats 4000000 in
theorem cis_at (c : Int) (B : Bool) (w : World) (hB : Hid (needB c = B)) :
    Calls Tryz.prog 22 #[.int .i64 c] w (Gives (.bool B) w) := by
  obtain ⟨k, hk⟩ : ∃ k, Hid (kndC c = k) := ⟨_, rfl⟩
  obtain rfl : B = (k != 0) := by
    rw [← hB.out, kndC_need, hk.out]; by_cases h : k = 0 <;> simp [h]
  clear hB
  go_enter Tryz.func22, Tryz.ntmps22
  go_wp2_with fail
  refine (ckind_at c k _ hk).mono ?_
  rintro e w1 ⟨rfl, hb⟩
  have HB := Lib.hid hb
  clear hb hk
  go_wp2
  go_ret
  exact ⟨rfl, HB.out⟩

set_option maxHeartbeats 1000000 in
theorem celem_at (p : Option Addr) (n cap : Nat) (zs : List Int) (i V : Int) (w : World) (hin : IntsIn w p zs) (HN : Hid (zs.length = n)) (hV : Hid (atC zs i = V)) :
    Calls Tryz.prog 43 #[.slice p n cap, .int .i64 i] w (Gives (.int .i64 V) w) := by
  have HI := Lib.hid hin
  clear hin
  by_cases h1 : i < 0
  · have d1 : decide (i < 0) = true := decide_eq_true h1
    obtain rfl : V = -1 := by rw [← hV.out]; exact atC_out (fun h => by omega)
    clear hV
    go_enter Tryz.func43, Tryz.ntmps43
    go_wp2
    go_ret
    exact ⟨rfl, Below.refl _ _⟩
  · have d1 : decide (i < 0) = false := decide_eq_false h1
    by_cases h2 : (n : Int) ≤ i
    · have d2 : decide ((n : Int) ≤ i) = true := decide_eq_true h2
      obtain rfl : V = -1 := by rw [← hV.out]; exact atC_out (fun h => by rw [HN.out] at h; omega)
      clear hV
      go_enter Tryz.func43, Tryz.ntmps43
      go_wp2
      go_ret
      exact ⟨rfl, Below.refl _ _⟩
    · have d2 : decide ((n : Int) ≤ i) = false := decide_eq_false h2
      obtain ⟨m, rfl⟩ : ∃ m : Nat, i = m := ⟨i.toNat, by omega⟩
      have hml : m < zs.length := by rw [HN.out]; omega
      obtain ⟨b, off, rfl, hck⟩ := HI.out m hml
      have hV2 : zs.getD m 0 = V := by rw [← hV.out, atC_in hml]
      rw [hV2] at hck
      have i0 : (0 : Int) ≤ (m : Int) := by omega
      have i1 : (m : Int) < (n : Int) := by omega
      have i2 : ¬ n ≤ m := by omega
      clear hV hV2
      go_enter Tryz.func43, Tryz.ntmps43
      go_wp2
      go_ret
      exact ⟨rfl, Below.refl _ _⟩

theorem row_three {w : World} {b : Nat} {x y z u v q : Value} {t : TypeId} (h : w.heap[b]? = some (.cells #[x, y, z] t (0, 0))) :
    (((w.setCell ⟨b, 0, none⟩ u).setCell ⟨b, 1, none⟩ v).setCell ⟨b, 2, none⟩ q).heap[b]? = some (.cells #[u, v, q] t (0, 0)) := by
  have h1 := heap_setCell_same w b 0 #[x, y, z] t u h
  have h2 := heap_setCell_same _ b 1 _ t v h1
  have h3 := heap_setCell_same _ b 2 _ t q h2
  simpa using h3
/-- Three cells of a struct of the call's own. -/
def CurB (w : World) (g : Nat) (a b c : Bool) : Prop :=
  w.cell? ⟨g, 0, none⟩ = some (.bool a) ∧ w.cell? ⟨g, 1, none⟩ = some (.bool b) ∧ w.cell? ⟨g, 2, none⟩ = some (.bool c) ∧ w.frozen? ⟨g, 0, none⟩ = false ∧ w.frozen? ⟨g, 1, none⟩ = false ∧ w.frozen? ⟨g, 2, none⟩ = false ∧ g < w.heap.size
theorem CurB.new (w : World) (a b c : Bool) (ty : TypeId) : CurB (w.alloc (.cells #[.bool a, .bool b, .bool c] ty)) w.heap.size a b c := by
  refine ⟨?_, ?_, ?_, ?_, ?_, ?_, ?_⟩ <;> simp [World.cell?_alloc_new]
theorem CurB.below {w w' : World} {g : Nat} {a b c : Bool} (h : CurB w g a b c) (hb : Below w.heap.size w w') : CurB w' g a b c := by
  obtain ⟨h1, h2, h3, h4, h5, h6, h7⟩ := h
  have hbl := hb.block g h7
  exact ⟨(hb.cell h7).trans h1, (hb.cell h7).trans h2, (hb.cell h7).trans h3, (World.frozen?_of_block hbl).trans h4, (World.frozen?_of_block hbl).trans h5, (World.frozen?_of_block hbl).trans h6, Nat.lt_of_lt_of_le h7 hb.size⟩
theorem CurB.set0 {w : World} {g : Nat} {a b c : Bool} (h : CurB w g a b c) (x : Bool) : CurB (w.setCell ⟨g, 0, none⟩ (.bool x)) g x b c := by
  obtain ⟨h1, h2, h3, h4, h5, h6, h7⟩ := h
  exact ⟨World.cell?_setCell_same _ _ _ h1, (World.cell?_setCell_other _ _ _ _ (by simp)).trans h2, (World.cell?_setCell_other _ _ _ _ (by simp)).trans h3, (World.frozen?_setCell _ _ _ _).trans h4, (World.frozen?_setCell _ _ _ _).trans h5, (World.frozen?_setCell _ _ _ _).trans h6, by simpa [World.setCell] using h7⟩
theorem CurB.set1 {w : World} {g : Nat} {a b c : Bool} (h : CurB w g a b c) (x : Bool) : CurB (w.setCell ⟨g, 1, none⟩ (.bool x)) g a x c := by
  obtain ⟨h1, h2, h3, h4, h5, h6, h7⟩ := h
  exact ⟨(World.cell?_setCell_other _ _ _ _ (by simp)).trans h1, World.cell?_setCell_same _ _ _ h2, (World.cell?_setCell_other _ _ _ _ (by simp)).trans h3, (World.frozen?_setCell _ _ _ _).trans h4, (World.frozen?_setCell _ _ _ _).trans h5, (World.frozen?_setCell _ _ _ _).trans h6, by simpa [World.setCell] using h7⟩
theorem CurB.set2 {w : World} {g : Nat} {a b c : Bool} (h : CurB w g a b c) (x : Bool) : CurB (w.setCell ⟨g, 2, none⟩ (.bool x)) g a b x := by
  obtain ⟨h1, h2, h3, h4, h5, h6, h7⟩ := h
  exact ⟨(World.cell?_setCell_other _ _ _ _ (by simp)).trans h1, (World.cell?_setCell_other _ _ _ _ (by simp)).trans h2, World.cell?_setCell_same _ _ _ h3, (World.frozen?_setCell _ _ _ _).trans h4, (World.frozen?_setCell _ _ _ _).trans h5, (World.frozen?_setCell _ _ _ _).trans h6, by simpa [World.setCell] using h7⟩
theorem BoxT.otherC {w : World} {g k o : Nat} {v : Value} {x : TV} (h : BoxT w g x) (hne : g ≠ k) : BoxT (w.setCell ⟨k, o, none⟩ v) g x := by
  obtain ⟨⟨h0, h1, h2, h3, h4, h5⟩, ⟨h6, h7, h8, h9, h10, h11⟩⟩ := h
  have key : ∀ i u, w.cell? ⟨g, i, none⟩ = some u → (w.setCell ⟨k, o, none⟩ v).cell? ⟨g, i, none⟩ = some u := fun i u hc => (World.cell?_setCell_other _ _ _ _ (by simp [hne])).trans hc
  exact ⟨⟨key _ _ h0, key _ _ h1, key _ _ h2, key _ _ h3, key _ _ h4, key _ _ h5⟩, ⟨key _ _ h6, key _ _ h7, key _ _ h8, key _ _ h9, key _ _ h10, key _ _ h11⟩⟩
theorem Env.setc {w0 w : World} {x : TV} {T : Tb} (h : Env w0 x T w) (h0 : TabV w0 x T) {k o : Nat} {v : Value} (hk : w0.heap.size < k) : Env w0 x T (w.setCell ⟨k, o, none⟩ v) :=
  have hb : Below w0.heap.size w0 (w.setCell ⟨k, o, none⟩ v) := h.bel.setCell (p := ⟨k, o, none⟩) (Nat.le_of_lt hk) v
  ⟨h0.below hb, h.box.otherC (by omega), hb⟩
/-- Where contentsOf stands: the tables' box, the result's block, the struct's block. -/
structure CntSt (w0 w : World) (x : TV) (T : Tb) (a b c : Bool) : Prop where
  org : TabV w0 x T
  env : Env w0 x T w
  res : w.heap[w0.heap.size + 1]? = some (.cells #[.bool false, .bool false, .bool false] 63 (0, 0))
  cur : CurB w (w0.heap.size + 2) a b c
theorem CntSt.step {w0 w w' : World} {x : TV} {T : Tb} {a b c : Bool} (h : CntSt w0 w x T a b c) (hb : Below w.heap.size w w') : CntSt w0 w' x T a b c := ⟨h.org, h.env.step hb, (hb.block _ (by have := h.cur.2.2.2.2.2.2; omega)).trans h.res, h.cur.below hb⟩
theorem CntSt.new {w : World} {x : TV} {T : Tb} (h : TabV w x T) (t2 : TypeId) : CntSt w (((w.alloc (.cells (tabCells x) 26)).alloc (.cells #[.bool false, .bool false, .bool false] 63)).alloc (.cells #[.bool false, .bool false, .bool false] t2)) x T false false false := by
  have e1 : (w.alloc (.cells (tabCells x) 26)).heap.size = w.heap.size + 1 := by simp
  have h1 := heap_alloc_new (w.alloc (.cells (tabCells x) 26)) (.cells #[.bool false, .bool false, .bool false] 63)
  have e2 : ((w.alloc (.cells (tabCells x) 26)).alloc (.cells #[.bool false, .bool false, .bool false] 63)).heap.size = w.heap.size + 2 := by simp
  have h2 := CurB.new ((w.alloc (.cells (tabCells x) 26)).alloc (.cells #[.bool false, .bool false, .bool false] 63)) false false false t2
  rw [e1] at h1
  rw [e2] at h2
  exact ⟨h, ((Env.new h).step ((Below.refl _ _).alloc (Nat.le_refl _) _)).step ((Below.refl _ _).alloc (Nat.le_refl _) _), (Below.heap_alloc _ _ _ (by rw [e2]; omega)).trans h1, h2⟩
theorem CntSt.set0 {w0 w : World} {x : TV} {T : Tb} {a b c : Bool} (h : CntSt w0 w x T a b c) (u : Bool) : CntSt w0 (w.setCell ⟨w0.heap.size + 2, 0, none⟩ (.bool u)) x T u b c := ⟨h.org, h.env.setc h.org (by omega), (Below.heap_setCell _ _ _ _ (by simp)).trans h.res, h.cur.set0 u⟩
theorem CntSt.set1 {w0 w : World} {x : TV} {T : Tb} {a b c : Bool} (h : CntSt w0 w x T a b c) (u : Bool) : CntSt w0 (w.setCell ⟨w0.heap.size + 2, 1, none⟩ (.bool u)) x T a u c := ⟨h.org, h.env.setc h.org (by omega), (Below.heap_setCell _ _ _ _ (by simp)).trans h.res, h.cur.set1 u⟩
theorem CntSt.set2 {w0 w : World} {x : TV} {T : Tb} {a b c : Bool} (h : CntSt w0 w x T a b c) (u : Bool) : CntSt w0 (w.setCell ⟨w0.heap.size + 2, 2, none⟩ (.bool u)) x T a b u := ⟨h.org, h.env.setc h.org (by omega), (Below.heap_setCell _ _ _ _ (by simp)).trans h.res, h.cur.set2 u⟩

set_option maxRecDepth 100000 in
set_option maxHeartbeats 4000000 in
theorem ccont_at (x : TV) (T : Tb) (p : Option Addr) (n cap : Nat) (zs : List Int) (K A E : Bool) (w : World) (hx : TabV w x T) (ha : ascB 0 T.scr = true) (hin : IntsIn w p zs) (HN : Hid (zs.length = n)) (hl : n ≤ 17592186043904) (hK : Hid (zs.any (kanB T) = K)) (hA : Hid (zs.any arB = A)) (hE : Hid (zs.any exB = E)) :
    Calls Tryz.prog 31 #[x.agg, .slice p n cap] w (Gives (.agg #[.bool K, .bool A, .bool E]) w) := by
  have HS := Lib.hid (CntSt.new hx 63)
  have HI := Lib.hid hin
  have HA := Lib.hid ha
  clear hx hin ha
  simp only [tabCells] at HS
  simp only [TV.agg]
  go_enter Tryz.func31, Tryz.ntmps31
  go_upto_region 2 with (fail)
  generalize hW : (((w.alloc _).alloc _).alloc _) = W1 at HS ⊢
  clear hW
  go_wp2
  go_loopw [10] (fun i wr => ∃ k : Nat, ∃ a b c : Bool, k ≤ n ∧ i = .int .i64 k ∧ Hid ((zs.take k).any (kanB T) = a) ∧ Hid ((zs.take k).any arB = b) ∧ Hid ((zs.take k).any exB = c) ∧ Hid (CntSt w wr x T a b c)) (fun i _ => n - (intOf i).toNat)
  case atStart => exact ⟨0, false, false, false, Nat.zero_le _, rfl, Lib.hid rfl, Lib.hid rfl, Lib.hid rfl, HS⟩
  case round =>
    obtain ⟨k, a, b, c, hk, rfl, h1, h2, h3, hs⟩ := hrel
    by_cases hlt : k < n
    · have hkl : k < zs.length := by rw [HN.out]; exact hlt
      obtain ⟨g, off, rfl, hck⟩ := (HI.out.below hs.out.env.bel) k hkl
      obtain ⟨d, hd⟩ : ∃ d, zs.getD k 0 = d := ⟨_, rfl⟩
      rw [hd] at hck
      obtain ⟨z, hz⟩ : ∃ z, Hid (scrT T d = z) := ⟨_, rfl⟩
      obtain ⟨q, hq⟩ : ∃ q, Hid (kndC d = q) := ⟨_, rfl⟩
      have H1 : Hid ((zs.take (k + 1)).any (kanB T) = (a || (decide (z = 7) || decide (z = 8) || decide (z = 6)))) := by unfold Hid; rw [any_step (kanB T) zs k hkl, h1.out, hd]; unfold kanB; rw [hz.out]
      have H2 : Hid ((zs.take (k + 1)).any arB = (b || decide (q = 5))) := by unfold Hid; rw [any_step arB zs k hkl, h2.out, hd, ← hq.out]; congr 1; exact bool_dec kndC_ar
      have H3 : Hid ((zs.take (k + 1)).any exB = (c || decide (q = 6))) := by unfold Hid; rw [any_step exB zs k hkl, h3.out, hd, ← hq.out]; congr 1; exact bool_dec kndC_ex
      clear hd hkl h1 h2 h3
      go_wp2_with fail
      refine (ckind_at d q _ hq).mono ?_
      rintro e w2 ⟨rfl, hb⟩
      replace hs := Lib.hid (hs.out.step hb)
      clear hb hck hq
      by_cases q5 : q = 5
      · subst q5
        replace H2 : Hid ((zs.take (k + 1)).any arB = true) := by unfold Hid; rw [H2.out]; cases b <;> rfl
        replace H3 : Hid ((zs.take (k + 1)).any exB = c) := by unfold Hid; rw [H3.out]; cases c <;> rfl
        obtain ⟨y0, y1, y2, y3, y4, y5, y6⟩ := hs.out.cur
        replace hs := Lib.hid (hs.out.set1 true)
        go_upto_region 10 with (fail)
        generalize w2.setCell _ _ = w2b at hs ⊢
        clear y0 y1 y2 y3 y4 y5 y6
        obtain ⟨⟨k0, k1, k2, k3, k4, k5⟩, ⟨k6, k7, k8, k9, k10, k11⟩⟩ := hs.out.env.box.load
        go_wp2_with fail
        refine (script_at x T d z _ hs.out.env.tab HA.out hz).mono ?_
        rintro e w3 ⟨rfl, hb⟩
        replace hs := Lib.hid (hs.out.step hb)
        clear hb
        clear k0 k1 k2 k3 k4 k5 k6 k7 k8 k9 k10 k11
        by_cases h7 : z = 7
        · subst h7
          have H1b : Hid ((zs.take (k + 1)).any (kanB T) = true) := by unfold Hid; rw [H1.out]; cases a <;> rfl
          clear H1
          obtain ⟨y0, y1, y2, y3, y4, y5, y6⟩ := hs.out.cur
          replace hs := Lib.hid (hs.out.set0 true)
          go_wp2
          go_roundw
          case rel => exact ⟨k + 1, true, true, c, by omega, by go_num, H1b, H2, H3, hs⟩
          case measure => first | (simp [intOf]; done) | (simp [intOf]; omega)
        · have d7 : (z == 7) = false := by simp [h7]
          by_cases h8 : z = 8
          · subst h8
            have H1b : Hid ((zs.take (k + 1)).any (kanB T) = true) := by unfold Hid; rw [H1.out]; cases a <;> rfl
            clear H1
            obtain ⟨y0, y1, y2, y3, y4, y5, y6⟩ := hs.out.cur
            replace hs := Lib.hid (hs.out.set0 true)
            go_wp2
            go_roundw
            case rel => exact ⟨k + 1, true, true, c, by omega, by go_num, H1b, H2, H3, hs⟩
            case measure => first | (simp [intOf]; done) | (simp [intOf]; omega)
          · have d8 : (z == 8) = false := by simp [h8]
            by_cases h6 : z = 6
            · subst h6
              have H1b : Hid ((zs.take (k + 1)).any (kanB T) = true) := by unfold Hid; rw [H1.out]; cases a <;> rfl
              clear H1
              obtain ⟨y0, y1, y2, y3, y4, y5, y6⟩ := hs.out.cur
              replace hs := Lib.hid (hs.out.set0 true)
              go_wp2
              go_roundw
              case rel => exact ⟨k + 1, true, true, c, by omega, by go_num, H1b, H2, H3, hs⟩
              case measure => first | (simp [intOf]; done) | (simp [intOf]; omega)
            · have d6 : (z == 6) = false := by simp [h6]
              have H1b : Hid ((zs.take (k + 1)).any (kanB T) = a) := by unfold Hid; rw [H1.out]; simp [h7, h8, h6]
              clear H1 h7 h8 h6
              go_wp2
              go_roundw
              case rel => exact ⟨k + 1, a, true, c, by omega, by go_num, H1b, H2, H3, hs⟩
              case measure => first | (simp [intOf]; done) | (simp [intOf]; omega)
      · have e5 : (q == 5) = false := by simp [q5]
        replace H2 : Hid ((zs.take (k + 1)).any arB = b) := by unfold Hid; rw [H2.out]; simp [q5]
        clear q5
        by_cases q6 : q = 6
        · subst q6
          replace H3 : Hid ((zs.take (k + 1)).any exB = true) := by unfold Hid; rw [H3.out]; cases c <;> rfl
          obtain ⟨y0, y1, y2, y3, y4, y5, y6⟩ := hs.out.cur
          replace hs := Lib.hid (hs.out.set2 true)
          go_upto_region 10 with (fail)
          generalize w2.setCell _ _ = w2b at hs ⊢
          clear y0 y1 y2 y3 y4 y5 y6
          obtain ⟨⟨k0, k1, k2, k3, k4, k5⟩, ⟨k6, k7, k8, k9, k10, k11⟩⟩ := hs.out.env.box.load
          go_wp2_with fail
          refine (script_at x T d z _ hs.out.env.tab HA.out hz).mono ?_
          rintro e w3 ⟨rfl, hb⟩
          replace hs := Lib.hid (hs.out.step hb)
          clear hb
          clear k0 k1 k2 k3 k4 k5 k6 k7 k8 k9 k10 k11
          by_cases h7 : z = 7
          · subst h7
            have H1b : Hid ((zs.take (k + 1)).any (kanB T) = true) := by unfold Hid; rw [H1.out]; cases a <;> rfl
            clear H1
            obtain ⟨y0, y1, y2, y3, y4, y5, y6⟩ := hs.out.cur
            replace hs := Lib.hid (hs.out.set0 true)
            go_wp2
            go_roundw
            case rel => exact ⟨k + 1, true, b, true, by omega, by go_num, H1b, H2, H3, hs⟩
            case measure => first | (simp [intOf]; done) | (simp [intOf]; omega)
          · have d7 : (z == 7) = false := by simp [h7]
            by_cases h8 : z = 8
            · subst h8
              have H1b : Hid ((zs.take (k + 1)).any (kanB T) = true) := by unfold Hid; rw [H1.out]; cases a <;> rfl
              clear H1
              obtain ⟨y0, y1, y2, y3, y4, y5, y6⟩ := hs.out.cur
              replace hs := Lib.hid (hs.out.set0 true)
              go_wp2
              go_roundw
              case rel => exact ⟨k + 1, true, b, true, by omega, by go_num, H1b, H2, H3, hs⟩
              case measure => first | (simp [intOf]; done) | (simp [intOf]; omega)
            · have d8 : (z == 8) = false := by simp [h8]
              by_cases h6 : z = 6
              · subst h6
                have H1b : Hid ((zs.take (k + 1)).any (kanB T) = true) := by unfold Hid; rw [H1.out]; cases a <;> rfl
                clear H1
                obtain ⟨y0, y1, y2, y3, y4, y5, y6⟩ := hs.out.cur
                replace hs := Lib.hid (hs.out.set0 true)
                go_wp2
                go_roundw
                case rel => exact ⟨k + 1, true, b, true, by omega, by go_num, H1b, H2, H3, hs⟩
                case measure => first | (simp [intOf]; done) | (simp [intOf]; omega)
              · have d6 : (z == 6) = false := by simp [h6]
                have H1b : Hid ((zs.take (k + 1)).any (kanB T) = a) := by unfold Hid; rw [H1.out]; simp [h7, h8, h6]
                clear H1 h7 h8 h6
                go_wp2
                go_roundw
                case rel => exact ⟨k + 1, a, b, true, by omega, by go_num, H1b, H2, H3, hs⟩
                case measure => first | (simp [intOf]; done) | (simp [intOf]; omega)
        · have e6 : (q == 6) = false := by simp [q6]
          replace H3 : Hid ((zs.take (k + 1)).any exB = c) := by unfold Hid; rw [H3.out]; simp [q6]
          clear q6
          obtain ⟨⟨k0, k1, k2, k3, k4, k5⟩, ⟨k6, k7, k8, k9, k10, k11⟩⟩ := hs.out.env.box.load
          go_wp2_with fail
          refine (script_at x T d z _ hs.out.env.tab HA.out hz).mono ?_
          rintro e w3 ⟨rfl, hb⟩
          replace hs := Lib.hid (hs.out.step hb)
          clear hb
          clear k0 k1 k2 k3 k4 k5 k6 k7 k8 k9 k10 k11
          by_cases h7 : z = 7
          · subst h7
            have H1b : Hid ((zs.take (k + 1)).any (kanB T) = true) := by unfold Hid; rw [H1.out]; cases a <;> rfl
            clear H1
            obtain ⟨y0, y1, y2, y3, y4, y5, y6⟩ := hs.out.cur
            replace hs := Lib.hid (hs.out.set0 true)
            go_wp2
            go_roundw
            case rel => exact ⟨k + 1, true, b, c, by omega, by go_num, H1b, H2, H3, hs⟩
            case measure => first | (simp [intOf]; done) | (simp [intOf]; omega)
          · have d7 : (z == 7) = false := by simp [h7]
            by_cases h8 : z = 8
            · subst h8
              have H1b : Hid ((zs.take (k + 1)).any (kanB T) = true) := by unfold Hid; rw [H1.out]; cases a <;> rfl
              clear H1
              obtain ⟨y0, y1, y2, y3, y4, y5, y6⟩ := hs.out.cur
              replace hs := Lib.hid (hs.out.set0 true)
              go_wp2
              go_roundw
              case rel => exact ⟨k + 1, true, b, c, by omega, by go_num, H1b, H2, H3, hs⟩
              case measure => first | (simp [intOf]; done) | (simp [intOf]; omega)
            · have d8 : (z == 8) = false := by simp [h8]
              by_cases h6 : z = 6
              · subst h6
                have H1b : Hid ((zs.take (k + 1)).any (kanB T) = true) := by unfold Hid; rw [H1.out]; cases a <;> rfl
                clear H1
                obtain ⟨y0, y1, y2, y3, y4, y5, y6⟩ := hs.out.cur
                replace hs := Lib.hid (hs.out.set0 true)
                go_wp2
                go_roundw
                case rel => exact ⟨k + 1, true, b, c, by omega, by go_num, H1b, H2, H3, hs⟩
                case measure => first | (simp [intOf]; done) | (simp [intOf]; omega)
              · have d6 : (z == 6) = false := by simp [h6]
                have H1b : Hid ((zs.take (k + 1)).any (kanB T) = a) := by unfold Hid; rw [H1.out]; simp [h7, h8, h6]
                clear H1 h7 h8 h6
                go_wp2
                go_roundw
                case rel => exact ⟨k + 1, a, b, c, by omega, by go_num, H1b, H2, H3, hs⟩
                case measure => first | (simp [intOf]; done) | (simp [intOf]; omega)
    · obtain rfl : k = n := by omega
      have hnn : zs.length ≤ k := by rw [HN.out]; exact Nat.le_refl _
      obtain rfl : K = a := by rw [← hK.out, ← h1.out, List.take_of_length_le hnn]
      obtain rfl : A = b := by rw [← hA.out, ← h2.out, List.take_of_length_le hnn]
      obtain rfl : E = c := by rw [← hE.out, ← h3.out, List.take_of_length_le hnn]
      clear h1 h2 h3 hK hA hE hnn
      obtain ⟨y0, y1, y2, y3, y4, y5, y6⟩ := hs.out.cur
      have hrs := hs.out.res
      have x0 := cell_of_row wr (w.heap.size + 1) 0 _ _ (0, 0) hrs
      have x1 := cell_of_row wr (w.heap.size + 1) 1 _ _ (0, 0) hrs
      have x2 := cell_of_row wr (w.heap.size + 1) 2 _ _ (0, 0) hrs
      have x3 : wr.frozen? ⟨w.heap.size + 1, 0, none⟩ = false := by simp [World.frozen?, hrs]
      have x4 : wr.frozen? ⟨w.heap.size + 1, 1, none⟩ = false := by simp [World.frozen?, hrs]
      have x5 : wr.frozen? ⟨w.heap.size + 1, 2, none⟩ = false := by simp [World.frozen?, hrs]
      have HRS := Lib.hid hrs
      clear hrs
      simp only [List.getElem?_toArray, List.getElem?_cons_zero, List.getElem?_cons_succ] at x0 x1 x2
      go_wp2
      refine bodyPost_ret (results_cell_row rfl _ _ (w.heap.size + 1) _ _ _ _ rfl (row_three HRS.out) Tryz.underlying63 rfl (by kernel_rfl)) rfl ?_
      exact ⟨rfl, ((hs.out.env.bel.setCell (by simp) _).setCell (by simp) _).setCell (by simp) _⟩

set_option maxRecDepth 100000 in
set_option maxHeartbeats 4000000 in
theorem cisp_at (x : TV) (T : Tb) (p : Option Addr) (n cap : Nat) (zs : List Int) (m : Nat) (K A E R : Bool) (w : World) (hx : TabV w x T) (ha : ascB 0 T.scr = true) (hin : IntsIn w p zs) (HN : Hid (zs.length = n)) (hm : m < n) (hn4 : n ≤ 4096) (hK : Hid (zs.any (kanB T) = K)) (hA : Hid (zs.any arB = A)) (hE : Hid (zs.any exB = E)) (HRR : Hid (ctxB T zs m = R)) :
    Calls Tryz.prog 32 #[x.agg, .slice p n cap, .agg #[.bool K, .bool A, .bool E], .int .i64 m] w (Gives (.bool R) w) := by
  have HE := Lib.hid (Env.new hx)
  have HI := Lib.hid hin
  have HSC := Lib.hid ha
  clear hx hin ha
  simp only [TV.agg]
  go_enter Tryz.func32, Tryz.ntmps32
  go_upto_region 1 with (fail)
  generalize hWB : (w.alloc (.cells (tabCells x) 26)) = W1 at HE
  simp only [tabCells] at hWB
  try rw [hWB]
  have hs1 : W1.heap.size = w.heap.size + 1 := by rw [← hWB]; simp
  clear hWB
  have hc := CurB.new W1 K A E 63
  have hb0 : Below W1.heap.size W1 (W1.alloc (.cells #[.bool K, .bool A, .bool E] 63)) := (Below.refl _ _).alloc (Nat.le_refl _) _
  replace HE := Lib.hid (HE.out.step hb0)
  rw [hs1] at hc
  have HC := Lib.hid hc
  clear hc hb0 hs1
  generalize W1.alloc _ = W2 at HE HC ⊢
  have hml : m < zs.length := by rw [HN.out]; exact hm
  obtain ⟨g, off, e0, hck⟩ := (HI.out.below HE.out.bel) m hml
  subst e0
  obtain ⟨c, hcc⟩ : ∃ c, zs.getD m 0 = c := ⟨_, rfl⟩
  rw [hcc] at hck
  obtain ⟨q, hq⟩ : ∃ q, Hid (kndC c = q) := ⟨_, rfl⟩
  have HPM : Hid (R = (if q = 1 then decide (atC zs ((m : Int) - 1) = 108) && decide (atC zs ((m : Int) + 1) = 108) else if q = 2 then decide (scrT T (atC zs ((m : Int) + 1)) = 4) else if q = 3 then decide (scrT T (atC zs ((m : Int) - 1)) = 11) else if q = 4 then K else if q = 5 then !E else if q = 6 then !A else true)) := by
    unfold Hid; rw [← HRR.out, ctxB_knd HSC.out hml, hcc, hq.out, hK.out, hA.out, hE.out]
  have i0 : (0 : Int) ≤ (m : Int) := by omega
  have i1 : (m : Int) < (n : Int) := by omega
  clear hcc hml HRR hK hA hE
  go_wp2_with fail
  refine (ckind_at c q _ hq).mono ?_
  rintro e w2 ⟨rfl, hb⟩
  replace HE := Lib.hid (HE.out.step hb)
  replace HC := Lib.hid (HC.out.below hb)
  clear hb hck hq
  by_cases q1 : q = 1
  · subst q1
    replace HPM := HPM.out
    rw [if_pos rfl] at HPM
    replace HPM := Lib.hid HPM
    obtain ⟨a, ha⟩ : ∃ a, Hid (atC zs ((m : Int) - 1) = a) := ⟨_, rfl⟩
    obtain ⟨d, hd⟩ : ∃ a, Hid (atC zs ((m : Int) + 1) = a) := ⟨_, rfl⟩
    have HRA : Hid (R = (decide (a = 108) && decide (d = 108))) := by unfold Hid; rw [HPM.out, ← ha.out, ← hd.out]
    have s1 : IntKind.i64.wrap ((m : Int) - 1) = (m : Int) - 1 := IntWalk.i64_in _ (by omega)
    have s2 : IntKind.i64.wrap ((m : Int) + 1) = (m : Int) + 1 := IntWalk.i64_in _ (by omega)
    clear HPM
    go_wp2_with fail
    refine (celem_at _ n cap zs _ a _ (HI.out.below HE.out.bel) HN ha).mono ?_
    rintro e w3 ⟨rfl, hb⟩
    replace HE := Lib.hid (HE.out.step hb)
    clear hb
    by_cases ha1 : a = 108
    · have da : (a == 108) = true := by simp [ha1]
      obtain rfl : R = (d == 108) := by rw [HRA.out, decide_eq_true ha1, Bool.true_and]; by_cases h : d = 108 <;> simp [h]
      clear HRA ha1
      go_wp2_with fail
      refine (celem_at _ n cap zs _ d _ (HI.out.below HE.out.bel) HN hd).mono ?_
      rintro e w4 ⟨rfl, hb⟩
      replace HE := Lib.hid (HE.out.step hb)
      clear hb
      go_wp2
      go_ret
      exact ⟨rfl, HE.out.bel⟩
    · have da : (a == 108) = false := by simp [ha1]
      obtain rfl : R = false := by rw [HRA.out, decide_eq_false ha1]; rfl
      clear HRA ha1
      go_wp2
      go_ret
      exact ⟨rfl, HE.out.bel⟩
  · have e1 : (q == 1) = false := by simp [q1]
    by_cases q2 : q = 2
    · subst q2
      replace HPM := HPM.out
      rw [if_neg (by decide), if_pos rfl] at HPM
      replace HPM := Lib.hid HPM
      have s1 : IntKind.i64.wrap ((m : Int) + 1) = (m : Int) + 1 := IntWalk.i64_in _ (by omega)
      obtain ⟨d, hd⟩ : ∃ d, Hid (atC zs ((m : Int) + 1) = d) := ⟨_, rfl⟩
      obtain ⟨z, hz⟩ : ∃ z, Hid (scrT T d = z) := ⟨_, rfl⟩
      obtain rfl : R = (z == 4) := by rw [HPM.out, hd.out, hz.out]; by_cases h : z = 4 <;> simp [h]
      clear HPM
      have cc1 := fun p' => layB_call (p := p') fun W2 hW2 => celem_at _ n cap zs _ d W2 ((HI.out.below HE.out.bel).below hW2) HN hd
      have cc2 := fun p' => layB_call (p := p') fun W2 hW2 => script_at x T d z W2 (HE.out.tab.below hW2) HSC.out hz
      simp only [TV.agg] at cc2
      have C1 := Lib.hid cc1
      have C2 := Lib.hid cc2
      clear cc1 cc2
      go_upto_region 6 with (fail)
      obtain ⟨⟨k0, k1, k2, k3, k4, k5⟩, ⟨k6, k7, k8, k9, k10, k11⟩⟩ := HE.out.box.load
      have K0 := fun p => layB_cell k0 p
      have K1 := fun p => layB_cell k1 p
      have K2 := fun p => layB_cell k2 p
      have K3 := fun p => layB_cell k3 p
      have K4 := fun p => layB_cell k4 p
      have K5 := fun p => layB_cell k5 p
      have K6 := fun p => layB_cell k6 p
      have K7 := fun p => layB_cell k7 p
      have K8 := fun p => layB_cell k8 p
      have K9 := fun p => layB_cell k9 p
      have K10 := fun p => layB_cell k10 p
      have K11 := fun p => layB_cell k11 p
      clear k0 k1 k2 k3 k4 k5 k6 k7 k8 k9 k10 k11
      refine wp_region_layB (by kernel_rfl) (by kernel_rfl) ?_
      repeat (go_big_quiet_step (first
        | (go_at_call 43; with_reducible exact C1.out _)
        | (go_at_call 42; with_reducible exact C2.out _)))
      refine wpQuiet_nil ?_
      intro _ hw'
      obtain ⟨pq, hw''⟩ := hw'
      subst hw''
      have HE3 := Lib.hid (HE.out.step (layB_below w2 pq))
      generalize layB w2 pq = W3 at HE3 ⊢
      go_wp2_with fail
      go_ret
      exact ⟨rfl, HE3.out.bel⟩
    · have e2 : (q == 2) = false := by simp [q2]
      by_cases q3 : q = 3
      · subst q3
        replace HPM := HPM.out
        rw [if_neg (by decide), if_neg (by decide), if_pos rfl] at HPM
        replace HPM := Lib.hid HPM
        have s1 : IntKind.i64.wrap ((m : Int) - 1) = (m : Int) - 1 := IntWalk.i64_in _ (by omega)
        obtain ⟨d, hd⟩ : ∃ d, Hid (atC zs ((m : Int) - 1) = d) := ⟨_, rfl⟩
        obtain ⟨z, hz⟩ : ∃ z, Hid (scrT T d = z) := ⟨_, rfl⟩
        obtain rfl : R = (z == 11) := by rw [HPM.out, hd.out, hz.out]; by_cases h : z = 11 <;> simp [h]
        clear HPM
        have cc1 := fun p' => layB_call (p := p') fun W2 hW2 => celem_at _ n cap zs _ d W2 ((HI.out.below HE.out.bel).below hW2) HN hd
        have cc2 := fun p' => layB_call (p := p') fun W2 hW2 => script_at x T d z W2 (HE.out.tab.below hW2) HSC.out hz
        simp only [TV.agg] at cc2
        have C1 := Lib.hid cc1
        have C2 := Lib.hid cc2
        clear cc1 cc2
        go_upto_region 8 with (fail)
        obtain ⟨⟨k0, k1, k2, k3, k4, k5⟩, ⟨k6, k7, k8, k9, k10, k11⟩⟩ := HE.out.box.load
        have K0 := fun p => layB_cell k0 p
        have K1 := fun p => layB_cell k1 p
        have K2 := fun p => layB_cell k2 p
        have K3 := fun p => layB_cell k3 p
        have K4 := fun p => layB_cell k4 p
        have K5 := fun p => layB_cell k5 p
        have K6 := fun p => layB_cell k6 p
        have K7 := fun p => layB_cell k7 p
        have K8 := fun p => layB_cell k8 p
        have K9 := fun p => layB_cell k9 p
        have K10 := fun p => layB_cell k10 p
        have K11 := fun p => layB_cell k11 p
        clear k0 k1 k2 k3 k4 k5 k6 k7 k8 k9 k10 k11
        refine wp_region_layB (by kernel_rfl) (by kernel_rfl) ?_
        repeat (go_big_quiet_step (first
          | (go_at_call 43; with_reducible exact C1.out _)
          | (go_at_call 42; with_reducible exact C2.out _)))
        refine wpQuiet_nil ?_
        intro _ hw'
        obtain ⟨pq, hw''⟩ := hw'
        subst hw''
        have HE3 := Lib.hid (HE.out.step (layB_below w2 pq))
        generalize layB w2 pq = W3 at HE3 ⊢
        go_wp2_with fail
        go_ret
        exact ⟨rfl, HE3.out.bel⟩
      · have e3 : (q == 3) = false := by simp [q3]
        by_cases q4 : q = 4
        · subst q4
          replace HPM := HPM.out
          rw [if_neg (by decide), if_neg (by decide), if_neg (by decide), if_pos rfl] at HPM
          replace HPM := Lib.hid HPM
          obtain rfl : R = K := HPM.out
          clear HPM
          obtain ⟨y0, y1, y2, y3, y4, y5, y6⟩ := HC.out
          go_wp2
          go_ret
          exact ⟨rfl, HE.out.bel⟩
        · have e4 : (q == 4) = false := by simp [q4]
          by_cases q5 : q = 5
          · subst q5
            replace HPM := HPM.out
            rw [if_neg (by decide), if_neg (by decide), if_neg (by decide), if_neg (by decide), if_pos rfl] at HPM
            replace HPM := Lib.hid HPM
            obtain rfl : R = (!E) := HPM.out
            clear HPM
            obtain ⟨y0, y1, y2, y3, y4, y5, y6⟩ := HC.out
            go_wp2
            go_ret
            exact ⟨rfl, HE.out.bel⟩
          · have e5 : (q == 5) = false := by simp [q5]
            by_cases q6 : q = 6
            · subst q6
              replace HPM := HPM.out
              rw [if_neg (by decide), if_neg (by decide), if_neg (by decide), if_neg (by decide), if_neg (by decide), if_pos rfl] at HPM
              replace HPM := Lib.hid HPM
              obtain rfl : R = (!A) := HPM.out
              clear HPM
              obtain ⟨y0, y1, y2, y3, y4, y5, y6⟩ := HC.out
              go_wp2
              go_ret
              exact ⟨rfl, HE.out.bel⟩
            · have e6 : (q == 6) = false := by simp [q6]
              replace HPM := HPM.out
              rw [if_neg q1, if_neg q2, if_neg q3, if_neg q4, if_neg q5, if_neg q6] at HPM
              obtain rfl : R = true := HPM
              clear q1 q2 q3 q4 q5 q6
              go_wp2
              go_ret
              exact ⟨rfl, HE.out.bel⟩

end Go.Proofs.YtddphlindcabpaaGreatDoor

namespace Go.Proofs.YtddphlindcabpaaGreatDoor
open Go.RowKit
set_option linter.unusedVariables false

set_option maxHeartbeats 1000000 in
theorem rin_at (c lo hi : Int) (B : Bool) (w : World) (hB : Hid ((decide (lo ≤ c) && decide (c ≤ hi)) = B)) :
    Calls Tryz.prog 38 #[.int .i64 c, .int .i64 lo, .int .i64 hi] w (Gives (.bool B) w) := by
  by_cases h1 : lo ≤ c
  · have d1 : decide (lo ≤ c) = true := decide_eq_true h1
    obtain rfl : B = decide (c ≤ hi) := by rw [← hB.out, d1, Bool.true_and]
    clear hB
    go_enter Tryz.func38, Tryz.ntmps38
    go_wp2
    go_ret
    exact ⟨rfl, Below.refl _ _⟩
  · have d1 : decide (lo ≤ c) = false := decide_eq_false h1
    obtain rfl : B = false := by rw [← hB.out, d1, Bool.false_and]
    clear hB
    go_enter Tryz.func38, Tryz.ntmps38
    go_wp2
    go_ret
    exact ⟨rfl, Below.refl _ _⟩

set_option maxRecDepth 100000 in
set_option maxHeartbeats 4000000 in
theorem rneeds_at (c : Int) (B : Bool) (w : World) (hB : Hid (needB c = B)) :
    Calls Tryz.prog 26 #[.int .i64 c] w (Gives (.bool B) w) := by
  have HB := Lib.hid (Below.refl w.heap.size w)
  by_cases h183 : c = 183
  · subst h183
    obtain rfl : B = true := by rw [← hB.out]; decide
    clear hB
    go_enter Tryz.func26, Tryz.ntmps26
    go_wp2
    go_ret
    exact ⟨rfl, HB.out⟩
  · have d183 : (c == 183) = false := by simp [h183]
    by_cases h885 : c = 885
    · subst h885
      obtain rfl : B = true := by rw [← hB.out]; decide
      clear hB
      go_enter Tryz.func26, Tryz.ntmps26
      go_wp2
      go_ret
      exact ⟨rfl, HB.out⟩
    · have d885 : (c == 885) = false := by simp [h885]
      by_cases h1523 : c = 1523
      · subst h1523
        obtain rfl : B = true := by rw [← hB.out]; decide
        clear hB
        go_enter Tryz.func26, Tryz.ntmps26
        go_wp2
        go_ret
        exact ⟨rfl, HB.out⟩
      · have d1523 : (c == 1523) = false := by simp [h1523]
        by_cases h1524 : c = 1524
        · subst h1524
          obtain rfl : B = true := by rw [← hB.out]; decide
          clear hB
          go_enter Tryz.func26, Tryz.ntmps26
          go_wp2
          go_ret
          exact ⟨rfl, HB.out⟩
        · have d1524 : (c == 1524) = false := by simp [h1524]
          by_cases h12539 : c = 12539
          · subst h12539
            obtain rfl : B = true := by rw [← hB.out]; decide
            clear hB
            go_enter Tryz.func26, Tryz.ntmps26
            go_wp2
            go_ret
            exact ⟨rfl, HB.out⟩
          · have d12539 : (c == 12539) = false := by simp [h12539]
            obtain ⟨B1, hB1⟩ : ∃ B1, Hid (arB c = B1) := ⟨_, rfl⟩
            obtain ⟨B2, hB2⟩ : ∃ B2, Hid (exB c = B2) := ⟨_, rfl⟩
            have HBB : Hid (B = (B1 || B2)) := by
              unfold Hid; rw [← hB.out, ← hB1.out, ← hB2.out]; unfold needB
              rw [decide_eq_false h183, decide_eq_false h885, decide_eq_false h1523, decide_eq_false h1524, decide_eq_false h12539]; rfl
            clear hB h183 h885 h1523 h1524 h12539
            go_enter Tryz.func26, Tryz.ntmps26
            go_wp2_with fail
            refine (rin_at c 1632 1641 _ _ hB1).mono ?_
            rintro e w1 ⟨rfl, hb⟩
            replace HB := Lib.hid (HB.out.trans (hb.mono HB.out.size))
            clear hb
            cases B1 with
            | true =>
              obtain rfl : B = true := by rw [HBB.out]; rfl
              go_wp2
              go_ret
              exact ⟨rfl, HB.out⟩
            | false =>
              obtain rfl : B = B2 := by rw [HBB.out]; rfl
              go_wp2_with fail
              refine (rin_at c 1776 1785 _ _ hB2).mono ?_
              rintro e w2 ⟨rfl, hb⟩
              replace HB := Lib.hid (HB.out.trans (hb.mono HB.out.size))
              clear hb
              go_wp2
              go_ret
              exact ⟨rfl, HB.out⟩

end Go.Proofs.YtddphlindcabpaaGreatDoor

namespace Go.Proofs.YtddphlindcabpaaGreatDoor
open Go.RowKit
set_option linter.unusedVariables false

theorem cref_at (x : TV) (T : Tb) (p : Option Addr) (cap : Nat) (zs : List Int) (E : Int) (w : World) (hx : TabV w x T) (hr : Rsv w) (hin : IntsIn w p zs) (hl : zs.length ≤ 17592186043904) (hE : Hid (accE T zs = E)) :
    Calls Tryz.prog 30 #[x.agg, .slice p zs.length cap] w (Gives (.int .i64 E) w) := by
  obtain ⟨RL, hRL⟩ : ∃ L, Hid (runsL T zs = L) := ⟨_, rfl⟩
  have hac := fun W (h1 : TabV W x T) h2 h3 => runs_at x T p cap zs E RL W h1 h2 h3 hl hE hRL
  have HR := Lib.hid hr
  have HE := Lib.hid (Env.new hx)
  have HI := Lib.hid hin
  obtain ⟨n, hn⟩ : ∃ n, zs.length = n := ⟨_, rfl⟩
  rw [hn] at hl hac ⊢
  have HAC := Lib.hid hac
  clear hx hin hn hr hac
  simp only [TV.agg]
  go_enter Tryz.func30, Tryz.ntmps30
  obtain ⟨⟨k0, k1, k2, k3, k4, k5⟩, ⟨k6, k7, k8, k9, k10, k11⟩⟩ := HE.out.box.load
  go_wp2_with fail
  refine (HAC.out _ HE.out.tab (HR.out.below HE.out.bel) (HI.out.below HE.out.bel)).mono ?_
  rintro e w1 ⟨v0, rfl, _, hb1⟩
  replace HE := Lib.hid (HE.out.step hb1)
  clear hb1 k0 k1 k2 k3 k4 k5 k6 k7 k8 k9 k10 k11
  go_wp2
  go_ret
  exact ⟨rfl, HE.out.bel⟩

set_option maxRecDepth 100000 in
set_option maxHeartbeats 4000000 in
theorem ccheck_at (x : TV) (T : Tb) (p : Option Addr) (cap : Nat) (zs : List Int) (Z E : Int) (w : World) (hx : TabV w x T) (hr : Rsv w) (hin : IntsIn w p zs) (hl : zs.length ≤ 17592186043904) (hR : Hid (chkC T zs = (Z, E))) :
    Calls Tryz.prog 21 #[x.agg, .slice p zs.length cap] w (Gives (.tuple #[.int .i64 Z, .int .i64 E]) w) := by
  obtain ⟨A, hA⟩ : ∃ A, Hid (accE T zs = A) := ⟨_, rfl⟩
  have HE := Lib.hid (Env.new hx)
  have HI := Lib.hid hin
  have HR := Lib.hid hr
  have hac := fun W (h1 : TabV W x T) h2 h3 => cref_at x T p cap zs A W h1 h2 h3 hl hA
  obtain ⟨n, hn⟩ : ∃ n, zs.length = n := ⟨_, rfl⟩
  rw [hn] at hl hac ⊢
  have HN := Lib.hid hn
  have HAC := Lib.hid hac
  clear hx hin hn hr hac
  simp only [TV.agg]
  go_enter Tryz.func21, Tryz.ntmps21
  obtain ⟨⟨k0, k1, k2, k3, k4, k5⟩, ⟨k6, k7, k8, k9, k10, k11⟩⟩ := HE.out.box.load
  go_wp2_with fail
  refine (HAC.out _ HE.out.tab (HR.out.below HE.out.bel) (HI.out.below HE.out.bel)).mono ?_
  rintro e w1 ⟨rfl, hb1⟩
  replace HE := Lib.hid (HE.out.step hb1)
  clear hb1
  clear k0 k1 k2 k3 k4 k5 k6 k7 k8 k9 k10 k11
  by_cases h0 : A = 0
  · subst h0
    have hn4 : n ≤ 4096 := by rw [← HN.out]; exact (accE_ok hA.out).2.1
    have HSC : Hid (ascB 0 T.scr = true) := (r2_sp (check_rules (accE_ok hA.out).1).2.1).2.2.2.2.1
    obtain ⟨K, hK⟩ : ∃ K, Hid (zs.any (kanB T) = K) := ⟨_, rfl⟩
    obtain ⟨Y, hY⟩ : ∃ K, Hid (zs.any arB = K) := ⟨_, rfl⟩
    obtain ⟨X, hX⟩ : ∃ K, Hid (zs.any exB = K) := ⟨_, rfl⟩
    obtain ⟨⟨k0, k1, k2, k3, k4, k5⟩, ⟨k6, k7, k8, k9, k10, k11⟩⟩ := HE.out.box.load
    go_wp2_with fail
    refine (ccont_at x T p n cap zs K Y X _ HE.out.tab HSC.out (HI.out.below HE.out.bel) HN hl hK hY hX).mono ?_
    rintro e w2 ⟨rfl, hb⟩
    replace HE := Lib.hid (HE.out.step hb)
    clear hb
    clear k0 k1 k2 k3 k4 k5 k6 k7 k8 k9 k10 k11
    have hc := CurB.new w2 K Y X 63
    obtain ⟨z0, z1, z2, z3, z4, z5, z6⟩ := CurB.new w2 false false false 63
    go_upto_region 5 with (fail)
    clear z0 z1 z2 z3 z4 z5 z6
    have hb0 : Below w2.heap.size w2 (w2.alloc (.cells #[.bool K, .bool Y, .bool X] 63)) := (Below.refl _ _).alloc (Nat.le_refl _) _
    replace HE := Lib.hid (HE.out.step hb0)
    have HC := Lib.hid hc
    clear hb0 hc
    generalize (w2.alloc (.cells #[.bool K, .bool Y, .bool X] 63)) = W3 at HE HC ⊢
    generalize w2.heap.size = gb at HC ⊢
    go_wp2
    go_loopw [20] (fun i wr => Hid (CurB wr gb K Y X) ∧ ∃ k : Nat, k ≤ n ∧ i = .int .i64 k ∧ Hid (∀ j, j < k → ctxB T zs j = true) ∧ Hid (Env w x T wr)) (fun i _ => n - (intOf i).toNat)
    case atStart => exact ⟨HC, 0, Nat.zero_le _, rfl, fun j hj => by omega, HE⟩
    case round =>
      obtain ⟨hc, k, hk, rfl, hgd, he⟩ := hrel
      by_cases hlt : k < n
      · have hkl : k < zs.length := by rw [HN.out]; exact hlt
        obtain ⟨B, hB⟩ : ∃ B, Hid (ctxB T zs k = B) := ⟨_, rfl⟩
        have hB2 := hB.out
        obtain ⟨y0, y1, y2, y3, y4, y5, y6⟩ := hc.out
        obtain ⟨⟨k0, k1, k2, k3, k4, k5⟩, ⟨k6, k7, k8, k9, k10, k11⟩⟩ := he.out.box.load
        go_wp2_with fail
        refine (cisp_at x T p n cap zs k K Y X B _ he.out.tab HSC.out (HI.out.below he.out.bel) HN hlt hn4 hK hY hX hB).mono ?_
        rintro e w2 ⟨rfl, hb⟩
        replace he := Lib.hid (he.out.step hb)
        replace hc := Lib.hid (hc.out.below hb)
        clear y0 y1 y2 y3 y4 y5 y6
        clear hb
        clear k0 k1 k2 k3 k4 k5 k6 k7 k8 k9 k10 k11
        cases B with
        | true =>
          have HGD2 : Hid (∀ j, j < k + 1 → ctxB T zs j = true) := fun j hj => by
            by_cases e : j = k
            · rw [e]; exact hB2
            · exact hgd.out j (by omega)
          clear hB2
          go_wp2
          go_roundw
          case rel => exact ⟨hc, k + 1, by omega, by go_num, HGD2, he⟩
          case measure => first | (simp [intOf]; done) | (simp [intOf]; omega)
        | false =>
          have hbd : badC T zs zs.length 0 = some k := badC_first zs.length 0 k (by omega) (by omega) (fun j _ h => hgd.out j h) hB2
          have hR2 := hR.out
          unfold chkC at hR2
          rw [if_neg (by rw [hA.out]; simp), hbd] at hR2
          injection hR2 with e1 e2
          subst e1
          subst e2
          clear hB2 hbd
          go_wp2
          go_ret2
          exact ⟨rfl, he.out.bel⟩
      · obtain rfl : k = n := by omega
        have hbd : badC T zs zs.length 0 = none := (badC_none T zs _ 0).2 fun j _ h => hgd.out j (by rw [HN.out] at h; omega)
        have hR2 := hR.out
        unfold chkC at hR2
        rw [if_neg (by rw [hA.out]; simp), hbd] at hR2
        injection hR2 with e1 e2
        subst e1
        subst e2
        clear hbd
        go_wp2
        go_ret2
        exact ⟨rfl, he.out.bel⟩
  · have d0 : (A != 0) = true := by simp [h0]
    have hR2 := hR.out
    unfold chkC at hR2
    rw [if_pos (by rw [hA.out]; exact h0), hA.out] at hR2
    injection hR2 with e1 e2
    subst e1
    subst e2
    clear h0
    go_wp2
    go_ret2
    exact ⟨rfl, HE.out.bel⟩

set_option maxRecDepth 100000 in
set_option maxHeartbeats 4000000 in
theorem cperm_at (x : TV) (T : Tb) (p : Option Addr) (cap : Nat) (zs : List Int) (i : Int) (R : Bool) (w : World) (hx : TabV w x T) (hr : Rsv w) (hin : IntsIn w p zs) (hl : zs.length ≤ 17592186043904) (hR : Hid (cpeR T zs i = R)) :
    Calls Tryz.prog 23 #[x.agg, .slice p zs.length cap, .int .i64 i] w (Gives (.bool R) w) := by
  obtain ⟨A, hA⟩ : ∃ A, Hid (accE T zs = A) := ⟨_, rfl⟩
  have HR := Lib.hid hr
  have HE := Lib.hid (Env.new hx)
  have HI := Lib.hid hin
  have hac := fun W (h1 : TabV W x T) h2 h3 => cref_at x T p cap zs A W h1 h2 h3 hl hA
  obtain ⟨n, hn⟩ : ∃ n, zs.length = n := ⟨_, rfl⟩
  rw [hn] at hl hac ⊢
  have HN := Lib.hid hn
  have HAC := Lib.hid hac
  clear hx hin hn hr hac
  simp only [TV.agg]
  go_enter Tryz.func23, Tryz.ntmps23
  go_upto_region 1 with (fail)
  generalize hWB : (w.alloc (.cells (tabCells x) 26)) = WB at HE
  simp only [tabCells] at hWB
  try rw [hWB]
  clear hWB
  by_cases h1 : 0 ≤ i
  · have d1 : decide (0 ≤ i) = true := decide_eq_true h1
    by_cases h2 : i < n
    · have d2 : decide (i < (n : Int)) = true := decide_eq_true h2
      obtain ⟨m, rfl⟩ : ∃ m : Nat, i = m := ⟨i.toNat, by omega⟩
      have hm : m < n := by omega
      by_cases h0 : A = 0
      · subst h0
        have hn4 : n ≤ 4096 := by rw [← HN.out]; exact (accE_ok hA.out).2.1
        have HSC : Hid (ascB 0 T.scr = true) := (r2_sp (check_rules (accE_ok hA.out).1).2.1).2.2.2.2.1
        have HRR : Hid (ctxB T zs m = R) := by unfold Hid; rw [← cpeR_ok (by rw [HN.out]; exact hm) hA.out]; exact hR.out
        obtain ⟨K, hK⟩ : ∃ K, Hid (zs.any (kanB T) = K) := ⟨_, rfl⟩
        obtain ⟨Y, hY⟩ : ∃ K, Hid (zs.any arB = K) := ⟨_, rfl⟩
        obtain ⟨X, hX⟩ : ∃ K, Hid (zs.any exB = K) := ⟨_, rfl⟩
        clear hR hA
        have cc1 := fun p' => layB_call (p := p') fun W2 hW2 => HAC.out W2 (HE.out.tab.below hW2) ((HR.out.below HE.out.bel).below hW2) ((HI.out.below HE.out.bel).below hW2)
        simp only [TV.agg] at cc1
        have C1 := Lib.hid cc1
        clear cc1
        have cc2 := fun p' => layB_call (p := p') fun W2 hW2 => ccont_at x T p n cap zs K Y X W2 (HE.out.tab.below hW2) HSC.out ((HI.out.below HE.out.bel).below hW2) HN hl hK hY hX
        have cc3 := fun p' => layB_call (p := p') fun W2 hW2 => cisp_at x T p n cap zs m K Y X R W2 (HE.out.tab.below hW2) HSC.out ((HI.out.below HE.out.bel).below hW2) HN hm hn4 hK hY hX HRR
        simp only [TV.agg] at cc2 cc3
        have C2 := Lib.hid cc2
        have C3 := Lib.hid cc3
        clear cc2 cc3
        obtain ⟨⟨k0, k1, k2, k3, k4, k5⟩, ⟨k6, k7, k8, k9, k10, k11⟩⟩ := HE.out.box.load
        have K0 := fun p => layB_cell k0 p
        have K1 := fun p => layB_cell k1 p
        have K2 := fun p => layB_cell k2 p
        have K3 := fun p => layB_cell k3 p
        have K4 := fun p => layB_cell k4 p
        have K5 := fun p => layB_cell k5 p
        have K6 := fun p => layB_cell k6 p
        have K7 := fun p => layB_cell k7 p
        have K8 := fun p => layB_cell k8 p
        have K9 := fun p => layB_cell k9 p
        have K10 := fun p => layB_cell k10 p
        have K11 := fun p => layB_cell k11 p
        clear k0 k1 k2 k3 k4 k5 k6 k7 k8 k9 k10 k11
        refine wp_region_layB (by kernel_rfl) (by kernel_rfl) ?_
        repeat (go_big_quiet_step (first
          | (go_at_call 30; with_reducible exact C1.out _)
          | (go_at_call 31; with_reducible exact C2.out _)
          | (go_at_call 32; with_reducible exact C3.out _)))
        refine wpQuiet_nil ?_
        intro _ hw'
        obtain ⟨pq, hw''⟩ := hw'
        subst hw''
        have HE3 := Lib.hid (HE.out.step (layB_below WB pq))
        generalize layB WB pq = W3 at HE3 ⊢
        go_wp2_with fail
        go_ret
        exact ⟨rfl, HE3.out.bel⟩
      · have d0 : (A == 0) = false := by simp [h0]
        obtain rfl : R = false := by rw [← hR.out]; unfold cpeR; rw [decide_eq_false (show ¬ okI T zs m from fun h => h0 (hA.out.symm.trans h.2.2))]; rfl
        clear h0 hR hA
        have cc1 := fun p' => layB_call (p := p') fun W2 hW2 => HAC.out W2 (HE.out.tab.below hW2) ((HR.out.below HE.out.bel).below hW2) ((HI.out.below HE.out.bel).below hW2)
        simp only [TV.agg] at cc1
        have C1 := Lib.hid cc1
        clear cc1
        obtain ⟨⟨k0, k1, k2, k3, k4, k5⟩, ⟨k6, k7, k8, k9, k10, k11⟩⟩ := HE.out.box.load
        have K0 := fun p => layB_cell k0 p
        have K1 := fun p => layB_cell k1 p
        have K2 := fun p => layB_cell k2 p
        have K3 := fun p => layB_cell k3 p
        have K4 := fun p => layB_cell k4 p
        have K5 := fun p => layB_cell k5 p
        have K6 := fun p => layB_cell k6 p
        have K7 := fun p => layB_cell k7 p
        have K8 := fun p => layB_cell k8 p
        have K9 := fun p => layB_cell k9 p
        have K10 := fun p => layB_cell k10 p
        have K11 := fun p => layB_cell k11 p
        clear k0 k1 k2 k3 k4 k5 k6 k7 k8 k9 k10 k11
        refine wp_region_layB (by kernel_rfl) (by kernel_rfl) ?_
        repeat (go_big_quiet_step ((go_at_call 30; with_reducible exact C1.out _)))
        refine wpQuiet_nil ?_
        intro _ hw'
        obtain ⟨pq, hw''⟩ := hw'
        subst hw''
        have HE3 := Lib.hid (HE.out.step (layB_below WB pq))
        generalize layB WB pq = W3 at HE3 ⊢
        go_wp2_with fail
        go_ret
        exact ⟨rfl, HE3.out.bel⟩
    · have d2 : decide (i < (n : Int)) = false := decide_eq_false h2
      obtain rfl : R = false := by rw [← hR.out]; unfold cpeR; rw [decide_eq_false (show ¬ okI T zs i from fun h => h2 (by rw [← HN.out]; exact h.2.1))]; rfl
      clear hR
      refine wp_region_layB (by kernel_rfl) (by kernel_rfl) ?_
      repeat (go_big_quiet_step (fail))
      refine wpQuiet_nil ?_
      intro _ hw'
      obtain ⟨pq, hw''⟩ := hw'
      subst hw''
      have HE3 := Lib.hid (HE.out.step (layB_below WB pq))
      generalize layB WB pq = W3 at HE3 ⊢
      go_wp2_with fail
      go_ret
      exact ⟨rfl, HE3.out.bel⟩
  · have d1 : decide (0 ≤ i) = false := decide_eq_false h1
    obtain rfl : R = false := by rw [← hR.out]; unfold cpeR; rw [decide_eq_false (show ¬ okI T zs i from fun h => h1 h.1)]; rfl
    clear hR
    refine wp_region_layB (by kernel_rfl) (by kernel_rfl) ?_
    repeat (go_big_quiet_step (fail))
    refine wpQuiet_nil ?_
    intro _ hw'
    obtain ⟨pq, hw''⟩ := hw'
    subst hw''
    have HE3 := Lib.hid (HE.out.step (layB_below WB pq))
    generalize layB WB pq = W3 at HE3 ⊢
    go_wp2_with fail
    go_ret
    exact ⟨rfl, HE3.out.bel⟩

end Go.Proofs.YtddphlindcabpaaGreatDoor

namespace Go.Proofs.YtddphlindcabpaaGreatDoor
open Go.RowKit
set_option linter.unusedVariables false

def spL (a b : Nat) : List Int := [183, 885, 1523, 1524, 12539, (1632 + (a : Int)), (1776 + (b : Int)), 108, 945, 1488, 19968, 97]
theorem spL_sca : ∀ a, a < 11 → ∀ b, b < 11 → ∀ q, q < 12 → scaB ((spL a b).getD q 0) = true := by decide +kernel
theorem cx_next (g : Nat) (r : List Int) (n v : Int) (w : World) (hs : Src w g r) (h0 : 1 ≤ n) (h1 : n ≤ 1073741824) (hv : Hid (nextV r n = v)) :
    Calls Tryz.prog 13 #[.pointer (some ⟨g, 0, none⟩), .int .i64 n] w fun e w' => e = .returned (.int .i64 v) ∧ Src w' g r.tail ∧ w.grownBy w' (some g) := next_at g r n v w hs h0 h1 hv
theorem nextN (r : List Int) (n : Nat) (h : 1 ≤ n) : ∃ k : Nat, nextV r n = k ∧ k < n := by
  have := nextV_bd r n (by omega)
  exact ⟨(nextV r n).toNat, by omega, by omega⟩

set_option maxRecDepth 100000 in
set_option maxHeartbeats 4000000 in
theorem special_any (p : Option Addr) (cap : Nat) (zs : List Int) (w : World) (hin : IntsIn w p zs) (hl : zs.length ≤ 17592186043904) :
    Calls Tryz.prog 8 #[.slice p zs.length cap] w (PointsPost w) := by
  have HI := Lib.hid hin
  clear hin
  obtain ⟨n, hn, hn8⟩ := nextN zs 8 (by omega)
  have hn10 : n ≤ 7 := by omega
  have HN : Hid (nextV zs 8 = n) := hn
  clear hn hn8
  go_enter Tryz.func8, Tryz.ntmps8
  go_wp2_with fail
  refine (from_any p cap zs _ HI.out hl).mono ?_
  rintro e w1 ⟨g, rfl, hg, hs1, hb1⟩
  have HS1 := Lib.hid hs1
  have HB1 := Lib.hid hb1
  clear hs1 hb1
  go_wp2_with fail
  refine (cx_next g zs 8 n _ HS1.out (by omega) (by omega) HN).mono ?_
  rintro e w2 ⟨rfl, hs2, hg2⟩
  have hb2 : Below w.heap.size w w2 := HB1.out.grown hg2 HB1.out.size (by intro k e; cases e; exact hg)
  have HS2 := Lib.hid hs2
  have HB2 := Lib.hid hb2
  clear hs2 hb2 hg2
  go_wp2
  go_loopw [4, 5] (fun v m wr => ∃ k : Nat, ∃ xs : List Int, ∃ r : List Int, k ≤ 7 ∧ m = .int .i64 k ∧ xs.length + k ≤ 7 ∧ Hid (xs.all scaB = true) ∧ Hid (Src wr g r) ∧ Hid (Ints wr (g + 1) v xs) ∧ Hid (Below w.heap.size w wr)) (fun _ m _ => (intOf m).toNat)
  case atStart => exact ⟨n, [], zs.tail, hn10, rfl, by simp; omega, rfl, HS2, Ints.nil _ _, HB2⟩
  case round =>
    obtain ⟨k, xs, r, hk, rfl, hxk, ha, hs, hown, hbel⟩ := hrel
    by_cases h0 : 0 < k
    · obtain ⟨a, haa, ha11⟩ := nextN r 11 (by omega)
      obtain ⟨b, hbb, hb11⟩ := nextN r.tail 11 (by omega)
      obtain ⟨q, hq, hq12⟩ := nextN r.tail.tail 12 (by omega)
      have HAA : Hid (nextV r 11 = a) := haa
      have HBB : Hid (nextV r.tail 11 = b) := hbb
      have HQ : Hid (nextV r.tail.tail 12 = q) := hq
      have sA : IntKind.i64.wrap (1632 + (a : Int)) = 1632 + (a : Int) := IntWalk.i64_in _ (by omega)
      have sB : IntKind.i64.wrap (1776 + (b : Int)) = 1776 + (b : Int) := IntWalk.i64_in _ (by omega)
      have HGL := Lib.hid hs.out.lt
      clear haa hbb hq
      go_wp2_with fail
      refine (cx_next g r 11 a _ hs.out (by omega) (by omega) HAA).mono ?_
      rintro e wa ⟨rfl, hsa, hga⟩
      have hka := (Keeps.of_grown hga).weak (Q := fun b => b = g) (fun b _ e => by injection e with e; exact e.symm)
      have HOA := Lib.hid (hka.owns hown.out (fun b hb e => by have := World.ownsRow.lt hown.out b hb; omega))
      have HBA := Lib.hid (hbel.out.trans (hka.below hbel.out.size (fun b _ e => by have := hbel.out.size; omega)))
      have HSA := Lib.hid hsa
      clear hsa hga hka
      go_wp2_with fail
      refine (cx_next g r.tail 11 b _ HSA.out (by omega) (by omega) HBB).mono ?_
      rintro e wb ⟨rfl, hsb, hgb⟩
      have hkb := (Keeps.of_grown hgb).weak (Q := fun b => b = g) (fun b _ e => by injection e with e; exact e.symm)
      have HOB0 := Lib.hid (hkb.owns HOA.out (fun b hb e => by have := World.ownsRow.lt HOA.out b hb; omega))
      have HBB2 := Lib.hid (HBA.out.trans (hkb.below HBA.out.size (fun b _ e => by have := HBA.out.size; omega)))
      have HSB := Lib.hid hsb
      have HGB := Lib.hid hsb.lt
      clear hsb hgb hkb HOA HBA HSA
      have HW := Lib.hid (HSB.out.alloc (.cells #[.int .i64 183, .int .i64 885, .int .i64 1523, .int .i64 1524, .int .i64 12539, .int .i64 (1632 + (a : Int)), .int .i64 (1776 + (b : Int)), .int .i64 108, .int .i64 945, .int .i64 1488, .int .i64 19968, .int .i64 97] 3))
      have HOW := Lib.hid (Ints.alloc HOB0.out (.cells #[.int .i64 183, .int .i64 885, .int .i64 1523, .int .i64 1524, .int .i64 12539, .int .i64 (1632 + (a : Int)), .int .i64 (1776 + (b : Int)), .int .i64 108, .int .i64 945, .int .i64 1488, .int .i64 19968, .int .i64 97] 3))
      have HBW := Lib.hid (HBB2.out.alloc HBB2.out.size (.cells #[.int .i64 183, .int .i64 885, .int .i64 1523, .int .i64 1524, .int .i64 12539, .int .i64 (1632 + (a : Int)), .int .i64 (1776 + (b : Int)), .int .i64 108, .int .i64 945, .int .i64 1488, .int .i64 19968, .int .i64 97] 3))
      go_wp2_with fail
      refine (cx_next g r.tail.tail 12 q _ HW.out (by omega) (by omega) HQ).mono ?_
      rintro e w3 ⟨rfl, hs3, hg3⟩
      obtain ⟨_, _, hbe, hck⟩ := ((lit_ints wb #[.int .i64 183, .int .i64 885, .int .i64 1523, .int .i64 1524, .int .i64 12539, .int .i64 (1632 + (a : Int)), .int .i64 (1776 + (b : Int)), .int .i64 108, .int .i64 945, .int .i64 1488, .int .i64 19968, .int .i64 97] (spL a b) _ rfl).grown hg3 (by intro b off e; cases e; have := HGB.out; omega)) q hq12
      cases hbe
      obtain ⟨c, hc⟩ : ∃ c, (spL a b).getD q 0 = c := ⟨_, rfl⟩
      have HC : Hid (scaB c = true) := by unfold Hid; rw [← hc]; exact spL_sca a ha11 b hb11 q hq12
      rw [hc, Nat.zero_add] at hck
      have hk3 := (Keeps.of_grown hg3).weak (Q := fun b => b = g) (fun b _ e => by injection e with e; exact e.symm)
      have hown3 := hk3.owns HOW.out (fun b hb e => by have := World.ownsRow.lt HOW.out b hb; omega)
      have HO3 := Lib.hid (Ints.alloc hown3 (.cells #[.int .i64 c] 3))
      have HS3 := Lib.hid hs3
      have HB3 := Lib.hid (HBW.out.trans (hk3.below HBW.out.size (fun b _ e => by have := HBW.out.size; omega)))
      have HSL := Lib.hid hs3.lt
      have iq0 : (0 : Int) ≤ (q : Int) := by omega
      have iq1 : (q : Int) < 12 := by omega
      clear hs3 hg3 hown3 hk3 hc HW HOW HBW
      go_wp2_with (at_builtin; refine wpList_append_one _ _ rfl rfl (g + 1) u4 xs (by rfl) (by exact HO3.out) _ 1 c (by rfl) (by simp [World.cell?_alloc_new]) (by omega) (by have := HSL.out; simp; omega) ?_; intro v' w4 hown4 hg4 hv4)
      have hA : (xs ++ [c]).all scaB = true := by rw [List.all_append, ha.out]; simpa using HC.out
      have hown3' : Ints (w3.alloc (.cells #[.int .i64 c] 3)) (g + 1) u4 xs := HO3.out
      have hB : Below w.heap.size w w4 := (HB3.out.alloc HB3.out.size _).grown hg4 (by have := HB3.out.size; simp; omega) (fun j hj => by have := (World.ownsRow.lt hown3' j hj).1; omega)
      have hS : Src w4 g r.tail.tail.tail := (HS3.out.alloc _).grown hg4 (fun j hj => by have := (World.ownsRow.lt hown3' j hj).1; omega)
      have HA := Lib.hid hA
      have HI := Lib.hid hown4
      have HB := Lib.hid hB
      have HS := Lib.hid hS
      clear hA hB hS hown4 hg4 hv4 hown3' hck
      go_wp2
      go_roundw
      case rel => exact ⟨k - 1, xs ++ [c], r.tail.tail.tail, by omega, by go_num, by simp; omega, HA, HS, HI, HB⟩
      case measure => simp [intOf]; omega
    · obtain rfl : k = 0 := by omega
      have HO := Lib.hid (Ints.mono hown.out (B' := w.heap.size) (by omega))
      go_wp2
      go_ret
      exact ⟨xs, _, rfl, by omega, ha.out, HO.out, hbel.out⟩

/-- No tables. -/
def cxT : Tb := ⟨[], [], [], [], [], [], [], [], [], [], [], []⟩
def cxX : TV := ⟨.slice none 0 0, .slice none 0 0, .slice none 0 0, .slice none 0 0, .slice none 0 0, .slice none 0 0, .slice none 0 0, .slice none 0 0, .slice none 0 0, .slice none 0 0, .slice none 0 0, .slice none 0 0⟩
theorem cx_c1 : chkC cxT [108, 183, 108] = (0, 0) := by decide +kernel
theorem cx_c2 : chkC cxT [108, 183] = (1, 18) := by decide +kernel
theorem cx_sp (w : World) : SpV w (.slice none 0 0) [] := ⟨none, 0, rfl, fun k hk => absurd hk (Nat.not_lt_zero _), by simp⟩
theorem cx_mp (w : World) : MpV w (.slice none 0 0) [] := ⟨none, 0, rfl, fun k hk => absurd hk (Nat.not_lt_zero _), by simp⟩
theorem cx_in (w : World) : InV w (.slice none 0 0) [] := ⟨none, 0, rfl, fun k hk => absurd hk (Nat.not_lt_zero _), by simp⟩
theorem cx_tab (w : World) : TabV w cxX cxT := ⟨cx_sp _, cx_sp _, cx_sp _, cx_sp _, cx_sp _, cx_sp _, cx_sp _, cx_mp _, cx_mp _, cx_mp _, cx_in _, cx_mp _⟩

set_option maxRecDepth 100000 in
set_option maxHeartbeats 4000000 in
theorem awake15_any (w : World) (hr : Rsv w) : Calls Tryz.prog 6 #[] w (Gives (.bool true) w) := by
  have HR := Lib.hid hr
  have HB := Lib.hid ((Below.refl w.heap.size w).alloc (Nat.le_refl _) (.cells #[.int .i64 108, .int .i64 183, .int .i64 108] 3))
  have HI1 := Lib.hid (lit_ints w #[.int .i64 108, .int .i64 183, .int .i64 108] [108, 183, 108] 3 rfl)
  clear hr
  go_enter Tryz.func6, Tryz.ntmps6
  go_wp2_with fail
  refine (ccheck_at cxX cxT _ 3 [108, 183, 108] 0 0 _ (cx_tab _) (HR.out.below HB.out) HI1.out (by simp) cx_c1).mono ?_
  rintro e w1 ⟨rfl, hb⟩
  replace HB := Lib.hid ((HB.out.trans (hb.mono HB.out.size)).alloc (Nat.le_trans HB.out.size hb.size) (.cells #[.int .i64 108, .int .i64 183] 3))
  have HI2 := Lib.hid (lit_ints w1 #[.int .i64 108, .int .i64 183] [108, 183] 3 rfl)
  clear hb HI1
  go_wp2_with fail
  refine (ccheck_at cxX cxT _ 2 [108, 183] 1 18 _ (cx_tab _) (HR.out.below HB.out) HI2.out (by simp) cx_c2).mono ?_
  rintro e w2 ⟨rfl, hb⟩
  replace HB := Lib.hid (HB.out.trans (hb.mono HB.out.size))
  clear hb HI2
  go_wp2_with fail
  refine (cis_at 12539 true _ (by unfold Hid; decide)).mono ?_
  rintro e w3 ⟨rfl, hb⟩
  replace HB := Lib.hid (HB.out.trans (hb.mono HB.out.size))
  clear hb
  go_wp2
  go_ret
  exact ⟨rfl, HB.out⟩

end Go.Proofs.YtddphlindcabpaaGreatDoor
