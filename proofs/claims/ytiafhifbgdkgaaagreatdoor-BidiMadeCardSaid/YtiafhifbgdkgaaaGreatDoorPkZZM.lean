/-
  bidi (stage 16): plain mathematics: the number of the condition that a label violates, marks at its end, what a label without a violation satisfies.
  bidi: what the functions of the layer return, as functions of the tables and the labels.
  bidi: classes as bits of a number (plain): what a set of classes answers to a mask.
  bidi: what the landed program keeps of a label: a bit for the class of its first and of its last code point, and one for each class (plain).
  bidi: contracts of the program's outlines and their conditions (genBA.py).
  bidi: contracts of the program's functions (genBA2.py).
  The laws of bidi: mixed, awake (genBL.py).
-/
import Derived.Test.YtiafhifbgdkgaaaGreatDoorPkB
import Derived.Test.YtiafhifbgdkgaaaGreatDoorPkR
import Derived.Test.YtiafhifbgdkgaaaGreatDoorPkZ
import Derived.Test.YtiafhifbgdkgaaaGreatDoorQTabRG
import Derived.Laws.BitsLemmas
import Derived.Laws.Bits64
import Derived.Test.YtiafhifbgdkgaaaGreatDoorQTblR
import Derived.Test.YtiafhifbgdkgaaaGreatDoorPkE
import Derived.Test.YtiafhifbgdkgaaaGreatDoorQTabK
import Derived.Test.YtiafhifbgdkgaaaGreatDoorPkF
import Derived.BigRegion
import Derived.Test.YtiafhifbgdkgaaaGreatDoorQLs
import Derived.Test.YtiafhifbgdkgaaaGreatDoorQTblQ
import Derived.Test.YtiafhifbgdkgaaaGreatDoorPkS
import Derived.Test.YtiafhifbgdkgaaaGreatDoorQTabRN
set_option linter.unusedSimpArgs false
set_option linter.unusedVariables false
namespace Go.Proofs.YtiafhifbgdkgaaaGreatDoor
set_option linter.unusedVariables false

def hasB (T : Tb) (l : List Int) (ks : List Int) : Bool := l.any fun c => ks.contains (bidT T c)
/-- The class of the last element that is no mark, k where there is none. -/
def lastB (T : Tb) : Int → List Int → Int
  | k, [] => k
  | k, c :: r => lastB T (if bidT T c = 10 then k else bidT T c) r
def ruleB (T : Tb) (l : List Int) (f z : Int) : Int :=
  if f = 1 ∨ f = 2 then
    if hasB T l [0, 11] = true then 2
    else if z ≠ 1 ∧ z ≠ 2 ∧ z ≠ 4 ∧ z ≠ 3 then 3
    else if hasB T l [4] = true ∧ hasB T l [3] = true then 4
    else 0
  else if f = 0 then
    if hasB T l [1, 2, 3, 11] = true then 5
    else if z ≠ 0 ∧ z ≠ 4 then 6
    else 0
  else 1
def ruleT (T : Tb) (l : List Int) : Int := if l = [] then 0 else ruleB T l (bidT T (l.getD 0 0)) (lastB T (-1) l)
def rtlT (T : Tb) (l : List Int) : Bool := hasB T l [1, 2, 3]

theorem hasB_append (T : Tb) (a b ks : List Int) : hasB T (a ++ b) ks = (hasB T a ks || hasB T b ks) := by unfold hasB; rw [List.any_append]
theorem lastB_append (T : Tb) : ∀ (a b : List Int) (k : Int), lastB T k (a ++ b) = lastB T (lastB T k a) b
  | [], b, k => rfl
  | c :: r, b, k => by rw [List.cons_append, lastB, lastB, lastB_append T r b]
theorem lastB_marks (T : Tb) : ∀ (m : List Int) (k : Int), (∀ c ∈ m, bidT T c = 10) → lastB T k m = k
  | [], k, h => rfl
  | c :: r, k, h => by
    rw [lastB, if_pos (h c (by simp)), lastB_marks T r k (fun y hy => h y (by simp [hy]))]
theorem hasB_marks (T : Tb) (m ks : List Int) (h : ∀ c ∈ m, bidT T c = 10) (hk : ks.contains 10 = false) : hasB T m ks = false := by
  unfold hasB
  rw [List.any_eq_false]
  intro c hc
  rw [h c hc, hk]; simp
/-- Marks at the end of a label that is not empty change nothing. -/
theorem rule_marks (T : Tb) (l m : List Int) (hl : l ≠ []) (h : ∀ c ∈ m, bidT T c = 10) : ruleT T (l ++ m) = ruleT T l := by
  have e0 : (l ++ m).getD 0 0 = l.getD 0 0 := by
    cases l with
    | nil => exact absurd rfl hl
    | cons c r => simp
  have hh : ∀ ks : List Int, ks.contains 10 = false → hasB T (l ++ m) ks = hasB T l ks := fun ks hk => by rw [hasB_append, hasB_marks T m ks h hk, Bool.or_false]
  unfold ruleT
  rw [if_neg (by simp [hl]), if_neg hl, e0, lastB_append, lastB_marks T m _ h]
  unfold ruleB
  rw [hh [0, 11] (by decide), hh [4] (by decide), hh [3] (by decide), hh [1, 2, 3, 11] (by decide)]
theorem rule_bd (T : Tb) (l : List Int) : 0 ≤ ruleT T l ∧ ruleT T l ≤ 6 := by
  unfold ruleT ruleB
  repeat' split
  all_goals omega
theorem hasB_no {T : Tb} {l ks : List Int} (h : hasB T l ks = false) : ∀ y ∈ l, bidT T y ∉ ks := by
  unfold hasB at h
  rw [List.any_eq_false] at h
  intro y hy hm
  exact h y hy (by simpa using hm)
theorem hasB_yes {T : Tb} {l ks : List Int} {y : Int} (hy : y ∈ l) (h : bidT T y ∈ ks) : hasB T l ks = true := by
  unfold hasB
  exact List.any_eq_true.2 ⟨y, hy, by simpa using h⟩
/-- A label that violates no condition satisfies all six. -/
theorem rule_conditions (T : Tb) (l : List Int) (f : Int) (hl : l ≠ []) (hf : bidT T (l.getD 0 0) = f) (h : ruleT T l = 0) :
    (f = 0 ∨ f = 1 ∨ f = 2) ∧ (∀ y ∈ l, bidT T y ≠ 11 ∧ (f = 0 → bidT T y ≠ 1 ∧ bidT T y ≠ 2 ∧ bidT T y ≠ 3) ∧ (f ≠ 0 → bidT T y ≠ 0)) ∧
    (f = 0 ∨ ¬ (hasB T l [4] = true ∧ hasB T l [3] = true)) ∧ (rtlT T l = true ↔ f ≠ 0) := by
  have hm : l.getD 0 0 ∈ l := by
    cases l with
    | nil => exact absurd rfl hl
    | cons c r => simp
  unfold ruleT at h
  rw [if_neg hl, hf] at h
  unfold ruleB at h
  split at h
  · rename_i h1
    split at h
    · omega
    · rename_i h2
      split at h
      · omega
      · split at h
        · omega
        · rename_i h4
          have h2 := hasB_no (Bool.eq_false_iff.2 h2)
          refine ⟨by omega, fun y hy => ?_, .inr h4, ?_⟩
          · have := h2 y hy
            simp only [List.mem_cons, List.not_mem_nil, or_false, not_or] at this
            exact ⟨this.2, fun e => by omega, fun _ => this.1⟩
          · exact ⟨fun _ => by omega, fun _ => hasB_yes hm (by rw [hf]; rcases h1 with e | e <;> rw [e] <;> simp)⟩
  · split at h
    · rename_i h0
      split at h
      · omega
      · rename_i h2
        have h2' := Bool.eq_false_iff.2 h2
        have h3 := hasB_no h2'
        have h5 : ∀ y ∈ l, bidT T y ≠ 1 ∧ bidT T y ≠ 2 ∧ bidT T y ≠ 3 ∧ bidT T y ≠ 11 := fun y hy => by
          have := h3 y hy
          simp only [List.mem_cons, List.not_mem_nil, or_false, not_or] at this
          exact this
        refine ⟨.inl h0, fun y hy => ⟨(h5 y hy).2.2.2, fun _ => ⟨(h5 y hy).1, (h5 y hy).2.1, (h5 y hy).2.2.1⟩, fun e => absurd h0 e⟩, .inl h0, fun hr => ?_, fun e => absurd h0 e⟩
        unfold rtlT hasB at hr
        obtain ⟨y, hy, hk⟩ := List.any_eq_true.1 hr
        have := h5 y hy
        simp at hk
        omega
    · omega
/-- Labels of letters. -/
theorem lastB_low (T : Tb) : ∀ (l : List Int) (k : Int), (∀ c ∈ l, bidT T c = 0) → (l ≠ [] ∨ k = 0) → lastB T k l = 0
  | [], k, h, hk => by
    rcases hk with hk | hk
    · exact absurd rfl hk
    · exact hk
  | c :: r, k, h, _ => by
    have hc := h c (by simp)
    rw [lastB, hc, if_neg (by decide), lastB_low T r 0 (fun y hy => h y (by simp [hy])) (.inr rfl)]
theorem rule_letters (T : Tb) (l : List Int) (h : ∀ c ∈ l, bidT T c = 0) : ruleT T l = 0 ∧ rtlT T l = false := by
  have hn : ∀ ks : List Int, ks.contains 0 = false → hasB T l ks = false := fun ks hk => by
    unfold hasB
    rw [List.any_eq_false]
    intro c hc
    rw [h c hc, hk]; simp
  refine ⟨?_, hn _ (by decide)⟩
  unfold ruleT
  by_cases hl : l = []
  · rw [if_pos hl]
  · have h0 : bidT T (l.getD 0 0) = 0 := h _ (by
      cases l with
      | nil => exact absurd rfl hl
      | cons c r => simp)
    rw [if_neg hl, h0, lastB_low T l _ h (.inl hl)]
    unfold ruleB
    rw [if_neg (by omega), if_pos rfl, hn [1, 2, 3, 11] (by decide), if_neg (by simp), if_neg (by omega)]

end Go.Proofs.YtiafhifbgdkgaaaGreatDoor

namespace Go.Proofs.YtiafhifbgdkgaaaGreatDoor
set_option linter.unusedVariables false

def rtlR (T : Tb) (l : List Int) : Bool := decide (accE T l = 0) && rtlT T l
def rulR (T : Tb) (l : List Int) : Int × Int := if accE T l ≠ 0 then (0, accE T l) else (ruleT T l, 0)
/-- The first label from k on that is refused, with its error. -/
def refD (T : Tb) : Nat → List (List Int) → Option (Nat × Int)
  | _, [] => none
  | k, l :: r => if accE T l ≠ 0 then some (k, accE T l) else refD T (k + 1) r
/-- The first label from k on that violates a condition. -/
def vioD (T : Tb) : Nat → List (List Int) → Option Nat
  | _, [] => none
  | k, l :: r => if ruleT T l ≠ 0 then some k else vioD T (k + 1) r
def domR (T : Tb) (L : List (List Int)) : Int × Int := match refD T 0 L with
  | some (k, e) => ((k : Int), e)
  | none => if L.any (rtlT T) = true then (match vioD T 0 L with | some k => ((k : Int), 19) | none => (0, 0)) else (0, 0)
theorem refD_none (T : Tb) : ∀ (L : List (List Int)) (k : Nat), refD T k L = none ↔ ∀ l ∈ L, accE T l = 0
  | [], k => by simp [refD]
  | l :: r, k => by
    rw [refD]
    by_cases h : accE T l = 0
    · rw [if_neg (by omega), refD_none T r (k + 1)]
      simp [h]
    · rw [if_pos h]
      simp [h]
theorem vioD_none (T : Tb) : ∀ (L : List (List Int)) (k : Nat), vioD T k L = none ↔ ∀ l ∈ L, ruleT T l = 0
  | [], k => by simp [vioD]
  | l :: r, k => by
    rw [vioD]
    by_cases h : ruleT T l = 0
    · rw [if_neg (by omega), vioD_none T r (k + 1)]
      simp [h]
    · rw [if_pos h]
      simp [h]
theorem refD_at (T : Tb) : ∀ (L : List (List Int)) (k i : Nat), i < L.length → (∀ j, j < i → accE T (L.getD j []) = 0) → accE T (L.getD i []) ≠ 0 → refD T k L = some (k + i, accE T (L.getD i []))
  | [], k, i, h, _, _ => by simp at h
  | l :: r, k, 0, _, _, h => by rw [refD]; rw [if_pos (by simpa using h)]; simp
  | l :: r, k, i + 1, h, hg, hb => by
    have h0 := hg 0 (by omega)
    rw [List.getD_cons_zero] at h0
    rw [refD, if_neg (by omega), refD_at T r (k + 1) i (by simpa using h) (fun j hj => by have := hg (j + 1) (by omega); rwa [List.getD_cons_succ] at this) (by simpa using hb), List.getD_cons_succ, show k + 1 + i = k + (i + 1) by omega]
theorem vioD_at (T : Tb) : ∀ (L : List (List Int)) (k i : Nat), i < L.length → (∀ j, j < i → ruleT T (L.getD j []) = 0) → ruleT T (L.getD i []) ≠ 0 → vioD T k L = some (k + i)
  | [], k, i, h, _, _ => by simp at h
  | l :: r, k, 0, _, _, h => by rw [vioD]; rw [if_pos (by simpa using h)]; simp
  | l :: r, k, i + 1, h, hg, hb => by
    have h0 := hg 0 (by omega)
    rw [List.getD_cons_zero] at h0
    rw [vioD, if_neg (by omega), vioD_at T r (k + 1) i (by simpa using h) (fun j hj => by have := hg (j + 1) (by omega); rwa [List.getD_cons_succ] at this) (by simpa using hb), show k + 1 + i = k + (i + 1) by omega]
theorem getD_memL (L : List (List Int)) (k : Nat) (h : k < L.length) : L.getD k [] ∈ L := by simp [h]
theorem memL_getD (L : List (List Int)) (l : List Int) (h : l ∈ L) : ∃ k, k < L.length ∧ L.getD k [] = l := by
  obtain ⟨k, hk, e⟩ := List.getElem_of_mem h
  exact ⟨k, hk, by simp [hk, e]⟩
theorem domR_ref {T : Tb} {L : List (List Int)} {i : Nat} (h : i < L.length) (hg : ∀ j, j < i → accE T (L.getD j []) = 0) (hb : accE T (L.getD i []) ≠ 0) : domR T L = ((i : Int), accE T (L.getD i [])) := by
  unfold domR; rw [refD_at T L 0 i h hg hb]; simp
theorem domR_no {T : Tb} {L : List (List Int)} (hg : ∀ l ∈ L, accE T l = 0) (hr : L.any (rtlT T) = false) : domR T L = (0, 0) := by
  unfold domR; rw [(refD_none T L 0).2 hg, hr]; rfl
theorem domR_vio {T : Tb} {L : List (List Int)} {i : Nat} (hg : ∀ l ∈ L, accE T l = 0) (hr : L.any (rtlT T) = true) (h : i < L.length) (hj : ∀ j, j < i → ruleT T (L.getD j []) = 0) (hb : ruleT T (L.getD i []) ≠ 0) : domR T L = ((i : Int), 19) := by
  unfold domR; rw [(refD_none T L 0).2 hg, hr, vioD_at T L 0 i h hj hb]; simp
theorem domR_ok {T : Tb} {L : List (List Int)} (hg : ∀ l ∈ L, accE T l = 0) (hj : ∀ l ∈ L, ruleT T l = 0) : domR T L = (0, 0) := by
  unfold domR; rw [(refD_none T L 0).2 hg]
  simp only
  rw [(vioD_none T L 0).2 hj]
  split <;> rfl
/-- Whether Domain returns an error, where every label is accepted. -/
theorem domR_err {T : Tb} {L : List (List Int)} (hg : ∀ l ∈ L, accE T l = 0) : (domR T L).2 = if L.any (rtlT T) = true ∧ L.any (fun l => decide (ruleT T l ≠ 0)) = true then 19 else 0 := by
  unfold domR
  rw [(refD_none T L 0).2 hg]
  simp only
  by_cases hr : L.any (rtlT T) = true
  · rw [if_pos hr]
    cases e : vioD T 0 L with
    | none =>
      have := (vioD_none T L 0).1 e
      rw [if_neg]
      rintro ⟨_, h⟩
      obtain ⟨l, hl, h2⟩ := List.any_eq_true.1 h
      exact absurd (this l hl) (of_decide_eq_true h2)
    | some k =>
      rw [if_pos]
      refine ⟨hr, ?_⟩
      cases h : L.any (fun l => decide (ruleT T l ≠ 0)) with
      | true => rfl
      | false =>
        have h2 : ∀ l ∈ L, ruleT T l = 0 := fun l hl => by
          have := (List.any_eq_false.1 h) l hl
          simpa using this
        rw [(vioD_none T L 0).2 h2] at e
        cases e
  · rw [if_neg hr, if_neg (fun h => hr h.1)]

end Go.Proofs.YtiafhifbgdkgaaaGreatDoor

namespace Go.Proofs.YtiafhifbgdkgaaaGreatDoor
set_option linter.unusedVariables false

/-- A set of small numbers. -/
def mkB : List Nat → Nat
  | [] => 0
  | k :: r => mkB r ||| 2 ^ k
theorem mkB_test (j : Nat) : ∀ ks : List Nat, (mkB ks).testBit j = ks.contains j
  | [] => by simp [mkB]
  | k :: r => by
    rw [mkB, Nat.testBit_or, mkB_test j r, Nat.testBit_two_pow]
    by_cases h : k = j
    · subst h; simp
    · have : (j == k) = false := by simp; omega
      have h2 : ¬ j = k := fun e => h e.symm
      simp [List.contains_cons, h, h2]
theorem mkB_lt (n : Nat) : ∀ ks : List Nat, (∀ k ∈ ks, k < n) → mkB ks < 2 ^ n
  | [], _ => by simp [mkB]; exact Nat.two_pow_pos n
  | k :: r, h => by
    rw [mkB]
    exact Nat.or_lt_two_pow (mkB_lt n r (fun x hx => h x (by simp [hx]))) (Nat.pow_lt_pow_right (by omega) (h k (by simp)))
/-- Two sets have a member in common. -/
theorem and_mkB (A : Nat) (ks : List Nat) : (A &&& mkB ks ≠ 0) ↔ ∃ k ∈ ks, A.testBit k = true := by
  constructor
  · intro h
    obtain ⟨i, hi⟩ := Nat.exists_testBit_of_ne_zero h
    rw [Nat.testBit_and, mkB_test, Bool.and_eq_true] at hi
    exact ⟨i, by simpa using hi.2, hi.1⟩
  · rintro ⟨k, hk, h⟩ e
    have : (A &&& mkB ks).testBit k = true := by rw [Nat.testBit_and, mkB_test, h]; simpa using hk
    rw [e] at this
    simp at this
/-- The classes of a label, a bit for each. -/
def clsM (T : Tb) (l : List Int) : Nat := mkB (l.map fun c => (bidT T c).toNat)
theorem clsM_has (T : Tb) (l : List Int) (ks : List Nat) (hb : ∀ c, 0 ≤ bidT T c) : decide (clsM T l &&& mkB ks ≠ 0) = hasB T l (ks.map fun k : Nat => (k : Int)) := by
  rw [Bool.eq_iff_iff, decide_eq_true_iff, and_mkB]
  unfold clsM hasB
  rw [List.any_eq_true]
  constructor
  · rintro ⟨k, hk, h⟩
    rw [mkB_test] at h
    have h2 : k ∈ l.map (fun c => (bidT T c).toNat) := by simpa using h
    obtain ⟨c, hc, e⟩ := List.mem_map.1 h2
    refine ⟨c, hc, ?_⟩
    have := hb c
    have e2 : bidT T c = (k : Int) := by omega
    rw [e2]
    have h3 : (k : Int) ∈ ks.map (fun k : Nat => (k : Int)) := List.mem_map.2 ⟨k, hk, rfl⟩
    exact List.elem_eq_true_of_mem h3
  · rintro ⟨c, hc, h⟩
    have h2 : bidT T c ∈ ks.map (fun k : Nat => (k : Int)) := by simpa using h
    obtain ⟨k, hk, e⟩ := List.mem_map.1 h2
    refine ⟨k, hk, ?_⟩
    rw [mkB_test]
    have : k ∈ l.map (fun c => (bidT T c).toNat) := List.mem_map.2 ⟨c, hc, by rw [← e]; simp⟩
    simpa using this
theorem bid_range {T : Tb} (h : checkT T = 0) (c : Int) : 0 ≤ bidT T c ∧ bidT T c ≤ 11 := by
  have h3 := (check_rules h).2.2.1
  unfold r3 at h3
  simp only [Bool.and_eq_true] at h3
  have h5 := h3.2.2.2.1
  unfold valOk at h5
  unfold bidT
  cases hv : val T.bid c with
  | some v =>
    obtain ⟨s, hs, _, _, rfl⟩ := val_mem hv
    have := List.all_eq_true.1 h5 s hs
    simpa using this
  | none =>
    rw [Option.getD_none]
    unfold fixB
    repeat' split
    all_goals omega
theorem clsM_lt {T : Tb} (h : checkT T = 0) (l : List Int) : clsM T l < 4096 :=
  mkB_lt 12 _ fun k hk => by
    obtain ⟨c, _, rfl⟩ := List.mem_map.1 hk
    have := bid_range h c
    omega
theorem i64_or12b (a b : Nat) (ha : a < 4096) (hb : b < 4096) : bits .or .i64 (a : Int) (b : Int) = ((a ||| b : Nat) : Int) :=
  (bits_nat .i64 12 (by decide) (fun n h0 h1 => by rw [IntKind.wrap_i64]; omega) a b ha hb).2
theorem i64_and12b (a b : Nat) (ha : a < 4096) (hb : b < 4096) : bits .and .i64 (a : Int) (b : Int) = ((a &&& b : Nat) : Int) :=
  (bits_nat .i64 12 (by decide) (fun n h0 h1 => by rw [IntKind.wrap_i64]; omega) a b ha hb).1

end Go.Proofs.YtiafhifbgdkgaaaGreatDoor

namespace Go.Proofs.YtiafhifbgdkgaaaGreatDoor
set_option linter.unusedVariables false

theorem mkB_append : ∀ a b : List Nat, mkB (a ++ b) = mkB a ||| mkB b := fun a b => by
  apply Nat.eq_of_testBit_eq
  intro i
  rw [Nat.testBit_or, mkB_test, mkB_test, mkB_test]
  rw [Bool.eq_iff_iff]
  simp
/-- All members of a mask are there. -/
theorem and_mkB_all (A : Nat) (ks : List Nat) : (A &&& mkB ks = mkB ks) ↔ ∀ k ∈ ks, A.testBit k = true := by
  constructor
  · intro h k hk
    have h1 : (A &&& mkB ks).testBit k = (mkB ks).testBit k := by rw [h]
    rw [Nat.testBit_and, mkB_test, show ks.contains k = true by simpa using hk, Bool.and_true] at h1
    exact h1
  · intro h
    apply Nat.eq_of_testBit_eq
    intro i
    rw [Nat.testBit_and, mkB_test]
    cases hc : ks.contains i with
    | true => rw [h i (by simpa using hc)]; rfl
    | false => rw [Bool.and_false]
/-- The bit of a class, 0 for none. -/
def bitC (z : Int) : Nat := if z < 0 then 0 else 2 ^ z.toNat
theorem bitC_nat (n : Nat) : bitC (n : Int) = 2 ^ n := by
  unfold bitC
  rw [if_neg (by omega)]
  rfl
theorem bitC_lt {z : Int} (h : z ≤ 11) : bitC z < 4096 := by
  unfold bitC
  split
  · omega
  · exact Nat.lt_of_le_of_lt (Nat.pow_le_pow_right (by omega) (show z.toNat ≤ 11 by omega)) (by decide)
theorem bitC_and (z : Int) (ks : List Nat) : (bitC z &&& mkB ks ≠ 0) ↔ z ∈ ks.map (fun k : Nat => (k : Int)) := by
  rw [and_mkB]
  unfold bitC
  by_cases h : z < 0
  · rw [if_pos h]
    constructor
    · rintro ⟨k, _, e⟩
      simp at e
    · intro hm
      obtain ⟨k, _, e⟩ := List.mem_map.1 hm
      omega
  · rw [if_neg h]
    constructor
    · rintro ⟨k, hk, e⟩
      rw [Nat.testBit_two_pow] at e
      have e2 := of_decide_eq_true e
      exact List.mem_map.2 ⟨k, hk, by omega⟩
    · intro hm
      obtain ⟨k, hk, e⟩ := List.mem_map.1 hm
      refine ⟨k, hk, ?_⟩
      rw [Nat.testBit_two_pow]
      exact decide_eq_true (by omega)
def fstM (T : Tb) (l : List Int) : Nat := if l = [] then 0 else bitC (bidT T (l.getD 0 0))
def lstM (T : Tb) (l : List Int) : Nat := bitC (lastB T (-1) l)
/-- The number of the first condition that is violated, from the three sets. -/
def vioR (L A : Nat) : Int := if A &&& 2049 ≠ 0 then 2 else if L &&& 30 = 0 then 3 else if A &&& 24 = 24 then 4 else 0
def vioL (L A : Nat) : Int := if A &&& 2062 ≠ 0 then 5 else if L &&& 17 = 0 then 6 else 0
def vioN (F L A : Nat) : Int := if A = 0 then 0 else if F &&& 6 ≠ 0 then vioR L A else if F &&& 1 ≠ 0 then vioL L A else 1
theorem lastB_mem (T : Tb) : ∀ (l : List Int) (k : Int), lastB T k l = k ∨ ∃ c ∈ l, lastB T k l = bidT T c
  | [], k => .inl rfl
  | c :: r, k => by
    rw [lastB]
    split
    · rcases lastB_mem T r k with h | ⟨d, hd, h⟩
      · exact .inl h
      · exact .inr ⟨d, by simp [hd], h⟩
    · rcases lastB_mem T r (bidT T c) with h | ⟨d, hd, h⟩
      · exact .inr ⟨c, by simp, h⟩
      · exact .inr ⟨d, by simp [hd], h⟩
theorem lastB_rng {T : Tb} (h : checkT T = 0) (l : List Int) : -1 ≤ lastB T (-1) l ∧ lastB T (-1) l ≤ 11 := by
  rcases lastB_mem T l (-1) with e | ⟨c, _, e⟩
  · rw [e]; omega
  · rw [e]; have := bid_range h c; omega
theorem fstM_lt {T : Tb} (h : checkT T = 0) (l : List Int) : fstM T l < 4096 := by
  unfold fstM
  split
  · omega
  · exact bitC_lt (bid_range h _).2
theorem lstM_lt {T : Tb} (h : checkT T = 0) (l : List Int) : lstM T l < 4096 := bitC_lt (lastB_rng h l).2
theorem rtlM_ok {T : Tb} (h : checkT T = 0) (l : List Int) : decide (clsM T l &&& 14 ≠ 0) = rtlT T l :=
  clsM_has T l [1, 2, 3] (fun c => (bid_range h c).1)
theorem clsM_both {T : Tb} (h : checkT T = 0) (l : List Int) : (clsM T l &&& 24 = 24) ↔ (hasB T l [4] = true ∧ hasB T l [3] = true) := by
  rw [← show decide (clsM T l &&& mkB [4] ≠ 0) = hasB T l [4] from clsM_has T l [4] (fun c => (bid_range h c).1), ← show decide (clsM T l &&& mkB [3] ≠ 0) = hasB T l [3] from clsM_has T l [3] (fun c => (bid_range h c).1), decide_eq_true_iff, decide_eq_true_iff, and_mkB, and_mkB, show (24 : Nat) = mkB [3, 4] from rfl, and_mkB_all]
  simp
  exact ⟨fun h => ⟨h.2, h.1⟩, fun h => ⟨h.2, h.1⟩⟩
theorem clsM_cons (T : Tb) (c : Int) (l : List Int) : clsM T (c :: l) = clsM T l ||| 2 ^ (bidT T c).toNat := rfl
theorem clsM_ne (T : Tb) (l : List Int) (h : l ≠ []) : clsM T l ≠ 0 := by
  cases l with
  | nil => exact absurd rfl h
  | cons c r =>
    intro e
    rw [clsM_cons] at e
    have : (clsM T r ||| 2 ^ (bidT T c).toNat).testBit (bidT T c).toNat = true := by rw [Nat.testBit_or, Nat.testBit_two_pow]; simp
    rw [e] at this
    simp at this
/-- The three sets tell the number. -/
theorem vio_ok {T : Tb} (h : checkT T = 0) (l : List Int) : vioN (fstM T l) (lstM T l) (clsM T l) = ruleT T l := by
  have hb : ∀ c, 0 ≤ bidT T c := fun c => (bid_range h c).1
  unfold vioN ruleT
  by_cases hl : l = []
  · rw [if_pos hl, hl, if_pos (show clsM T [] = 0 from rfl)]
  · rw [if_neg hl, if_neg (clsM_ne T l hl)]
    unfold fstM
    rw [if_neg hl]
    generalize hf : bidT T (l.getD 0 0) = f
    have f6 : (bitC f &&& 6 ≠ 0) ↔ (f = 1 ∨ f = 2) := by
      rw [show (6 : Nat) = mkB [1, 2] from rfl, bitC_and]; simp
    have f1 : (bitC f &&& 1 ≠ 0) ↔ f = 0 := by
      rw [show (1 : Nat) = mkB [0] from rfl, bitC_and]; simp
    unfold ruleB vioR vioL lstM
    generalize hz : lastB T (-1) l = z
    have e1 : (clsM T l &&& 2049 ≠ 0) ↔ hasB T l [0, 11] = true := by
      rw [← show decide (clsM T l &&& 2049 ≠ 0) = hasB T l [0, 11] from clsM_has T l [0, 11] hb, decide_eq_true_iff]
    have e2 : (clsM T l &&& 2062 ≠ 0) ↔ hasB T l [1, 2, 3, 11] = true := by
      rw [← show decide (clsM T l &&& 2062 ≠ 0) = hasB T l [1, 2, 3, 11] from clsM_has T l [1, 2, 3, 11] hb, decide_eq_true_iff]
    have e3 : (bitC z &&& 30 = 0) ↔ (z ≠ 1 ∧ z ≠ 2 ∧ z ≠ 4 ∧ z ≠ 3) := by
      have := bitC_and z [1, 2, 3, 4]
      rw [← show (30 : Nat) = mkB [1, 2, 3, 4] from rfl] at this
      simp only [List.map_cons, List.map_nil, List.mem_cons, List.not_mem_nil, or_false] at this
      by_cases h0 : bitC z &&& 30 = 0
      · simp only [h0, ne_eq, not_true_eq_false, false_iff] at this
        simp only [h0, true_iff]
        omega
      · simp only [ne_eq, h0, not_false_eq_true, true_iff] at this
        simp only [h0, false_iff]
        omega
    have e4 : (bitC z &&& 17 = 0) ↔ (z ≠ 0 ∧ z ≠ 4) := by
      have := bitC_and z [0, 4]
      rw [← show (17 : Nat) = mkB [0, 4] from rfl] at this
      simp only [List.map_cons, List.map_nil, List.mem_cons, List.not_mem_nil, or_false] at this
      by_cases h0 : bitC z &&& 17 = 0
      · simp only [h0, ne_eq, not_true_eq_false, false_iff] at this
        simp only [h0, true_iff]
        omega
      · simp only [ne_eq, h0, not_false_eq_true, true_iff] at this
        simp only [h0, false_iff]
        omega
    have e5 := clsM_both h l
    simp only [f6, f1, e1, e2, e3, e4, e5]
/-- One more code point. -/
theorem clsM_snoc (T : Tb) (l : List Int) (k : Nat) (h : k < l.length) : clsM T (l.take (k + 1)) = clsM T (l.take k) ||| 2 ^ (bidT T (l.getD k 0)).toNat := by
  unfold clsM
  rw [List.take_succ_eq_append_getElem h, List.map_append, mkB_append]
  simp [mkB, h]
theorem lstM_snoc (T : Tb) (l : List Int) (k : Nat) (h : k < l.length) : lstM T (l.take (k + 1)) = if bidT T (l.getD k 0) = 10 then lstM T (l.take k) else bitC (bidT T (l.getD k 0)) := by
  unfold lstM
  rw [List.take_succ_eq_append_getElem h, lastB_append]
  simp only [lastB, h, List.getD_eq_getElem?_getD, List.getElem?_eq_getElem, Option.getD_some]
  split <;> rfl
theorem fstM_take (T : Tb) (l : List Int) (k : Nat) (h : 0 < l.length) : fstM T (l.take (k + 1)) = bitC (bidT T (l.getD 0 0)) := by
  cases l with
  | nil => simp at h
  | cons c r => simp [fstM]
theorem u64_or12b (a b : Nat) (ha : a < 4096) (hb : b < 4096) : bits .or .u64 (a : Int) (b : Int) = ((a ||| b : Nat) : Int) :=
  (bits_nat .u64 12 (by decide) (fun n h0 h1 => by rw [IntKind.wrap_u64]; omega) a b ha hb).2
theorem u64_and12b (a b : Nat) (ha : a < 4096) (hb : b < 4096) : bits .and .u64 (a : Int) (b : Int) = ((a &&& b : Nat) : Int) :=
  (bits_nat .u64 12 (by decide) (fun n h0 h1 => by rw [IntKind.wrap_u64]; omega) a b ha hb).1
theorem u64_shl12 (n : Nat) (h : n ≤ 11) : IntKind.u64.wrap (2 ^ n : Int) = ((2 ^ n : Nat) : Int) := by
  have h1 : 2 ^ n ≤ 2048 := Nat.pow_le_pow_right (by omega) h
  have e : (2 ^ n : Int) = ((2 ^ n : Nat) : Int) := by push_cast; rfl
  rw [e, IntKind.wrap_u64]
  generalize 2 ^ n = p at h1
  omega

end Go.Proofs.YtiafhifbgdkgaaaGreatDoor

namespace Go.Proofs.YtiafhifbgdkgaaaGreatDoor
open Go.RowKit
set_option linter.unusedVariables false

theorem row_threeU {w : World} {b : Nat} {x y z u v q : Value} {t : TypeId} (h : w.heap[b]? = some (.cells #[x, y, z] t (0, 0))) :
    (((w.setCell ⟨b, 0, none⟩ u).setCell ⟨b, 1, none⟩ v).setCell ⟨b, 2, none⟩ q).heap[b]? = some (.cells #[u, v, q] t (0, 0)) := by
  have h1 := heap_setCell_same w b 0 #[x, y, z] t u h
  have h2 := heap_setCell_same _ b 1 _ t v h1
  have h3 := heap_setCell_same _ b 2 _ t q h2
  simpa using h3
/-- Three cells of a struct of three sets of classes. -/
def CurU (w : World) (g : Nat) (a b c : Int) : Prop :=
  w.cell? ⟨g, 0, none⟩ = some (.int .u64 a) ∧ w.cell? ⟨g, 1, none⟩ = some (.int .u64 b) ∧ w.cell? ⟨g, 2, none⟩ = some (.int .u64 c) ∧ w.frozen? ⟨g, 0, none⟩ = false ∧ w.frozen? ⟨g, 1, none⟩ = false ∧ w.frozen? ⟨g, 2, none⟩ = false ∧ g < w.heap.size
theorem CurU.new (w : World) (a b c : Int) (ty : TypeId) : CurU (w.alloc (.cells #[.int .u64 a, .int .u64 b, .int .u64 c] ty)) w.heap.size a b c := by
  refine ⟨?_, ?_, ?_, ?_, ?_, ?_, ?_⟩ <;> simp [World.cell?_alloc_new]
theorem CurU.below {w w' : World} {g : Nat} {a b c : Int} (h : CurU w g a b c) (hb : Below w.heap.size w w') : CurU w' g a b c := by
  obtain ⟨h1, h2, h3, h4, h5, h6, h7⟩ := h
  have hbl := hb.block g h7
  exact ⟨(hb.cell h7).trans h1, (hb.cell h7).trans h2, (hb.cell h7).trans h3, (World.frozen?_of_block hbl).trans h4, (World.frozen?_of_block hbl).trans h5, (World.frozen?_of_block hbl).trans h6, Nat.lt_of_lt_of_le h7 hb.size⟩
theorem CurU.set0 {w : World} {g : Nat} {a b c : Int} (h : CurU w g a b c) (x : Int) : CurU (w.setCell ⟨g, 0, none⟩ (.int .u64 x)) g x b c := by
  obtain ⟨h1, h2, h3, h4, h5, h6, h7⟩ := h
  exact ⟨World.cell?_setCell_same _ _ _ h1, (World.cell?_setCell_other _ _ _ _ (by simp)).trans h2, (World.cell?_setCell_other _ _ _ _ (by simp)).trans h3, (World.frozen?_setCell _ _ _ _).trans h4, (World.frozen?_setCell _ _ _ _).trans h5, (World.frozen?_setCell _ _ _ _).trans h6, by simpa [World.setCell] using h7⟩
theorem CurU.set1 {w : World} {g : Nat} {a b c : Int} (h : CurU w g a b c) (x : Int) : CurU (w.setCell ⟨g, 1, none⟩ (.int .u64 x)) g a x c := by
  obtain ⟨h1, h2, h3, h4, h5, h6, h7⟩ := h
  exact ⟨(World.cell?_setCell_other _ _ _ _ (by simp)).trans h1, World.cell?_setCell_same _ _ _ h2, (World.cell?_setCell_other _ _ _ _ (by simp)).trans h3, (World.frozen?_setCell _ _ _ _).trans h4, (World.frozen?_setCell _ _ _ _).trans h5, (World.frozen?_setCell _ _ _ _).trans h6, by simpa [World.setCell] using h7⟩
theorem CurU.set2 {w : World} {g : Nat} {a b c : Int} (h : CurU w g a b c) (x : Int) : CurU (w.setCell ⟨g, 2, none⟩ (.int .u64 x)) g a b x := by
  obtain ⟨h1, h2, h3, h4, h5, h6, h7⟩ := h
  exact ⟨(World.cell?_setCell_other _ _ _ _ (by simp)).trans h1, (World.cell?_setCell_other _ _ _ _ (by simp)).trans h2, World.cell?_setCell_same _ _ _ h3, (World.frozen?_setCell _ _ _ _).trans h4, (World.frozen?_setCell _ _ _ _).trans h5, (World.frozen?_setCell _ _ _ _).trans h6, by simpa [World.setCell] using h7⟩
theorem BoxT.otherU {w : World} {g k o : Nat} {v : Value} {x : TV} (h : BoxT w g x) (hne : g ≠ k) : BoxT (w.setCell ⟨k, o, none⟩ v) g x := by
  obtain ⟨⟨h0, h1, h2, h3, h4, h5⟩, ⟨h6, h7, h8, h9, h10, h11⟩⟩ := h
  have key : ∀ i u, w.cell? ⟨g, i, none⟩ = some u → (w.setCell ⟨k, o, none⟩ v).cell? ⟨g, i, none⟩ = some u := fun i u hc => (World.cell?_setCell_other _ _ _ _ (by simp [hne])).trans hc
  exact ⟨⟨key _ _ h0, key _ _ h1, key _ _ h2, key _ _ h3, key _ _ h4, key _ _ h5⟩, ⟨key _ _ h6, key _ _ h7, key _ _ h8, key _ _ h9, key _ _ h10, key _ _ h11⟩⟩
theorem Env.setu {w0 w : World} {x : TV} {T : Tb} (h : Env w0 x T w) (h0 : TabV w0 x T) {k o : Nat} {v : Value} (hk : w0.heap.size < k) : Env w0 x T (w.setCell ⟨k, o, none⟩ v) :=
  have hb : Below w0.heap.size w0 (w.setCell ⟨k, o, none⟩ v) := h.bel.setCell (p := ⟨k, o, none⟩) (Nat.le_of_lt hk) v
  ⟨h0.below hb, h.box.otherU (by omega), hb⟩
/-- Where outlineOf stands: the tables' box, the result's block, the outline's block. -/
structure OutSt (w0 w : World) (x : TV) (T : Tb) (a b c : Int) : Prop where
  org : TabV w0 x T
  env : Env w0 x T w
  res : w.heap[w0.heap.size + 1]? = some (.cells #[.int .u64 0, .int .u64 0, .int .u64 0] 61 (0, 0))
  cur : CurU w (w0.heap.size + 2) a b c
theorem OutSt.step {w0 w w' : World} {x : TV} {T : Tb} {a b c : Int} (h : OutSt w0 w x T a b c) (hb : Below w.heap.size w w') : OutSt w0 w' x T a b c := ⟨h.org, h.env.step hb, (hb.block _ (by have := h.cur.2.2.2.2.2.2; omega)).trans h.res, h.cur.below hb⟩
theorem OutSt.new {w : World} {x : TV} {T : Tb} (h : TabV w x T) (t2 : TypeId) : OutSt w (((w.alloc (.cells (tabCells x) 26)).alloc (.cells #[.int .u64 0, .int .u64 0, .int .u64 0] 61)).alloc (.cells #[.int .u64 0, .int .u64 0, .int .u64 0] t2)) x T 0 0 0 := by
  have e1 : (w.alloc (.cells (tabCells x) 26)).heap.size = w.heap.size + 1 := by simp
  have h1 := heap_alloc_new (w.alloc (.cells (tabCells x) 26)) (.cells #[.int .u64 0, .int .u64 0, .int .u64 0] 61)
  have e2 : ((w.alloc (.cells (tabCells x) 26)).alloc (.cells #[.int .u64 0, .int .u64 0, .int .u64 0] 61)).heap.size = w.heap.size + 2 := by simp
  have h2 := CurU.new ((w.alloc (.cells (tabCells x) 26)).alloc (.cells #[.int .u64 0, .int .u64 0, .int .u64 0] 61)) 0 0 0 t2
  rw [e1] at h1
  rw [e2] at h2
  exact ⟨h, ((Env.new h).step ((Below.refl _ _).alloc (Nat.le_refl _) _)).step ((Below.refl _ _).alloc (Nat.le_refl _) _), (Below.heap_alloc _ _ _ (by rw [e2]; omega)).trans h1, h2⟩
theorem OutSt.set0 {w0 w : World} {x : TV} {T : Tb} {a b c : Int} (h : OutSt w0 w x T a b c) (u : Int) : OutSt w0 (w.setCell ⟨w0.heap.size + 2, 0, none⟩ (.int .u64 u)) x T u b c := ⟨h.org, h.env.setu h.org (by omega), (Below.heap_setCell _ _ _ _ (by simp)).trans h.res, h.cur.set0 u⟩
theorem OutSt.set1 {w0 w : World} {x : TV} {T : Tb} {a b c : Int} (h : OutSt w0 w x T a b c) (u : Int) : OutSt w0 (w.setCell ⟨w0.heap.size + 2, 1, none⟩ (.int .u64 u)) x T a u c := ⟨h.org, h.env.setu h.org (by omega), (Below.heap_setCell _ _ _ _ (by simp)).trans h.res, h.cur.set1 u⟩
theorem OutSt.set2 {w0 w : World} {x : TV} {T : Tb} {a b c : Int} (h : OutSt w0 w x T a b c) (u : Int) : OutSt w0 (w.setCell ⟨w0.heap.size + 2, 2, none⟩ (.int .u64 u)) x T a b u := ⟨h.org, h.env.setu h.org (by omega), (Below.heap_setCell _ _ _ _ (by simp)).trans h.res, h.cur.set2 u⟩
/-- The contract's bits in the walk's words. -/
theorem mask_at {a : Nat} {A : Int} (m : Nat) (ha : a < 4096) (hA : Hid ((a : Int) = A)) (hm : m < 4096) : bits .and .u64 A (m : Int) = ((a &&& m : Nat) : Int) := by
  rw [← hA.out]; exact u64_and12b a m ha hm
theorem pow_mark : ∀ n : Nat, n ≤ 11 → n ≠ 10 → 2 ^ n ≠ 1024 := fun n h h2 e => by
  have key : ∀ k : Fin 12, k.val ≠ 10 → 2 ^ k.val ≠ 1024 := by decide
  exact key ⟨n, by omega⟩ h2 e
theorem fstM_snoc (T : Tb) (l : List Int) (k : Nat) (h : k < l.length) : fstM T (l.take (k + 1)) = if k = 0 then bitC (bidT T (l.getD k 0)) else fstM T (l.take k) := by
  by_cases hk : k = 0
  · subst hk
    rw [if_pos rfl, fstM_take T l 0 (by omega)]
  · rw [if_neg hk, fstM_take T l k (by omega)]
    obtain ⟨j, rfl⟩ : ∃ j, k = j + 1 := ⟨k - 1, by omega⟩
    rw [fstM_take T l j (by omega)]

set_option maxRecDepth 100000 in
set_option maxHeartbeats 4000000 in
theorem bout_at (x : TV) (T : Tb) (p : Option Addr) (n cap : Nat) (zs : List Int) (F L A : Int) (w : World) (hx : TabV w x T) (hck : checkT T = 0) (hin : IntsIn w p zs) (HN : Hid (zs.length = n)) (hl : n ≤ 17592186043904) (hF : Hid ((fstM T zs : Int) = F)) (hL : Hid ((lstM T zs : Int) = L)) (hA : Hid ((clsM T zs : Int) = A)) :
    Calls Tryz.prog 28 #[x.agg, .slice p n cap] w (Gives (.agg #[.int .u64 F, .int .u64 L, .int .u64 A]) w) := by
  have HS := Lib.hid (OutSt.new hx 61)
  have HI := Lib.hid hin
  have HC := Lib.hid hck
  have HAS : Hid (ascB 0 T.bid = true) := (r2_sp (check_rules hck).2.1).2.2.2.1
  clear hx hin hck
  simp only [tabCells] at HS
  simp only [TV.agg]
  go_enter Tryz.func28, Tryz.ntmps28
  go_upto_region 2 with (fail)
  generalize hW : (((w.alloc _).alloc _).alloc _) = W1 at HS ⊢
  clear hW
  go_wp2
  go_loopw [11] (fun i wr => ∃ k : Nat, ∃ a b c : Int, k ≤ n ∧ i = .int .i64 k ∧ Hid ((fstM T (zs.take k) : Int) = a) ∧ Hid ((lstM T (zs.take k) : Int) = b) ∧ Hid ((clsM T (zs.take k) : Int) = c) ∧ Hid (OutSt w wr x T a b c)) (fun i _ => n - (intOf i).toNat)
  case atStart => exact ⟨0, 0, 0, 0, Nat.zero_le _, rfl, Lib.hid rfl, Lib.hid rfl, Lib.hid rfl, HS⟩
  case round =>
    obtain ⟨k, a, b, c, hk, rfl, h1, h2, h3, hs⟩ := hrel
    by_cases hlt : k < n
    · have hkl : k < zs.length := by rw [HN.out]; exact hlt
      obtain ⟨g, off, rfl, hck⟩ := (HI.out.below hs.out.env.bel) k hkl
      obtain ⟨d, hd⟩ : ∃ d, zs.getD k 0 = d := ⟨_, rfl⟩
      rw [hd] at hck
      obtain ⟨z, hz⟩ : ∃ z, Hid (bidT T d = z) := ⟨_, rfl⟩
      have hzb := bid_range HC.out d
      rw [hz.out] at hzb
      obtain ⟨hz0, hz11⟩ := hzb
      have hz64 : z ≤ 64 := by omega
      obtain ⟨q, hq⟩ : ∃ q : Int, Hid (((bitC z : Nat) : Int) = q) := ⟨_, rfl⟩
      have hbz : bitC z = 2 ^ z.toNat := by unfold bitC; rw [if_neg (by omega)]
      have hsh : IntKind.u64.wrap (2 ^ z.toNat) = q := by rw [u64_shl12 z.toNat (by omega), ← hbz]; exact hq.out
      obtain ⟨r, hr⟩ : ∃ r : Int, Hid (((clsM T (zs.take (k + 1)) : Nat) : Int) = r) := ⟨_, rfl⟩
      have hor : bits .or .u64 c q = r := by
        rw [← hr.out, ← h3.out, ← hq.out, clsM_snoc T zs k hkl, hd, hz.out, ← hbz]
        exact u64_or12b _ _ (clsM_lt HC.out _) (bitC_lt hz11)
      have H1 : Hid ((fstM T (zs.take (k + 1)) : Int) = if k = 0 then q else a) := by
        unfold Hid
        rw [fstM_snoc T zs k hkl, hd, hz.out, ← hq.out, ← h1.out]
        split <;> rfl
      have H2 : Hid ((lstM T (zs.take (k + 1)) : Int) = if z = 10 then b else q) := by
        unfold Hid
        rw [lstM_snoc T zs k hkl, hd, hz.out, ← hq.out, ← h2.out]
        split <;> rfl
      have H10 : Hid (z ≠ 10 → q ≠ 1024) := fun h e => by
        have e2 := hq.out
        rw [hbz, e] at e2
        exact pow_mark z.toNat (by omega) (by omega) (by omega)
      have H10b : Hid (z = 10 → q = 1024) := fun h => by rw [← hq.out, h]; rfl
      clear hd hkl h1 h2 h3 hbz hq hz11
      obtain ⟨⟨k0, k1, k2, k3, k4, k5⟩, ⟨k6, k7, k8, k9, k10, k11⟩⟩ := hs.out.env.box.load
      go_wp2_with fail
      refine (bidi_at x T d z _ hs.out.env.tab HAS.out hz).mono ?_
      rintro e w2 ⟨rfl, hb⟩
      replace hs := Lib.hid (hs.out.step hb)
      clear hb hck
      clear k0 k1 k2 k3 k4 k5 k6 k7 k8 k9 k10 k11
      by_cases hk0 : k = 0
      · have e0 : ((k : Int) == 0) = true := by simp [hk0]
        replace H1 : Hid ((fstM T (zs.take (k + 1)) : Int) = q) := by unfold Hid; rw [H1.out, if_pos hk0]
        clear hk0
        by_cases hm : z = 10
        · have em : (q != 1024) = false := by simp [H10b.out hm]
          replace H2 : Hid ((lstM T (zs.take (k + 1)) : Int) = b) := by unfold Hid; rw [H2.out, if_pos hm]
          clear hm H10 H10b
          obtain ⟨y0, y1, y2, y3, y4, y5, y6⟩ := hs.out.cur
          replace hs := Lib.hid (hs.out.set0 q)
          replace hs := Lib.hid (hs.out.set2 r)
          go_wp2
          go_roundw
          case rel => exact ⟨k + 1, q, b, r, by omega, by go_num, H1, H2, hr, hs⟩
          case measure => first | (simp [intOf]; done) | (simp [intOf]; omega)
        · have em : (q != 1024) = true := by simp [H10.out hm]
          replace H2 : Hid ((lstM T (zs.take (k + 1)) : Int) = q) := by unfold Hid; rw [H2.out, if_neg hm]
          clear hm H10 H10b
          obtain ⟨y0, y1, y2, y3, y4, y5, y6⟩ := hs.out.cur
          replace hs := Lib.hid (hs.out.set0 q)
          replace hs := Lib.hid (hs.out.set1 q)
          replace hs := Lib.hid (hs.out.set2 r)
          go_wp2
          go_roundw
          case rel => exact ⟨k + 1, q, q, r, by omega, by go_num, H1, H2, hr, hs⟩
          case measure => first | (simp [intOf]; done) | (simp [intOf]; omega)
      · have e0 : ((k : Int) == 0) = false := by simp; omega
        replace H1 : Hid ((fstM T (zs.take (k + 1)) : Int) = a) := by unfold Hid; rw [H1.out, if_neg hk0]
        have i0 : 0 < k := by omega
        clear hk0
        by_cases hm : z = 10
        · have em : (q != 1024) = false := by simp [H10b.out hm]
          replace H2 : Hid ((lstM T (zs.take (k + 1)) : Int) = b) := by unfold Hid; rw [H2.out, if_pos hm]
          clear hm H10 H10b
          obtain ⟨y0, y1, y2, y3, y4, y5, y6⟩ := hs.out.cur
          replace hs := Lib.hid (hs.out.set2 r)
          go_wp2
          go_roundw
          case rel => exact ⟨k + 1, a, b, r, by omega, by go_num, H1, H2, hr, hs⟩
          case measure => first | (simp [intOf]; done) | (simp [intOf]; omega)
        · have em : (q != 1024) = true := by simp [H10.out hm]
          replace H2 : Hid ((lstM T (zs.take (k + 1)) : Int) = q) := by unfold Hid; rw [H2.out, if_neg hm]
          clear hm H10 H10b
          obtain ⟨y0, y1, y2, y3, y4, y5, y6⟩ := hs.out.cur
          replace hs := Lib.hid (hs.out.set1 q)
          replace hs := Lib.hid (hs.out.set2 r)
          go_wp2
          go_roundw
          case rel => exact ⟨k + 1, a, q, r, by omega, by go_num, H1, H2, hr, hs⟩
          case measure => first | (simp [intOf]; done) | (simp [intOf]; omega)
    · obtain rfl : k = n := by omega
      have hnn : zs.length ≤ k := by rw [HN.out]; exact Nat.le_refl _
      obtain rfl : F = a := by rw [← hF.out, ← h1.out, List.take_of_length_le hnn]
      obtain rfl : L = b := by rw [← hL.out, ← h2.out, List.take_of_length_le hnn]
      obtain rfl : A = c := by rw [← hA.out, ← h3.out, List.take_of_length_le hnn]
      clear h1 h2 h3 hF hL hA hnn
      obtain ⟨y0, y1, y2, y3, y4, y5, y6⟩ := hs.out.cur
      have hrs := hs.out.res
      have x0 := cell_of_row wr (w.heap.size + 1) 0 _ _ (0, 0) hrs
      have x1 := cell_of_row wr (w.heap.size + 1) 1 _ _ (0, 0) hrs
      have x2 := cell_of_row wr (w.heap.size + 1) 2 _ _ (0, 0) hrs
      have x3 : wr.frozen? ⟨w.heap.size + 1, 0, none⟩ = false := by simp [World.frozen?, hrs]
      have x4 : wr.frozen? ⟨w.heap.size + 1, 1, none⟩ = false := by simp [World.frozen?, hrs]
      have x5 : wr.frozen? ⟨w.heap.size + 1, 2, none⟩ = false := by simp [World.frozen?, hrs]
      have HRS := Lib.hid hrs
      clear hrs
      simp only [List.getElem?_toArray, List.getElem?_cons_zero, List.getElem?_cons_succ] at x0 x1 x2
      go_wp2
      refine bodyPost_ret (results_cell_row rfl _ _ (w.heap.size + 1) _ _ _ _ rfl (row_threeU HRS.out) Tryz.underlying61 rfl (by kernel_rfl)) rfl ?_
      exact ⟨rfl, ((hs.out.env.bel.setCell (by simp) _).setCell (by simp) _).setCell (by simp) _⟩

set_option maxRecDepth 100000 in
set_option maxHeartbeats 4000000 in
theorem brt_at (R : Bool) (f l a : Nat) (F L A : Int) (w : World) (hf : f < 4096) (hl : l < 4096) (ha : a < 4096) (HF : Hid ((f : Int) = F)) (HL : Hid ((l : Int) = L)) (HA : Hid ((a : Int) = A)) (hR : Hid (decide (a &&& 14 ≠ 0) = R)) :
    Calls Tryz.prog 29 #[.agg #[.int .u64 F, .int .u64 L, .int .u64 A]] w (Gives (.bool R) w) := by
  obtain ⟨M1, hM1⟩ : ∃ M : Int, Hid (((a &&& 14 : Nat) : Int) = M) := ⟨_, rfl⟩
  have b1 : bits .and .u64 A 14 = M1 := (mask_at 14 ha HA (by omega)).trans hM1.out
  obtain rfl : R = (M1 != 0) := by
    rw [← hR.out, ← hM1.out, Bool.eq_iff_iff, decide_eq_true_iff, bne_iff_ne]; omega
  clear hR hM1
  go_enter Tryz.func29, Tryz.ntmps29
  go_wp2
  go_ret
  exact ⟨rfl, (Below.refl w.heap.size w).alloc (Nat.le_refl _) _⟩

set_option maxRecDepth 100000 in
set_option maxHeartbeats 4000000 in
theorem bvr_at (V : Int) (f l a : Nat) (F L A : Int) (w : World) (hf : f < 4096) (hl : l < 4096) (ha : a < 4096) (HF : Hid ((f : Int) = F)) (HL : Hid ((l : Int) = L)) (HA : Hid ((a : Int) = A)) (hV : Hid (vioR l a = V)) :
    Calls Tryz.prog 49 #[.agg #[.int .u64 F, .int .u64 L, .int .u64 A]] w (Gives (.int .i64 V) w) := by
  have hv := hV.out
  unfold vioR at hv
  obtain ⟨M1, hM1⟩ : ∃ M : Int, Hid (((a &&& 2049 : Nat) : Int) = M) := ⟨_, rfl⟩
  have b1 : bits .and .u64 A 2049 = M1 := (mask_at 2049 ha HA (by omega)).trans hM1.out
  have n1 : Hid (a &&& 2049 = 0 ↔ M1 = 0) := by unfold Hid; rw [← hM1.out]; omega
  clear hM1
  by_cases q1 : M1 ≠ 0
  · have e1 : (M1 != 0) = true := by simp [q1]
    rw [if_pos (fun h => q1 (n1.out.1 h))] at hv
    subst hv
    clear n1
    clear q1
    go_enter Tryz.func49, Tryz.ntmps49
    go_wp2
    go_ret
    exact ⟨rfl, (Below.refl w.heap.size w).alloc (Nat.le_refl _) _⟩
  · replace q1 : M1 = 0 := by omega
    have e1 : (M1 != 0) = false := by simp [q1]
    rw [if_neg (fun h => h (n1.out.2 q1))] at hv
    clear n1
    clear q1
    obtain ⟨M2, hM2⟩ : ∃ M : Int, Hid (((l &&& 30 : Nat) : Int) = M) := ⟨_, rfl⟩
    have b2 : bits .and .u64 L 30 = M2 := (mask_at 30 hl HL (by omega)).trans hM2.out
    have n2 : Hid (l &&& 30 = 0 ↔ M2 = 0) := by unfold Hid; rw [← hM2.out]; omega
    clear hM2
    by_cases q2 : M2 = 0
    · have e2 : (M2 == 0) = true := by simp [q2]
      rw [if_pos (n2.out.2 q2)] at hv
      subst hv
      clear n2
      clear q2
      go_enter Tryz.func49, Tryz.ntmps49
      go_wp2
      go_ret
      exact ⟨rfl, (Below.refl w.heap.size w).alloc (Nat.le_refl _) _⟩
    · have e2 : (M2 == 0) = false := by simp [q2]
      rw [if_neg (fun h => q2 (n2.out.1 h))] at hv
      clear n2
      clear q2
      obtain ⟨M3, hM3⟩ : ∃ M : Int, Hid (((a &&& 24 : Nat) : Int) = M) := ⟨_, rfl⟩
      have b3 : bits .and .u64 A 24 = M3 := (mask_at 24 ha HA (by omega)).trans hM3.out
      have n3 : Hid (a &&& 24 = 24 ↔ M3 = 24) := by unfold Hid; rw [← hM3.out]; omega
      clear hM3
      by_cases q3 : M3 = 24
      · have e3 : (M3 == 24) = true := by simp [q3]
        rw [if_pos (n3.out.2 q3)] at hv
        subst hv
        clear n3
        clear q3
        go_enter Tryz.func49, Tryz.ntmps49
        go_wp2
        go_ret
        exact ⟨rfl, (Below.refl w.heap.size w).alloc (Nat.le_refl _) _⟩
      · have e3 : (M3 == 24) = false := by simp [q3]
        rw [if_neg (fun h => q3 (n3.out.1 h))] at hv
        clear n3
        clear q3
        subst hv
        go_enter Tryz.func49, Tryz.ntmps49
        go_wp2
        go_ret
        exact ⟨rfl, (Below.refl w.heap.size w).alloc (Nat.le_refl _) _⟩

set_option maxRecDepth 100000 in
set_option maxHeartbeats 4000000 in
theorem bvl_at (V : Int) (f l a : Nat) (F L A : Int) (w : World) (hf : f < 4096) (hl : l < 4096) (ha : a < 4096) (HF : Hid ((f : Int) = F)) (HL : Hid ((l : Int) = L)) (HA : Hid ((a : Int) = A)) (hV : Hid (vioL l a = V)) :
    Calls Tryz.prog 50 #[.agg #[.int .u64 F, .int .u64 L, .int .u64 A]] w (Gives (.int .i64 V) w) := by
  have hv := hV.out
  unfold vioL at hv
  obtain ⟨M1, hM1⟩ : ∃ M : Int, Hid (((a &&& 2062 : Nat) : Int) = M) := ⟨_, rfl⟩
  have b1 : bits .and .u64 A 2062 = M1 := (mask_at 2062 ha HA (by omega)).trans hM1.out
  have n1 : Hid (a &&& 2062 = 0 ↔ M1 = 0) := by unfold Hid; rw [← hM1.out]; omega
  clear hM1
  by_cases q1 : M1 ≠ 0
  · have e1 : (M1 != 0) = true := by simp [q1]
    rw [if_pos (fun h => q1 (n1.out.1 h))] at hv
    subst hv
    clear n1
    clear q1
    go_enter Tryz.func50, Tryz.ntmps50
    go_wp2
    go_ret
    exact ⟨rfl, (Below.refl w.heap.size w).alloc (Nat.le_refl _) _⟩
  · replace q1 : M1 = 0 := by omega
    have e1 : (M1 != 0) = false := by simp [q1]
    rw [if_neg (fun h => h (n1.out.2 q1))] at hv
    clear n1
    clear q1
    obtain ⟨M2, hM2⟩ : ∃ M : Int, Hid (((l &&& 17 : Nat) : Int) = M) := ⟨_, rfl⟩
    have b2 : bits .and .u64 L 17 = M2 := (mask_at 17 hl HL (by omega)).trans hM2.out
    have n2 : Hid (l &&& 17 = 0 ↔ M2 = 0) := by unfold Hid; rw [← hM2.out]; omega
    clear hM2
    by_cases q2 : M2 = 0
    · have e2 : (M2 == 0) = true := by simp [q2]
      rw [if_pos (n2.out.2 q2)] at hv
      subst hv
      clear n2
      clear q2
      go_enter Tryz.func50, Tryz.ntmps50
      go_wp2
      go_ret
      exact ⟨rfl, (Below.refl w.heap.size w).alloc (Nat.le_refl _) _⟩
    · have e2 : (M2 == 0) = false := by simp [q2]
      rw [if_neg (fun h => q2 (n2.out.1 h))] at hv
      clear n2
      clear q2
      subst hv
      go_enter Tryz.func50, Tryz.ntmps50
      go_wp2
      go_ret
      exact ⟨rfl, (Below.refl w.heap.size w).alloc (Nat.le_refl _) _⟩

set_option maxRecDepth 100000 in
set_option maxHeartbeats 4000000 in
theorem bvi_at (V : Int) (f l a : Nat) (F L A : Int) (w : World) (hf : f < 4096) (hl : l < 4096) (ha : a < 4096) (HF : Hid ((f : Int) = F)) (HL : Hid ((l : Int) = L)) (HA : Hid ((a : Int) = A)) (hV : Hid (vioN f l a = V)) :
    Calls Tryz.prog 30 #[.agg #[.int .u64 F, .int .u64 L, .int .u64 A]] w (Gives (.int .i64 V) w) := by
  have hv := hV.out
  unfold vioN at hv
  by_cases q0 : A = 0
  · have e0 : (A == 0) = true := by simp [q0]
    rw [if_pos (by have := HA.out; omega)] at hv
    subst hv
    clear q0
    go_enter Tryz.func30, Tryz.ntmps30
    go_wp2
    go_ret
    exact ⟨rfl, (Below.refl w.heap.size w).alloc (Nat.le_refl _) _⟩
  · have e0 : (A == 0) = false := by simp [q0]
    rw [if_neg (by have := HA.out; omega)] at hv
    clear q0
    obtain ⟨M1, hM1⟩ : ∃ M : Int, Hid (((f &&& 6 : Nat) : Int) = M) := ⟨_, rfl⟩
    have b1 : bits .and .u64 F 6 = M1 := (mask_at 6 hf HF (by omega)).trans hM1.out
    obtain ⟨M2, hM2⟩ : ∃ M : Int, Hid (((f &&& 1 : Nat) : Int) = M) := ⟨_, rfl⟩
    have b2 : bits .and .u64 F 1 = M2 := (mask_at 1 hf HF (by omega)).trans hM2.out
    have n1 : Hid (f &&& 6 = 0 ↔ M1 = 0) := by unfold Hid; rw [← hM1.out]; omega
    have n2 : Hid (f &&& 1 = 0 ↔ M2 = 0) := by unfold Hid; rw [← hM2.out]; omega
    clear hM1 hM2
    by_cases q1 : M1 = 0
    · have e1 : (M1 != 0) = false := by simp [q1]
      rw [if_neg (fun h => h (n1.out.2 q1))] at hv
      clear q1 n1
      by_cases q2 : M2 = 0
      · have e2 : (M2 != 0) = false := by simp [q2]
        rw [if_neg (fun h => h (n2.out.2 q2))] at hv
        subst hv
        clear q2 n2
        go_enter Tryz.func30, Tryz.ntmps30
        go_wp2
        go_ret
        exact ⟨rfl, (Below.refl w.heap.size w).alloc (Nat.le_refl _) _⟩
      · have e2 : (M2 != 0) = true := by simp [q2]
        rw [if_pos (fun h => q2 (n2.out.1 h))] at hv
        replace hV := Lib.hid hv
        clear q2 n2 hv
        go_enter Tryz.func30, Tryz.ntmps30
        go_wp2_with fail
        refine (bvl_at V f l a F L A _ hf hl ha HF HL HA hV).mono ?_
        rintro e w2 ⟨rfl, hb⟩
        have HB := Lib.hid (((Below.refl w.heap.size w).alloc (Nat.le_refl _) (.cells #[.int .u64 F, .int .u64 L, .int .u64 A] 61)).trans (hb.mono (by simp)))
        clear hb
        go_wp2
        go_ret
        exact ⟨rfl, HB.out⟩
    · have e1 : (M1 != 0) = true := by simp [q1]
      rw [if_pos (fun h => q1 (n1.out.1 h))] at hv
      replace hV := Lib.hid hv
      clear q1 n1 hv n2
      go_enter Tryz.func30, Tryz.ntmps30
      go_wp2_with fail
      refine (bvr_at V f l a F L A _ hf hl ha HF HL HA hV).mono ?_
      rintro e w2 ⟨rfl, hb⟩
      have HB := Lib.hid (((Below.refl w.heap.size w).alloc (Nat.le_refl _) (.cells #[.int .u64 F, .int .u64 L, .int .u64 A] 61)).trans (hb.mono (by simp)))
      clear hb
      go_wp2
      go_ret
      exact ⟨rfl, HB.out⟩

end Go.Proofs.YtiafhifbgdkgaaaGreatDoor

namespace Go.Proofs.YtiafhifbgdkgaaaGreatDoor
open Go.RowKit
set_option linter.unusedVariables false

theorem rulR_ok {T : Tb} {l : List Int} (h : accE T l = 0) : rulR T l = (ruleT T l, 0) := by unfold rulR; rw [if_neg (by omega)]
theorem domR_tab {T : Tb} {L : List (List Int)} (h : checkT T ≠ 0) (hn : 0 < L.length) : domR T L = (0, 2) := by
  have ha : ∀ l, accE T l = 2 := fun l => by unfold accE; rw [if_pos h]
  have := domR_ref (T := T) (L := L) (i := 0) hn (fun j hj => by omega) (by rw [ha]; decide)
  rw [this, ha]; rfl
/-- The first label before k that violates a condition, -1 for none. -/
def vioK (T : Tb) (L : List (List Int)) (k : Nat) (V : Int) : Prop := (V = -1 ∧ ∀ j, j < k → ruleT T (L.getD j []) = 0) ∨ ∃ i, i < k ∧ V = (i : Int) ∧ (∀ j, j < i → ruleT T (L.getD j []) = 0) ∧ ruleT T (L.getD i []) ≠ 0
theorem vioK_zero (T : Tb) (L : List (List Int)) : vioK T L 0 (-1) := .inl ⟨rfl, fun j hj => by omega⟩
theorem vioK_ok {T : Tb} {L : List (List Int)} {k : Nat} {V : Int} (h : vioK T L k V) (h0 : ruleT T (L.getD k []) = 0) : vioK T L (k + 1) V := by
  rcases h with ⟨h1, h2⟩ | ⟨i, h1, h2, h3, h4⟩
  · refine .inl ⟨h1, fun j hj => ?_⟩
    by_cases e : j = k
    · rw [e]; exact h0
    · exact h2 j (by omega)
  · exact .inr ⟨i, by omega, h2, h3, h4⟩
theorem vioK_had {T : Tb} {L : List (List Int)} {k : Nat} {V : Int} (h : vioK T L k V) (h0 : V ≠ -1) : vioK T L (k + 1) V := by
  rcases h with ⟨h1, h2⟩ | ⟨i, h1, h2, h3, h4⟩
  · exact absurd h1 h0
  · exact .inr ⟨i, by omega, h2, h3, h4⟩
theorem vioK_new {T : Tb} {L : List (List Int)} {k : Nat} {V : Int} (h : vioK T L k V) (hV : V = -1) (h0 : ruleT T (L.getD k []) ≠ 0) : vioK T L (k + 1) (k : Int) := by
  rcases h with ⟨h1, h2⟩ | ⟨i, h1, h2, h3, h4⟩
  · exact .inr ⟨k, by omega, rfl, h2, h0⟩
  · omega
theorem dom_end {T : Tb} {L : List (List Int)} {V : Int} (hg : ∀ l ∈ L, accE T l = 0) (h : vioK T L L.length V) : domR T L = if L.any (rtlT T) = true ∧ V ≠ -1 then (V, 19) else (0, 0) := by
  cases hr : L.any (rtlT T) with
  | false => rw [if_neg (fun h => by cases h.1)]; exact domR_no hg hr
  | true =>
    rcases h with ⟨h1, h2⟩ | ⟨i, h1, h2, h3, h4⟩
    · rw [if_neg (fun h => h.2 h1)]
      refine domR_ok hg fun l hl => ?_
      obtain ⟨j, hj, e⟩ := memL_getD L l hl
      rw [← e]; exact h2 j hj
    · rw [if_pos ⟨rfl, by omega⟩, h2]
      exact domR_vio hg hr h1 h3 h4
theorem anyl_stepP (q : List Int → Bool) (L : List (List Int)) (k : Nat) (h : k < L.length) : (L.take (k + 1)).any q = ((L.take k).any q || q (L.getD k [])) := by
  rw [List.take_succ_eq_append_getElem h, List.any_append]; simp [h]

theorem bref_at (x : TV) (T : Tb) (p : Option Addr) (cap : Nat) (zs : List Int) (E : Int) (w : World) (hx : TabV w x T) (hr : Rsv w) (hin : IntsIn w p zs) (hl : zs.length ≤ 17592186043904) (hE : Hid (accE T zs = E)) :
    Calls Tryz.prog 27 #[x.agg, .slice p zs.length cap] w (Gives (.int .i64 E) w) := by
  obtain ⟨RL, hRL⟩ : ∃ L, Hid (runsL T zs = L) := ⟨_, rfl⟩
  have hac := fun W (h1 : TabV W x T) h2 h3 => runs_at x T p cap zs E RL W h1 h2 h3 hl hE hRL
  have HR := Lib.hid hr
  have HE := Lib.hid (Env.new hx)
  have HI := Lib.hid hin
  obtain ⟨n, hn⟩ : ∃ n, zs.length = n := ⟨_, rfl⟩
  rw [hn] at hl hac ⊢
  have HAC := Lib.hid hac
  clear hx hin hn hr hac
  simp only [TV.agg]
  go_enter Tryz.func27, Tryz.ntmps27
  obtain ⟨⟨k0, k1, k2, k3, k4, k5⟩, ⟨k6, k7, k8, k9, k10, k11⟩⟩ := HE.out.box.load
  go_wp2_with fail
  refine (HAC.out _ HE.out.tab (HR.out.below HE.out.bel) (HI.out.below HE.out.bel)).mono ?_
  rintro e w1 ⟨v0, rfl, _, hb1⟩
  replace HE := Lib.hid (HE.out.step hb1)
  clear hb1 k0 k1 k2 k3 k4 k5 k6 k7 k8 k9 k10 k11
  go_wp2
  go_ret
  exact ⟨rfl, HE.out.bel⟩

set_option maxRecDepth 100000 in
set_option maxHeartbeats 4000000 in
theorem brtl_at (x : TV) (T : Tb) (p : Option Addr) (cap : Nat) (zs : List Int) (B : Bool) (w : World) (hx : TabV w x T) (hr : Rsv w) (hin : IntsIn w p zs) (hl : zs.length ≤ 17592186043904) (hB : Hid (rtlR T zs = B)) :
    Calls Tryz.prog 23 #[x.agg, .slice p zs.length cap] w (Gives (.bool B) w) := by
  obtain ⟨A, hA⟩ : ∃ A, Hid (accE T zs = A) := ⟨_, rfl⟩
  have HE := Lib.hid (Env.new hx)
  have HI := Lib.hid hin
  have HR := Lib.hid hr
  have hac := fun W (h1 : TabV W x T) h2 h3 => bref_at x T p cap zs A W h1 h2 h3 hl hA
  obtain ⟨n, hn⟩ : ∃ n, zs.length = n := ⟨_, rfl⟩
  rw [hn] at hl hac ⊢
  have HN := Lib.hid hn
  have HAC := Lib.hid hac
  clear hx hin hn hr hac
  simp only [TV.agg]
  go_enter Tryz.func23, Tryz.ntmps23
  obtain ⟨⟨k0, k1, k2, k3, k4, k5⟩, ⟨k6, k7, k8, k9, k10, k11⟩⟩ := HE.out.box.load
  go_wp2_with fail
  refine (HAC.out _ HE.out.tab (HR.out.below HE.out.bel) (HI.out.below HE.out.bel)).mono ?_
  rintro e w1 ⟨rfl, hb1⟩
  replace HE := Lib.hid (HE.out.step hb1)
  clear hb1
  clear k0 k1 k2 k3 k4 k5 k6 k7 k8 k9 k10 k11
  by_cases h0 : A = 0
  · subst h0
    obtain ⟨f, hf⟩ : ∃ f : Nat, fstM T zs = f := ⟨_, rfl⟩
    obtain ⟨l, hll⟩ : ∃ f : Nat, lstM T zs = f := ⟨_, rfl⟩
    obtain ⟨a, ha⟩ : ∃ f : Nat, clsM T zs = f := ⟨_, rfl⟩
    obtain ⟨F, hF⟩ : ∃ F : Int, Hid ((f : Int) = F) := ⟨_, rfl⟩
    obtain ⟨L, hL⟩ : ∃ F : Int, Hid ((l : Int) = F) := ⟨_, rfl⟩
    obtain ⟨X, hX⟩ : ∃ F : Int, Hid ((a : Int) = F) := ⟨_, rfl⟩
    have hC : checkT T = 0 := (accE_ok hA.out).1
    have hfb : f < 4096 := by rw [← hf]; exact fstM_lt hC zs
    have hlb : l < 4096 := by rw [← hll]; exact lstM_lt hC zs
    have hab : a < 4096 := by rw [← ha]; exact clsM_lt hC zs
    have hof : Hid ((fstM T zs : Int) = F) := by unfold Hid; rw [hf]; exact hF.out
    have hol : Hid ((lstM T zs : Int) = L) := by unfold Hid; rw [hll]; exact hL.out
    have hoa : Hid ((clsM T zs : Int) = X) := by unfold Hid; rw [ha]; exact hX.out
    have hBB : Hid (decide (a &&& 14 ≠ 0) = B) := by unfold Hid; rw [← ha, rtlM_ok hC zs, ← hB.out]; unfold rtlR; rw [decide_eq_true hA.out, Bool.true_and]
    clear hf hll ha hB
    obtain ⟨⟨k0, k1, k2, k3, k4, k5⟩, ⟨k6, k7, k8, k9, k10, k11⟩⟩ := HE.out.box.load
    go_wp2_with fail
    refine (bout_at x T p n cap zs F L X _ HE.out.tab hC (HI.out.below HE.out.bel) HN hl hof hol hoa).mono ?_
    rintro e w2 ⟨rfl, hb⟩
    replace HE := Lib.hid (HE.out.step hb)
    clear hb
    clear k0 k1 k2 k3 k4 k5 k6 k7 k8 k9 k10 k11
    go_wp2_with fail
    refine (brt_at B f l a F L X _ hfb hlb hab hF hL hX hBB).mono ?_
    rintro e w3 ⟨rfl, hb⟩
    replace HE := Lib.hid (HE.out.step hb)
    clear hb
    go_wp2
    go_ret
    exact ⟨rfl, HE.out.bel⟩
  · have d0 : (A == 0) = false := by simp [h0]
    obtain rfl : B = false := by rw [← hB.out]; unfold rtlR; rw [decide_eq_false (fun h => h0 (hA.out.symm.trans h))]; rfl
    clear h0 hB hA
    go_wp2
    go_ret
    exact ⟨rfl, HE.out.bel⟩

set_option maxRecDepth 100000 in
set_option maxHeartbeats 4000000 in
theorem brule_at (x : TV) (T : Tb) (p : Option Addr) (cap : Nat) (zs : List Int) (K E : Int) (w : World) (hx : TabV w x T) (hr : Rsv w) (hin : IntsIn w p zs) (hl : zs.length ≤ 17592186043904) (hR : Hid (rulR T zs = (K, E))) :
    Calls Tryz.prog 22 #[x.agg, .slice p zs.length cap] w (Gives (.tuple #[.int .i64 K, .int .i64 E]) w) := by
  obtain ⟨A, hA⟩ : ∃ A, Hid (accE T zs = A) := ⟨_, rfl⟩
  have HE := Lib.hid (Env.new hx)
  have HI := Lib.hid hin
  have HR := Lib.hid hr
  have hac := fun W (h1 : TabV W x T) h2 h3 => bref_at x T p cap zs A W h1 h2 h3 hl hA
  obtain ⟨n, hn⟩ : ∃ n, zs.length = n := ⟨_, rfl⟩
  rw [hn] at hl hac ⊢
  have HN := Lib.hid hn
  have HAC := Lib.hid hac
  clear hx hin hn hr hac
  simp only [TV.agg]
  go_enter Tryz.func22, Tryz.ntmps22
  obtain ⟨⟨k0, k1, k2, k3, k4, k5⟩, ⟨k6, k7, k8, k9, k10, k11⟩⟩ := HE.out.box.load
  go_wp2_with fail
  refine (HAC.out _ HE.out.tab (HR.out.below HE.out.bel) (HI.out.below HE.out.bel)).mono ?_
  rintro e w1 ⟨rfl, hb1⟩
  replace HE := Lib.hid (HE.out.step hb1)
  clear hb1
  clear k0 k1 k2 k3 k4 k5 k6 k7 k8 k9 k10 k11
  by_cases h0 : A = 0
  · subst h0
    have hR2 := hR.out
    rw [rulR_ok hA.out] at hR2
    injection hR2 with e1 e2
    subst e2
    obtain ⟨f, hf⟩ : ∃ f : Nat, fstM T zs = f := ⟨_, rfl⟩
    obtain ⟨l, hll⟩ : ∃ f : Nat, lstM T zs = f := ⟨_, rfl⟩
    obtain ⟨a, ha⟩ : ∃ f : Nat, clsM T zs = f := ⟨_, rfl⟩
    obtain ⟨F, hF⟩ : ∃ F : Int, Hid ((f : Int) = F) := ⟨_, rfl⟩
    obtain ⟨L, hL⟩ : ∃ F : Int, Hid ((l : Int) = F) := ⟨_, rfl⟩
    obtain ⟨X, hX⟩ : ∃ F : Int, Hid ((a : Int) = F) := ⟨_, rfl⟩
    have hC : checkT T = 0 := (accE_ok hA.out).1
    have hfb : f < 4096 := by rw [← hf]; exact fstM_lt hC zs
    have hlb : l < 4096 := by rw [← hll]; exact lstM_lt hC zs
    have hab : a < 4096 := by rw [← ha]; exact clsM_lt hC zs
    have hof : Hid ((fstM T zs : Int) = F) := by unfold Hid; rw [hf]; exact hF.out
    have hol : Hid ((lstM T zs : Int) = L) := by unfold Hid; rw [hll]; exact hL.out
    have hoa : Hid ((clsM T zs : Int) = X) := by unfold Hid; rw [ha]; exact hX.out
    have hV : Hid (vioN f l a = K) := by unfold Hid; rw [← hf, ← hll, ← ha, vio_ok hC zs]; exact e1
    clear hf hll ha e1 hR
    obtain ⟨⟨k0, k1, k2, k3, k4, k5⟩, ⟨k6, k7, k8, k9, k10, k11⟩⟩ := HE.out.box.load
    go_wp2_with fail
    refine (bout_at x T p n cap zs F L X _ HE.out.tab hC (HI.out.below HE.out.bel) HN hl hof hol hoa).mono ?_
    rintro e w2 ⟨rfl, hb⟩
    replace HE := Lib.hid (HE.out.step hb)
    clear hb
    clear k0 k1 k2 k3 k4 k5 k6 k7 k8 k9 k10 k11
    go_wp2_with fail
    refine (bvi_at K f l a F L X _ hfb hlb hab hF hL hX hV).mono ?_
    rintro e w3 ⟨rfl, hb⟩
    replace HE := Lib.hid (HE.out.step hb)
    clear hb
    go_wp2
    go_ret2
    exact ⟨rfl, HE.out.bel⟩
  · have d0 : (A != 0) = true := by simp [h0]
    have hR2 := hR.out
    unfold rulR at hR2
    rw [if_pos (by rw [hA.out]; exact h0), hA.out] at hR2
    injection hR2 with e1 e2
    subst e1
    subst e2
    clear h0 hR
    go_wp2
    go_ret2
    exact ⟨rfl, HE.out.bel⟩

set_option maxRecDepth 100000 in
set_option maxHeartbeats 4000000 in
theorem bdom_at (x : TV) (T : Tb) (p : Option Addr) (n cap : Nat) (L : List (List Int)) (K E : Int) (w : World) (hx : TabV w x T) (hr : Rsv w) (hin : LsIn w p L) (HN : Hid (L.length = n)) (hl : 0 < n ∧ n ≤ 17592186043904) (hll : ∀ l ∈ L, l.length ≤ 17592186043904) (hR : Hid (domR T L = (K, E))) :
    Calls Tryz.prog 10 #[x.agg, .slice p n cap] w (Gives (.tuple #[.int .i64 K, .int .i64 E]) w) := by
  obtain ⟨C, hC⟩ : ∃ C, Hid (checkT T = C) := ⟨_, rfl⟩
  have HE := Lib.hid (Env.new hx)
  have HI := Lib.hid hin
  have HLL := Lib.hid hll
  have HR := Lib.hid hr
  obtain ⟨hn0, hl⟩ := hl
  clear hx hin hll hr
  simp only [TV.agg]
  go_enter Tryz.func10, Tryz.ntmps10
  obtain ⟨⟨k0, k1, k2, k3, k4, k5⟩, ⟨k6, k7, k8, k9, k10, k11⟩⟩ := HE.out.box.load
  go_wp2_with fail
  refine (check_tab_at x T C _ HE.out.tab (HR.out.below HE.out.bel) hC).mono ?_
  rintro e w1 ⟨rfl, hb1⟩
  replace HE := Lib.hid (HE.out.step hb1)
  clear hb1
  clear k0 k1 k2 k3 k4 k5 k6 k7 k8 k9 k10 k11
  by_cases hc0 : C = 0
  · have dc : (C != 0) = false := by simp [hc0]
    have HC : Hid (checkT T = 0) := by unfold Hid; rw [hC.out, hc0]
    clear hc0
    go_wp2
    go_loopw [6, 7, 17] (fun v u i wr => ∃ k : Nat, ∃ G : Bool, ∃ V : Int, k ≤ n ∧ i = .int .i64 k ∧ v = .bool G ∧ u = .int .i64 V ∧ Hid ((L.take k).any (rtlT T) = G) ∧ Hid (vioK T L k V) ∧ Hid (∀ j, j < k → accE T (L.getD j []) = 0) ∧ Hid (Env w x T wr)) (fun _ _ i _ => n - (intOf i).toNat)
    case atStart => exact ⟨0, false, -1, Nat.zero_le _, rfl, rfl, rfl, Lib.hid rfl, Lib.hid (vioK_zero T L), fun j hj => by omega, HE⟩
    case round =>
      obtain ⟨k, G, V, hk, rfl, rfl, rfl, hG, hV, hgd, he⟩ := hrel
      by_cases hlt : k < n
      · have hkl : k < L.length := by rw [HN.out]; exact hlt
        obtain ⟨b, off, q, c, rfl, hck, _, hi⟩ := (HI.out.below he.out.bel) k hkl
        obtain ⟨zs, hzs⟩ : ∃ l, L.getD k [] = l := ⟨_, rfl⟩
        have HST := Lib.hid (anyl_stepP (rtlT T) L k hkl)
        have HML : Hid (zs.length ≤ 17592186043904) := by unfold Hid; rw [← hzs]; exact HLL.out _ (getD_memL L k hkl)
        rw [hzs] at hck hi HST
        have HQ := Lib.hid hi
        obtain ⟨A, hA⟩ : ∃ A, Hid (accE T zs = A) := ⟨_, rfl⟩
        have HLK := Lib.hid hzs
        rw [hG.out] at HST
        have hac := fun W (h1 : TabV W x T) h2 h3 => bref_at x T q c zs A W h1 h2 h3 HML.out hA
        obtain ⟨m, hm⟩ : ∃ m, zs.length = m := ⟨_, rfl⟩
        have hml := HML.out
        rw [hm] at hac hck hml
        have HM := Lib.hid hm
        have HAC := Lib.hid hac
        clear hzs hi hac hm
        obtain ⟨⟨k0, k1, k2, k3, k4, k5⟩, ⟨k6, k7, k8, k9, k10, k11⟩⟩ := he.out.box.load
        go_wp2_with fail
        refine (HAC.out _ he.out.tab (HR.out.below he.out.bel) HQ.out).mono ?_
        rintro e w2 ⟨rfl, hb⟩
        replace he := Lib.hid (he.out.step hb)
        replace HQ := Lib.hid (HQ.out.below hb)
        clear hb hck
        clear k0 k1 k2 k3 k4 k5 k6 k7 k8 k9 k10 k11
        by_cases h0 : A = 0
        · subst h0
          have hgd2 : Hid (∀ j, j < k + 1 → accE T (L.getD j []) = 0) := fun j hj => by
            by_cases e : j = k
            · rw [e, HLK.out]; exact hA.out
            · exact hgd.out j (by omega)
          obtain ⟨f, hf⟩ : ∃ f : Nat, fstM T zs = f := ⟨_, rfl⟩
          obtain ⟨l, hll⟩ : ∃ f : Nat, lstM T zs = f := ⟨_, rfl⟩
          obtain ⟨a, ha⟩ : ∃ f : Nat, clsM T zs = f := ⟨_, rfl⟩
          obtain ⟨F, hF⟩ : ∃ F : Int, Hid ((f : Int) = F) := ⟨_, rfl⟩
          obtain ⟨Y, hY⟩ : ∃ F : Int, Hid ((l : Int) = F) := ⟨_, rfl⟩
          obtain ⟨X, hX⟩ : ∃ F : Int, Hid ((a : Int) = F) := ⟨_, rfl⟩
          have hCC : checkT T = 0 := (accE_ok hA.out).1
          have hfb : f < 4096 := by rw [← hf]; exact fstM_lt hCC zs
          have hlb : l < 4096 := by rw [← hll]; exact lstM_lt hCC zs
          have hab : a < 4096 := by rw [← ha]; exact clsM_lt hCC zs
          have hof : Hid ((fstM T zs : Int) = F) := by unfold Hid; rw [hf]; exact hF.out
          have hol : Hid ((lstM T zs : Int) = Y) := by unfold Hid; rw [hll]; exact hY.out
          have hoa : Hid ((clsM T zs : Int) = X) := by unfold Hid; rw [ha]; exact hX.out
          obtain ⟨R, hR1⟩ : ∃ R, Hid (decide (a &&& 14 ≠ 0) = R) := ⟨_, rfl⟩
          obtain ⟨U, hU⟩ : ∃ U, Hid (vioN f l a = U) := ⟨_, rfl⟩
          have hUR : Hid (ruleT T (L.getD k []) = U) := by unfold Hid; rw [HLK.out, ← hU.out, ← hf, ← hll, ← ha, vio_ok hCC zs]
          have hRT : Hid (rtlT T zs = R) := by unfold Hid; rw [← rtlM_ok hCC zs, ← hR1.out, ← ha]
          rw [hRT.out] at HST
          clear hf hll ha hkl
          obtain ⟨⟨k0, k1, k2, k3, k4, k5⟩, ⟨k6, k7, k8, k9, k10, k11⟩⟩ := he.out.box.load
          go_wp2_with fail
          refine (bout_at x T q m c zs F Y X _ he.out.tab HC.out HQ.out HM hml hof hol hoa).mono ?_
          rintro e w3 ⟨rfl, hb⟩
          replace he := Lib.hid (he.out.step hb)
          clear hb
          clear k0 k1 k2 k3 k4 k5 k6 k7 k8 k9 k10 k11
          have hc := CurU.new w3 F Y X 61
          obtain ⟨z0, z1, z2, z3, z4, z5, z6⟩ := CurU.new w3 0 0 0 61
          go_upto_region 11 with (fail)
          clear z0 z1 z2 z3 z4 z5 z6
          have hb0 : Below w3.heap.size w3 (w3.alloc (.cells #[.int .u64 F, .int .u64 Y, .int .u64 X] 61)) := (Below.refl _ _).alloc (Nat.le_refl _) _
          replace he := Lib.hid (he.out.step hb0)
          have HCU := Lib.hid hc
          clear hb0 hc
          generalize (w3.alloc (.cells #[.int .u64 F, .int .u64 Y, .int .u64 X] 61)) = W4 at he HCU ⊢
          generalize w3.heap.size = gb at HCU ⊢
          cases G with
          | true =>
            rw [Bool.true_or] at HST
            by_cases hv : V = -1
            · have ev : (V == -1) = true := by simp [hv]
              replace hv := Lib.hid hv
              obtain ⟨y0, y1, y2, y3, y4, y5, y6⟩ := HCU.out
              go_wp2_with fail
              refine (bvi_at U f l a F Y X _ hfb hlb hab hF hY hX hU).mono ?_
              rintro e w5 ⟨rfl, hb⟩
              replace he := Lib.hid (he.out.step hb)
              replace HCU := Lib.hid (HCU.out.below hb)
              clear hb
              clear y0 y1 y2 y3 y4 y5 y6
              by_cases hu : U = 0
              · have eu : (U != 0) = false := by simp [hu]
                have hV2 : Hid (vioK T L (k + 1) V) := vioK_ok hV.out (by rw [hUR.out]; exact hu)
                clear hu hv
                go_wp2
                go_roundw
                case rel => exact ⟨k + 1, true, V, by omega, by go_num, rfl, rfl, HST, hV2, hgd2, he⟩
                case measure => first | (simp [intOf]; done) | (simp [intOf]; omega)
              · have eu : (U != 0) = true := by simp [hu]
                have hV2 : Hid (vioK T L (k + 1) (k : Int)) := vioK_new hV.out hv.out (by rw [hUR.out]; exact hu)
                clear hu hv
                go_wp2
                go_roundw
                case rel => exact ⟨k + 1, true, (k : Int), by omega, by go_num, rfl, rfl, HST, hV2, hgd2, he⟩
                case measure => first | (simp [intOf]; done) | (simp [intOf]; omega)
            · have ev : (V == -1) = false := by simp [hv]
              have hV2 : Hid (vioK T L (k + 1) V) := vioK_had hV.out hv
              clear hv
              go_wp2
              go_roundw
              case rel => exact ⟨k + 1, true, V, by omega, by go_num, rfl, rfl, HST, hV2, hgd2, he⟩
              case measure => first | (simp [intOf]; done) | (simp [intOf]; omega)
          | false =>
            rw [Bool.false_or] at HST
            obtain ⟨y0, y1, y2, y3, y4, y5, y6⟩ := HCU.out
            go_wp2_with fail
            refine (brt_at R f l a F Y X _ hfb hlb hab hF hY hX hR1).mono ?_
            rintro e w6 ⟨rfl, hb⟩
            replace he := Lib.hid (he.out.step hb)
            replace HCU := Lib.hid (HCU.out.below hb)
            clear hb
            clear y0 y1 y2 y3 y4 y5 y6
            by_cases hv : V = -1
            · have ev : (V == -1) = true := by simp [hv]
              replace hv := Lib.hid hv
              obtain ⟨y0, y1, y2, y3, y4, y5, y6⟩ := HCU.out
              go_wp2_with fail
              refine (bvi_at U f l a F Y X _ hfb hlb hab hF hY hX hU).mono ?_
              rintro e w5 ⟨rfl, hb⟩
              replace he := Lib.hid (he.out.step hb)
              replace HCU := Lib.hid (HCU.out.below hb)
              clear hb
              clear y0 y1 y2 y3 y4 y5 y6
              by_cases hu : U = 0
              · have eu : (U != 0) = false := by simp [hu]
                have hV2 : Hid (vioK T L (k + 1) V) := vioK_ok hV.out (by rw [hUR.out]; exact hu)
                clear hu hv
                go_wp2
                go_roundw
                case rel => exact ⟨k + 1, R, V, by omega, by go_num, rfl, rfl, HST, hV2, hgd2, he⟩
                case measure => first | (simp [intOf]; done) | (simp [intOf]; omega)
              · have eu : (U != 0) = true := by simp [hu]
                have hV2 : Hid (vioK T L (k + 1) (k : Int)) := vioK_new hV.out hv.out (by rw [hUR.out]; exact hu)
                clear hu hv
                go_wp2
                go_roundw
                case rel => exact ⟨k + 1, R, (k : Int), by omega, by go_num, rfl, rfl, HST, hV2, hgd2, he⟩
                case measure => first | (simp [intOf]; done) | (simp [intOf]; omega)
            · have ev : (V == -1) = false := by simp [hv]
              have hV2 : Hid (vioK T L (k + 1) V) := vioK_had hV.out hv
              clear hv
              go_wp2
              go_roundw
              case rel => exact ⟨k + 1, R, V, by omega, by go_num, rfl, rfl, HST, hV2, hgd2, he⟩
              case measure => first | (simp [intOf]; done) | (simp [intOf]; omega)
        · have d0 : (A != 0) = true := by simp [h0]
          have hR2 := hR.out
          rw [domR_ref hkl hgd.out (by rw [HLK.out, hA.out]; exact h0), HLK.out, hA.out] at hR2
          injection hR2 with e1 e2
          subst e1
          subst e2
          clear h0 hkl
          go_wp2
          go_ret2
          exact ⟨rfl, he.out.bel⟩
      · obtain rfl : k = n := by omega
        have HGA : Hid (∀ l ∈ L, accE T l = 0) := fun l hl => by
          obtain ⟨j, hj, e⟩ := memL_getD L l hl
          rw [← e]; exact hgd.out j (by rw [HN.out] at hj; exact hj)
        have hGL : L.any (rtlT T) = G := by rw [← hG.out, List.take_of_length_le (by rw [HN.out]; exact Nat.le_refl _)]
        have hR2 := hR.out
        rw [dom_end HGA.out (by rw [HN.out]; exact hV.out), hGL] at hR2
        clear hG hGL hgd hn0
        cases G with
        | false =>
          rw [if_neg (fun h => by cases h.1)] at hR2
          injection hR2 with e1 e2
          subst e1
          subst e2
          go_wp2
          go_ret2
          exact ⟨rfl, he.out.bel⟩
        | true =>
          by_cases hv : V = -1
          · have ev : (V == -1) = true := by simp [hv]
            rw [if_neg (fun h => h.2 hv)] at hR2
            injection hR2 with e1 e2
            subst e1
            subst e2
            clear hv
            go_wp2
            go_ret2
            exact ⟨rfl, he.out.bel⟩
          · have ev : (V == -1) = false := by simp [hv]
            rw [if_pos ⟨rfl, hv⟩] at hR2
            injection hR2 with e1 e2
            subst e1
            subst e2
            clear hv
            go_wp2
            go_ret2
            exact ⟨rfl, he.out.bel⟩
  · have dc : (C != 0) = true := by simp [hc0]
    have hR2 := hR.out
    rw [domR_tab (by rw [hC.out]; exact hc0) (by rw [HN.out]; exact hn0)] at hR2
    injection hR2 with e1 e2
    subst e1
    subst e2
    clear hc0
    go_wp2
    go_ret2
    exact ⟨rfl, HE.out.bel⟩

end Go.Proofs.YtiafhifbgdkgaaaGreatDoor

namespace Go.Proofs.YtiafhifbgdkgaaaGreatDoor
open Go.RowKit
set_option linter.unusedVariables false

theorem bo_one (w : World) (c : Int) : IntsIn (w.alloc (.cells #[.int .i64 c] 3)) (some ⟨w.heap.size, 0, none⟩) [c] := by
  intro k hk
  have : k = 0 := by simp at hk; exact hk
  subst this
  exact ⟨_, _, rfl, by simp [World.cell?_alloc_new]⟩
theorem bo_drop (l : List Int) (k : Nat) (h : k < l.length) : l.drop k = l.getD k 0 :: l.drop (k + 1) := by rw [List.drop_eq_getElem_cons h]; simp [h]
def boP : List Int := [97, 49, 45, 46, 32, 33, 1488, 1576, 1632, 1776, 769, 173, 183, 1488]
theorem boP_sca : ∀ q, q < 14 → scaB (boP.getD q 0) = true := by decide +kernel
theorem bo_next (g : Nat) (r : List Int) (n v : Int) (w : World) (hs : Src w g r) (h0 : 1 ≤ n) (h1 : n ≤ 1073741824) (hv : Hid (nextV r n = v)) :
    Calls Tryz.prog 14 #[.pointer (some ⟨g, 0, none⟩), .int .i64 n] w fun e w' => e = .returned (.int .i64 v) ∧ Src w' g r.tail ∧ w.grownBy w' (some g) := next_at g r n v w hs h0 h1 hv

set_option maxHeartbeats 2000000 in
theorem mixed_any (p : Option Addr) (cap : Nat) (zs : List Int) (w : World) (hin : IntsIn w p zs) (hl : zs.length ≤ 17592186043904) :
    Calls Tryz.prog 8 #[.slice p zs.length cap] w (PointsPost w) := by
  have HI := Lib.hid hin
  clear hin
  obtain ⟨v0, v1⟩ := nextV_bd zs 7 (by omega)
  obtain ⟨n, hn⟩ : ∃ n : Nat, nextV zs 7 = n := ⟨(nextV zs 7).toNat, by omega⟩
  have hn10 : n ≤ 6 := by omega
  have HN := Lib.hid hn
  clear v0 v1 hn
  go_enter Tryz.func8, Tryz.ntmps8
  go_wp2_with fail
  refine (from_any p cap zs _ HI.out hl).mono ?_
  rintro e w1 ⟨g, rfl, hg, hs1, hb1⟩
  have HS1 := Lib.hid hs1
  have HB1 := Lib.hid hb1
  clear hs1 hb1
  go_wp2_with fail
  refine (bo_next g zs 7 n _ HS1.out (by omega) (by omega) HN).mono ?_
  rintro e w2 ⟨rfl, hs2, hg2⟩
  have hb2 : Below w.heap.size w w2 := HB1.out.grown hg2 HB1.out.size (by intro k e; cases e; exact hg)
  have HS2 := Lib.hid hs2
  have HB2 := Lib.hid hb2
  clear hs2 hb2 hg2
  go_wp2
  go_loopw [4, 5] (fun v m wr => ∃ k : Nat, ∃ xs : List Int, ∃ r : List Int, k ≤ 6 ∧ m = .int .i64 k ∧ xs.length + k ≤ 6 ∧ Hid (xs.all scaB = true) ∧ Hid (Src wr g r) ∧ Hid (Ints wr (g + 1) v xs) ∧ Hid (Below w.heap.size w wr)) (fun _ m _ => (intOf m).toNat)
  case atStart => exact ⟨n, [], zs.tail, hn10, rfl, by simp; omega, rfl, HS2, Ints.nil _ _, HB2⟩
  case round =>
    obtain ⟨k, xs, r, hk, rfl, hxk, ha, hs, hown, hbel⟩ := hrel
    by_cases h0 : 0 < k
    · obtain ⟨q, hq⟩ : ∃ q : Nat, nextV r 14 = q := ⟨(nextV r 14).toNat, by have := nextV_bd r 14 (by omega); omega⟩
      have hq10 : q < 14 := by have := nextV_bd r 14 (by omega); omega
      have HQ := Lib.hid hq
      have HW := Lib.hid (hs.out.alloc (.cells #[.int .i64 97, .int .i64 49, .int .i64 45, .int .i64 46, .int .i64 32, .int .i64 33, .int .i64 1488, .int .i64 1576, .int .i64 1632, .int .i64 1776, .int .i64 769, .int .i64 173, .int .i64 183, .int .i64 1488] 3))
      have HOW := Lib.hid (Ints.alloc hown.out (.cells #[.int .i64 97, .int .i64 49, .int .i64 45, .int .i64 46, .int .i64 32, .int .i64 33, .int .i64 1488, .int .i64 1576, .int .i64 1632, .int .i64 1776, .int .i64 769, .int .i64 173, .int .i64 183, .int .i64 1488] 3))
      have HBW := Lib.hid (hbel.out.alloc hbel.out.size (.cells #[.int .i64 97, .int .i64 49, .int .i64 45, .int .i64 46, .int .i64 32, .int .i64 33, .int .i64 1488, .int .i64 1576, .int .i64 1632, .int .i64 1776, .int .i64 769, .int .i64 173, .int .i64 183, .int .i64 1488] 3))
      have HGL := Lib.hid hs.out.lt
      clear hq
      go_wp2_with fail
      refine (bo_next g r 14 q _ HW.out (by omega) (by omega) HQ).mono ?_
      rintro e w3 ⟨rfl, hs3, hg3⟩
      obtain ⟨_, _, hbe, hck⟩ := ((lit_ints wr #[.int .i64 97, .int .i64 49, .int .i64 45, .int .i64 46, .int .i64 32, .int .i64 33, .int .i64 1488, .int .i64 1576, .int .i64 1632, .int .i64 1776, .int .i64 769, .int .i64 173, .int .i64 183, .int .i64 1488] boP _ rfl).grown hg3 (by intro b off e; cases e; have := HGL.out; omega)) q hq10
      cases hbe
      obtain ⟨c, hc⟩ : ∃ c, boP.getD q 0 = c := ⟨_, rfl⟩
      have HC : Hid (scaB c = true) := by unfold Hid; rw [← hc]; exact boP_sca q hq10
      rw [hc, Nat.zero_add] at hck
      have hk3 := (Keeps.of_grown hg3).weak (Q := fun b => b = g) (fun b _ e => by injection e with e; exact e.symm)
      have hown3 := hk3.owns HOW.out (fun b hb e => by have := World.ownsRow.lt HOW.out b hb; omega)
      have HO3 := Lib.hid (Ints.alloc hown3 (.cells #[.int .i64 c] 3))
      have HS3 := Lib.hid hs3
      have HB3 := Lib.hid (HBW.out.trans (hk3.below HBW.out.size (fun b _ e => by have := HBW.out.size; omega)))
      have HSL := Lib.hid hs3.lt
      clear hs3 hg3 hown3 hk3 hc HW HOW HBW
      go_wp2_with (at_builtin; refine wpList_append_one _ _ rfl rfl (g + 1) u4 xs (by rfl) (by exact HO3.out) _ 1 c (by rfl) (by simp [World.cell?_alloc_new]) (by omega) (by have := HSL.out; simp; omega) ?_; intro v' w4 hown4 hg4 hv4)
      have hA : (xs ++ [c]).all scaB = true := by rw [List.all_append, ha.out]; simpa using HC.out
      have hown3' : Ints (w3.alloc (.cells #[.int .i64 c] 3)) (g + 1) u4 xs := HO3.out
      have hB : Below w.heap.size w w4 := (HB3.out.alloc HB3.out.size _).grown hg4 (by have := HB3.out.size; simp; omega) (fun j hj => by have := (World.ownsRow.lt hown3' j hj).1; omega)
      have hS : Src w4 g r.tail := (HS3.out.alloc _).grown hg4 (fun j hj => by have := (World.ownsRow.lt hown3' j hj).1; omega)
      have HA := Lib.hid hA
      have HI := Lib.hid hown4
      have HB := Lib.hid hB
      have HS := Lib.hid hS
      clear hA hB hS hown4 hg4 hv4 hown3' hck
      go_wp2
      go_roundw
      case rel => exact ⟨k - 1, xs ++ [c], r.tail, by omega, by go_num, by simp; omega, HA, HS, HI, HB⟩
      case measure => simp [intOf]; omega
    · obtain rfl : k = 0 := by omega
      have HO := Lib.hid (Ints.mono hown.out (B' := w.heap.size) (by omega))
      go_wp2
      go_ret
      exact ⟨xs, _, rfl, by omega, ha.out, HO.out, hbel.out⟩


/-- A literal of slices. -/
theorem ls_lit (w : World) (C : Array Value) (L : List (List Int)) (t : TypeId) (hs : C.size = L.length) (h : ∀ k, k < L.length → ∃ q c, C[k]? = some (.slice q (L.getD k []).length c) ∧ (L.getD k []).length ≤ c ∧ IntsIn w q (L.getD k [])) :
    LsIn (w.alloc (.cells C t)) (some ⟨w.heap.size, 0, none⟩) L := by
  intro k hk
  obtain ⟨q, c, h1, h2, h3⟩ := h k hk
  refine ⟨w.heap.size, 0, q, c, rfl, ?_, h2, h3.alloc _⟩
  rw [Nat.zero_add, World.cell?_alloc_new]
  exact h1
theorem ls1 {w : World} {q0 : Option Addr} {c0 : Nat} {x0 : List Int} {t : TypeId} (h0 : IntsIn w q0 x0) (l0 : x0.length ≤ c0) : LsIn (w.alloc (.cells #[.slice q0 x0.length c0] t)) (some ⟨w.heap.size, 0, none⟩) [x0] :=
  ls_lit w _ _ t rfl fun k hk => by
    obtain rfl : k = 0 := by have : k < 1 := hk; omega
    exact ⟨q0, c0, rfl, l0, h0⟩
theorem ls2 {w : World} {q0 q1 : Option Addr} {c0 c1 : Nat} {x0 x1 : List Int} {t : TypeId} (h0 : IntsIn w q0 x0) (l0 : x0.length ≤ c0) (h1 : IntsIn w q1 x1) (l1 : x1.length ≤ c1) : LsIn (w.alloc (.cells #[.slice q0 x0.length c0, .slice q1 x1.length c1] t)) (some ⟨w.heap.size, 0, none⟩) [x0, x1] :=
  ls_lit w _ _ t rfl fun k hk => by
    rcases (show k = 0 ∨ k = 1 by have : k < 2 := hk; omega) with rfl | rfl
    · exact ⟨q0, c0, rfl, l0, h0⟩
    · exact ⟨q1, c1, rfl, l1, h1⟩
theorem ls3 {w : World} {q0 q1 q2 : Option Addr} {c0 c1 c2 : Nat} {x0 x1 x2 : List Int} {t : TypeId} (h0 : IntsIn w q0 x0) (l0 : x0.length ≤ c0) (h1 : IntsIn w q1 x1) (l1 : x1.length ≤ c1) (h2 : IntsIn w q2 x2) (l2 : x2.length ≤ c2) : LsIn (w.alloc (.cells #[.slice q0 x0.length c0, .slice q1 x1.length c1, .slice q2 x2.length c2] t)) (some ⟨w.heap.size, 0, none⟩) [x0, x1, x2] :=
  ls_lit w _ _ t rfl fun k hk => by
    rcases (show k = 0 ∨ k = 1 ∨ k = 2 by have : k < 3 := hk; omega) with rfl | rfl | rfl
    · exact ⟨q0, c0, rfl, l0, h0⟩
    · exact ⟨q1, c1, rfl, l1, h1⟩
    · exact ⟨q2, c2, rfl, l2, h2⟩

/-- The example's tables. -/
def bxT : Tb := ⟨[], [], [], [(1488, 1488, 1)], [], [], [], [], [], [], [], []⟩
def bxX (g : Nat) : TV := ⟨.slice none 0 0, .slice none 0 0, .slice none 0 0, .slice (some ⟨g, 0, none⟩) 1 1, .slice none 0 0, .slice none 0 0, .slice none 0 0, .slice none 0 0, .slice none 0 0, .slice none 0 0, .slice none 0 0, .slice none 0 0⟩
theorem bx_r1 : rulR bxT [1488, 97] = (2, 0) := by decide +kernel
theorem bx_r2 : rulR bxT [49] = (1, 0) := by decide +kernel
theorem bx_d1 : domR bxT [[1488], [49]] = (1, 19) := by decide +kernel
theorem bx_d2 : domR bxT [[97], [49]] = (0, 0) := by decide +kernel
theorem bx_t : rtlR bxT [1488] = true := by decide +kernel
theorem bx_sp (w : World) : SpV w (.slice none 0 0) [] := ⟨none, 0, rfl, fun k hk => absurd hk (Nat.not_lt_zero _), by simp⟩
theorem bx_mp (w : World) : MpV w (.slice none 0 0) [] := ⟨none, 0, rfl, fun k hk => absurd hk (Nat.not_lt_zero _), by simp⟩
theorem bx_in (w : World) : InV w (.slice none 0 0) [] := ⟨none, 0, rfl, fun k hk => absurd hk (Nat.not_lt_zero _), by simp⟩
theorem bx_bid (W : World) (g : Nat) (h : W.heap[g]? = some (.cells #[.int .i64 1488, .int .i64 1488, .int .i64 1] 47 (0, 0))) : SpV W (.slice (some ⟨g, 0, none⟩) 1 1) bxT.bid := by
  refine ⟨_, 1, rfl, fun k hk => ?_, by decide⟩
  have hc := fun (j : Nat) => cell_of_row W g j _ _ (0, 0) h
  obtain rfl : k = 0 := by have : k < 1 := hk; omega
  exact ⟨g, 0, rfl, hc 0, hc 1, hc 2⟩
theorem bx_tab (W : World) (g : Nat) (h : W.heap[g]? = some (.cells #[.int .i64 1488, .int .i64 1488, .int .i64 1] 47 (0, 0))) : TabV W (bxX g) bxT :=
  ⟨bx_sp _, bx_sp _, bx_sp _, bx_bid W g h, bx_sp _, bx_sp _, bx_sp _, bx_mp _, bx_mp _, bx_mp _, bx_in _, bx_mp _⟩
theorem bo_two (w : World) (c d : Int) : IntsIn (w.alloc (.cells #[.int .i64 c, .int .i64 d] 3)) (some ⟨w.heap.size, 0, none⟩) [c, d] := lit_ints w #[.int .i64 c, .int .i64 d] [c, d] 3 rfl

set_option maxRecDepth 100000 in
set_option maxHeartbeats 4000000 in
theorem awake16_any (w : World) (hr : Rsv w) : Calls Tryz.prog 6 #[] w (Gives (.bool true) w) := by
  have hb1 := (Below.refl w.heap.size w).alloc (Nat.le_refl _) (.cells #[.int .i64 1488, .int .i64 1488, .int .i64 1] 47)
  have hb2 := hb1.alloc hb1.size (.cells (tabCells (bxX w.heap.size)) 26)
  have htb : TabV ((w.alloc (.cells #[.int .i64 1488, .int .i64 1488, .int .i64 1] 47)).alloc (.cells (tabCells (bxX w.heap.size)) 26)) (bxX w.heap.size) bxT := bx_tab _ _ (by rw [heap_alloc2_old])
  have hbx := BoxT.new (w.alloc (.cells #[.int .i64 1488, .int .i64 1488, .int .i64 1] 47)) (bxX w.heap.size) 26
  have hgs : (w.alloc (.cells #[.int .i64 1488, .int .i64 1488, .int .i64 1] 47)).heap.size = w.heap.size + 1 := by simp
  have HR := Lib.hid hr
  have HE : Hid (LEnv w (w.alloc (.cells #[.int .i64 1488, .int .i64 1488, .int .i64 1] 47)).heap.size (bxX w.heap.size) bxT ((w.alloc (.cells #[.int .i64 1488, .int .i64 1488, .int .i64 1] 47)).alloc (.cells (tabCells (bxX w.heap.size)) 26))) := ⟨htb, hbx, hb2⟩
  rw [hgs] at HE
  clear hr hb1 hb2 htb hbx hgs
  obtain ⟨x, hx⟩ : ∃ x, bxX w.heap.size = x := ⟨_, rfl⟩
  have hcl : tabCells (bxX w.heap.size) = #[x.a0, x.a1, x.a2, x.a3, x.a4, x.a5, x.a6, x.a7, x.a8, x.a9, x.a10, x.a11] := by first | (rw [hx]; done) | (rw [hx]; rfl)
  have HX : Hid (#[x.a0, x.a1, x.a2, x.a3, x.a4, x.a5, x.a6, x.a7, x.a8, x.a9, x.a10, x.a11] = #[.slice none 0 0, .slice none 0 0, .slice none 0 0, .slice (some ⟨w.heap.size, 0, none⟩) 1 1, .slice none 0 0, .slice none 0 0, .slice none 0 0, .slice none 0 0, .slice none 0 0, .slice none 0 0, .slice none 0 0, .slice none 0 0]) := by unfold Hid; first | (rw [← hx]; done) | (rw [← hx]; rfl)
  rw [hcl, HX.out, hx] at HE
  clear hcl hx HX
  go_enter Tryz.func6, Tryz.ntmps6
  go_upto_region 2 with (fail)
  generalize (w.alloc (.cells #[.int .i64 1488, .int .i64 1488, .int .i64 1] 47)).alloc (.cells #[.slice none 0 0, .slice none 0 0, .slice none 0 0, .slice (some ⟨w.heap.size, 0, none⟩) 1 1, .slice none 0 0, .slice none 0 0, .slice none 0 0, .slice none 0 0, .slice none 0 0, .slice none 0 0, .slice none 0 0, .slice none 0 0] 26) = WB at HE ⊢
  obtain ⟨⟨k0, k1, k2, k3, k4, k5⟩, ⟨k6, k7, k8, k9, k10, k11⟩⟩ := HE.out.box.load
  have HI := Lib.hid (bo_two WB 1488 97)
  have HEA := Lib.hid (HE.out.step ((Below.refl WB.heap.size WB).alloc (Nat.le_refl _) (.cells #[.int .i64 1488, .int .i64 97] 3)))
  go_wp2_with fail
  refine (brule_at x bxT _ 2 [1488, 97] 2 0 _ HEA.out.tab (HR.out.below HEA.out.bel) HI.out (by simp) bx_r1).mono ?_
  rintro e w1 ⟨rfl, hb⟩
  replace HE := Lib.hid (HEA.out.step hb)
  clear hb HI HEA k0 k1 k2 k3 k4 k5 k6 k7 k8 k9 k10 k11
  obtain ⟨⟨k0, k1, k2, k3, k4, k5⟩, ⟨k6, k7, k8, k9, k10, k11⟩⟩ := HE.out.box.load
  have HI := Lib.hid (bo_one w1 49)
  have HEA := Lib.hid (HE.out.step ((Below.refl w1.heap.size w1).alloc (Nat.le_refl _) (.cells #[.int .i64 49] 3)))
  go_wp2_with fail
  refine (brule_at x bxT _ 1 [49] 1 0 _ HEA.out.tab (HR.out.below HEA.out.bel) HI.out (by simp) bx_r2).mono ?_
  rintro e w2 ⟨rfl, hb⟩
  replace HE := Lib.hid (HEA.out.step hb)
  clear hb HI HEA k0 k1 k2 k3 k4 k5 k6 k7 k8 k9 k10 k11
  obtain ⟨⟨k0, k1, k2, k3, k4, k5⟩, ⟨k6, k7, k8, k9, k10, k11⟩⟩ := HE.out.box.load
  have hc1 := (Below.refl w2.heap.size w2).alloc (Nat.le_refl _) (.cells #[.int .i64 1488] 3)
  have hc2 := hc1.alloc hc1.size (.cells #[.int .i64 49] 3)
  have HI := Lib.hid (ls2 (t := 22) ((bo_one w2 1488).alloc (.cells #[.int .i64 49] 3)) (show ([1488] : List Int).length ≤ 1 by simp) (bo_one (w2.alloc (.cells #[.int .i64 1488] 3)) 49) (show ([49] : List Int).length ≤ 1 by simp))
  have HEA := Lib.hid ((HE.out.step hc2).step ((Below.refl _ ((w2.alloc (.cells #[.int .i64 1488] 3)).alloc (.cells #[.int .i64 49] 3))).alloc (Nat.le_refl _) (.cells #[.slice (some ⟨w2.heap.size, 0, none⟩) ([1488] : List Int).length 1, .slice (some ⟨(w2.alloc (.cells #[.int .i64 1488] 3)).heap.size, 0, none⟩) ([49] : List Int).length 1] 22)))
  have hs1 : (w2.alloc (.cells #[.int .i64 1488] 3)).heap.size = w2.heap.size + 1 := by simp
  have hs2 : ((w2.alloc (.cells #[.int .i64 1488] 3)).alloc (.cells #[.int .i64 49] 3)).heap.size = w2.heap.size + 1 + 1 := by simp
  rw [hs1] at HI HEA
  rw [hs2] at HI
  simp only [List.length_singleton] at HI HEA
  clear hc1 hc2 hs1 hs2
  go_wp2_with fail
  refine (bdom_at x bxT _ 2 2 [[1488], [49]] 1 19 _ HEA.out.tab (HR.out.below HEA.out.bel) HI.out rfl (by simp) (by simp) bx_d1).mono ?_
  rintro e w3 ⟨rfl, hb⟩
  replace HE := Lib.hid (HEA.out.step hb)
  clear hb HI HEA k0 k1 k2 k3 k4 k5 k6 k7 k8 k9 k10 k11
  obtain ⟨⟨k0, k1, k2, k3, k4, k5⟩, ⟨k6, k7, k8, k9, k10, k11⟩⟩ := HE.out.box.load
  have hc1 := (Below.refl w3.heap.size w3).alloc (Nat.le_refl _) (.cells #[.int .i64 97] 3)
  have hc2 := hc1.alloc hc1.size (.cells #[.int .i64 49] 3)
  have HI := Lib.hid (ls2 (t := 22) ((bo_one w3 97).alloc (.cells #[.int .i64 49] 3)) (show ([97] : List Int).length ≤ 1 by simp) (bo_one (w3.alloc (.cells #[.int .i64 97] 3)) 49) (show ([49] : List Int).length ≤ 1 by simp))
  have HEA := Lib.hid ((HE.out.step hc2).step ((Below.refl _ ((w3.alloc (.cells #[.int .i64 97] 3)).alloc (.cells #[.int .i64 49] 3))).alloc (Nat.le_refl _) (.cells #[.slice (some ⟨w3.heap.size, 0, none⟩) ([97] : List Int).length 1, .slice (some ⟨(w3.alloc (.cells #[.int .i64 97] 3)).heap.size, 0, none⟩) ([49] : List Int).length 1] 22)))
  have hs1 : (w3.alloc (.cells #[.int .i64 97] 3)).heap.size = w3.heap.size + 1 := by simp
  have hs2 : ((w3.alloc (.cells #[.int .i64 97] 3)).alloc (.cells #[.int .i64 49] 3)).heap.size = w3.heap.size + 1 + 1 := by simp
  rw [hs1] at HI HEA
  rw [hs2] at HI
  simp only [List.length_singleton] at HI HEA
  clear hc1 hc2 hs1 hs2
  go_wp2_with fail
  refine (bdom_at x bxT _ 2 2 [[97], [49]] 0 0 _ HEA.out.tab (HR.out.below HEA.out.bel) HI.out rfl (by simp) (by simp) bx_d2).mono ?_
  rintro e w4 ⟨rfl, hb⟩
  replace HE := Lib.hid (HEA.out.step hb)
  clear hb HI HEA k0 k1 k2 k3 k4 k5 k6 k7 k8 k9 k10 k11
  obtain ⟨⟨k0, k1, k2, k3, k4, k5⟩, ⟨k6, k7, k8, k9, k10, k11⟩⟩ := HE.out.box.load
  have HI := Lib.hid (bo_one w4 1488)
  have HEA := Lib.hid (HE.out.step ((Below.refl w4.heap.size w4).alloc (Nat.le_refl _) (.cells #[.int .i64 1488] 3)))
  go_wp2_with fail
  refine (brtl_at x bxT _ 1 [1488] true _ HEA.out.tab (HR.out.below HEA.out.bel) HI.out (by simp) bx_t).mono ?_
  rintro e w5 ⟨rfl, hb⟩
  replace HE := Lib.hid (HEA.out.step hb)
  clear hb HI HEA k0 k1 k2 k3 k4 k5 k6 k7 k8 k9 k10 k11
  go_wp2
  go_ret
  exact ⟨rfl, HE.out.bel⟩

end Go.Proofs.YtiafhifbgdkgaaaGreatDoor
