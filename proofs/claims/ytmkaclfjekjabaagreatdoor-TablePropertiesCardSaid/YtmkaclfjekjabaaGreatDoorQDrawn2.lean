/-
  A region that draws its order, by what each slot holds: a list of predicates, one for each operation.
-/
import Derived.Test.YtmkaclfjekjabaaGreatDoorPkH
import Derived.Test.YtmkaclfjekjabaaGreatDoorPkG
set_option linter.unusedSimpArgs false
set_option linter.unusedVariables false
namespace Go.Proofs.YtmkaclfjekjabaaGreatDoor
open Go Go.RowKit
set_option linter.unusedVariables false

abbrev KP := Value → World → Prop
def KAny : KP := fun _ _ => True
def Stable (P : KP) : Prop := ∀ v w w', P v w → Keeps w w' (fun _ => False) → P v w'

/-- The slots from s0 on hold what KS says of them, as far as d says that they are done. -/
def JL (a0 : Act) (s0 : Nat) (W : World) (KS : List KP) (d : Nat → Bool) (a : Act) (w : World) : Prop :=
  ∃ xs : List Value, xs.length = KS.length ∧ a = putsA a0 s0 xs ∧ Keeps W w (fun _ => False) ∧ ∀ j, j < KS.length → d j = true → (KS.getD j KAny) (xs.getD j undef) w

section
variable {a0 : Act} {s0 : Nat} {W : World} {KS : List KP} {d : Nat → Bool} {w w' : World} {xs : List Value}

theorem JL.next (hst : ∀ P ∈ KS, Stable P) (hx : xs.length = KS.length) (hk : Keeps W w (fun _ => False)) (hR : ∀ j, j < KS.length → d j = true → (KS.getD j KAny) (xs.getD j undef) w) (j : Nat) (hj : j < KS.length) {v : Value} (hkw : Keeps w w' (fun _ => False)) (hv : (KS.getD j KAny) v w') :
    JL a0 s0 W KS (setB d j) ((putsA a0 s0 xs).put (some (s0 + j)) v) w' := by
  refine ⟨xs.set j v, by simpa using hx, putsA_set _ _ _ _ _ (by omega), hk.trans hkw (fun _ _ e => e) (fun _ _ e => e), fun k hk2 hd => ?_⟩
  by_cases e : k = j
  · subst e
    rw [List.getD_eq_getElem?_getD (l := xs.set _ _), List.getElem?_set_self (by omega)]
    exact hv
  · rw [setB_other _ e] at hd
    rw [List.getD_eq_getElem?_getD (l := xs.set _ _), List.getElem?_set_ne (fun h => e h.symm), ← List.getD_eq_getElem?_getD]
    have hm : KS.getD k KAny ∈ KS := by
      rw [List.getD_eq_getElem?_getD, List.getElem?_eq_getElem hk2]; exact List.getElem_mem hk2
    exact hst _ hm _ _ _ (hR k hk2 hd) hkw

theorem JL.slot (ha : s0 + KS.length ≤ a0.tmps.size) (hx : xs.length = KS.length) (j : Nat) (hj : j < KS.length) : (putsA a0 s0 xs).eval (.tmp (s0 + j)) = xs.getD j undef :=
  putsA_at a0 s0 xs j (by omega) (by omega)
theorem JL.low (k : Nat) (hk : k < s0) {v : Value} (h : a0.tmps.getD k undef = v) : (putsA a0 s0 xs).eval (.tmp k) = v := (putsA_low a0 s0 k xs hk).trans h

theorem keepsF {w w' : World} (h : Below w.heap.size w w') : Keeps w w' (fun _ => False) := (Keeps.of_below h).weak (fun k hk e => by omega)
theorem Keeps.belowF {w w' : World} (h : Keeps w w' (fun _ => False)) : Below w.heap.size w w' := h.below (Nat.le_refl _) (fun _ _ e => e.elim)
end

section
variable {o : Oper} {a : Act} {w : World} {K : Act → World → Prop} {Q : Exit → Act → World → Prop}

theorem want0 {P : Program} {y : Nat → Option Bool} {E : Prop} (hg : o.guard = none) (h : o.wp P a w K Q) : if Region.wanted o y = true then o.wp P a w K Q else E := by
  rw [if_pos (by simp [Region.wanted, hg])]; exact h

/-- A guarded operation whose guard says yes. -/
theorem wantG {P : Program} {ops : Array Oper} {E : Prop} (g s : Nat) (og : Oper) (hg : o.guard = some (g, true)) (ho : ops[g]? = some og) (hd : og.dst = some s) (hv : a.eval (.tmp s) = .bool true) (h : o.wp P a w K Q) : if Region.wanted o (yielded ops a.tmps) = true then o.wp P a w K Q else E := by
  have hv' : a.tmps.getD s undef = .bool true := hv
  have hy : yielded ops a.tmps g = some true := by
    unfold yielded
    rw [ho]
    simp only [Option.bind_some, hd]
    rw [Array.getD_eq_getD_getElem?] at hv'
    cases hs : a.tmps[s]? with
    | none => rw [hs] at hv'; cases hv'
    | some u => rw [hs] at hv'; simp only [Option.getD_some] at hv'; subst hv'; rfl
  rw [if_pos (by simp [Region.wanted, hg, hy])]; exact h
end

end Go.Proofs.YtmkaclfjekjabaaGreatDoor
