/-
  The references of table: rule 3.
  The references of table: rule 4.
-/
import Derived.Test.YtiafhifbgdkgaaaDoorQTabRC
set_option linter.unusedSimpArgs false
set_option linter.unusedVariables false
namespace Go.Proofs.YtiafhifbgdkgaaaDoor
open Go.RowKit
set_option linter.unusedVariables false

/-- A value of the k-th list of spans, as the references test it. -/
def valV (k : Nat) (v : Int) : Bool := !(decide (v < 0) || decide (mostL.getD k 0 < v) || decide (v = 0) && (decide (k = 1) || decide (k = 6)))
def valF (k : Nat) (l : List Sp) : Bool := l.all fun s => valV k s.2.2

theorem valF_ok {k : Nat} {lo hi : Int} {l : List Sp} (hh : mostL.getD k 0 = hi) (hlo : lo = if k = 1 ∨ k = 6 then 1 else 0) : valF k l = valOk lo hi l := by
  unfold valF valOk
  congr 1
  funext s
  rw [Bool.eq_iff_iff]
  simp only [valV, hh, hlo, Bool.not_eq_true', Bool.or_eq_false_iff, Bool.and_eq_false_iff, decide_eq_false_iff_not, Bool.and_eq_true, decide_eq_true_eq]
  by_cases h : k = 1 ∨ k = 6
  · rw [if_pos h]; omega
  · rw [if_neg h]; omega

theorem r3_vals (T : Tb) : r3 T = (valF 0 T.cat && (valF 1 T.cls && (valF 2 T.joi && (valF 3 T.bid && (valF 4 T.scr && (valF 5 T.sta && valF 6 T.ign)))))) := by
  unfold r3
  rw [valF_ok (k := 0) (lo := 0) (hi := 8) rfl rfl, valF_ok (k := 1) (lo := 1) (hi := 254) rfl rfl, valF_ok (k := 2) (lo := 0) (hi := 5) rfl rfl, valF_ok (k := 3) (lo := 0) (hi := 11) rfl rfl, valF_ok (k := 4) (lo := 0) (hi := 60) rfl rfl, valF_ok (k := 5) (lo := 0) (hi := 4) rfl rfl, valF_ok (k := 6) (lo := 1) (hi := 1) rfl rfl]

theorem sp_list {T : Tb} (q : (k : Nat) → List Sp → Bool) (h : ∀ j, j < 7 → q j ((spansT T).getD j []) = true) : (q 0 T.cat && (q 1 T.cls && (q 2 T.joi && (q 3 T.bid && (q 4 T.scr && (q 5 T.sta && q 6 T.ign)))))) = true := by
  have h0 : q 0 T.cat = true := h 0 (by omega)
  have h1 : q 1 T.cls = true := h 1 (by omega)
  have h2 : q 2 T.joi = true := h 2 (by omega)
  have h3 : q 3 T.bid = true := h 3 (by omega)
  have h4 : q 4 T.scr = true := h 4 (by omega)
  have h5 : q 5 T.sta = true := h 5 (by omega)
  have h6 : q 6 T.ign = true := h 6 (by omega)
  rw [h0, h1, h2, h3, h4, h5, h6]; rfl
theorem sp_bad {T : Tb} (q : (k : Nat) → List Sp → Bool) {j : Nat} (hj : j < 7) (h : q j ((spansT T).getD j []) = false) : (q 0 T.cat && (q 1 T.cls && (q 2 T.joi && (q 3 T.bid && (q 4 T.scr && (q 5 T.sta && q 6 T.ign)))))) = false := by
  have : j = 0 ∨ j = 1 ∨ j = 2 ∨ j = 3 ∨ j = 4 ∨ j = 5 ∨ j = 6 := by omega
  rcases this with rfl | rfl | rfl | rfl | rfl | rfl | rfl
  · rw [show q 0 T.cat = false from h]; simp
  · rw [show q 1 T.cls = false from h]; simp
  · rw [show q 2 T.joi = false from h]; simp
  · rw [show q 3 T.bid = false from h]; simp
  · rw [show q 4 T.scr = false from h]; simp
  · rw [show q 5 T.sta = false from h]; simp
  · rw [show q 6 T.ign = false from h]; simp

theorem most_at {w : World} {h : Nat} (hi : IntsIn w (some ⟨h, 0, none⟩) mostL) (k : Nat) (hk : k < 7) : w.cell? ⟨h, k, none⟩ = some (.int .i64 (mostL.getD k 0)) := by
  obtain ⟨b, off, e, hc⟩ := hi k hk
  injection e with e
  injection e with e1 e2
  subst e1; subst e2
  rwa [Nat.zero_add] at hc

end Go.Proofs.YtiafhifbgdkgaaaDoor

namespace Go.Proofs.YtiafhifbgdkgaaaDoor
open Go.RowKit
set_option linter.unusedVariables false

/-- The elements of a mapping of the k-th list, as the references test them. -/
def elF (k : Nat) (a : List Int) : Bool := if k = 0 then ascI 3 60 a else a.all scaB
def elO (k : Nat) (a : List Int) (c : Int) : Bool := if k = 0 then decide (endI 3 a ≤ c) && decide (c ≤ 60) else scaB c
def seqF (k : Nat) (m : Mp) : Bool := decide (1 ≤ m.2.length) && decide (m.2.length ≤ 18) && elF k m.2
def lstF (k : Nat) (l : List Mp) : Bool := l.all (seqF k)

theorem elF_snoc (k : Nat) (a : List Int) (c : Int) : elF k (a ++ [c]) = (elF k a && elO k a c) := by
  unfold elF elO
  by_cases h : k = 0
  · rw [if_pos h, if_pos h, if_pos h, Bool.eq_iff_iff, Bool.and_eq_true, Bool.and_eq_true, ascI_snoc]; simp
  · rw [if_neg h, if_neg h, if_neg h]; simp
theorem elF_take {k : Nat} {a : List Int} (i : Nat) (h : elF k (a.take i) = false) : elF k a = false := by
  unfold elF at h ⊢
  by_cases hk : k = 0
  · rw [if_pos hk] at h ⊢; exact ascI_prefix i h
  · rw [if_neg hk] at h ⊢; exact all_of_take _ _ i h
theorem r4_lst (T : Tb) : r4 T = (lstF 0 T.ext && (lstF 1 T.map && (lstF 2 T.dec && lstF 3 T.pro))) := rfl
theorem mp_all {T : Tb} (q : (k : Nat) → List Mp → Bool) (h : ∀ j, j < 4 → q j ((mpsT T).getD j []) = true) : (q 0 T.ext && (q 1 T.map && (q 2 T.dec && q 3 T.pro))) = true := by
  obtain ⟨h0, h1, h2, h3⟩ := mp_list q h
  rw [h0, h1, h2, h3]; rfl
theorem mp_none {T : Tb} (q : (k : Nat) → List Mp → Bool) {j : Nat} (hj : j < 4) (h : q j ((mpsT T).getD j []) = false) : (q 0 T.ext && (q 1 T.map && (q 2 T.dec && q 3 T.pro))) = false := by
  have : j = 0 ∨ j = 1 ∨ j = 2 ∨ j = 3 := by omega
  rcases this with rfl | rfl | rfl | rfl
  · rw [show q 0 T.ext = false from h]; simp
  · rw [show q 1 T.map = false from h]; simp
  · rw [show q 2 T.dec = false from h]; simp
  · rw [show q 3 T.pro = false from h]; simp
end Go.Proofs.YtiafhifbgdkgaaaDoor
