/-
  Rows of mappings and of ints that a call makes, appended to inside a region that draws.
-/
import Derived.Test.YtcamkjafpnojkaaDoorSxPkG
import Derived.Deep.RegionLaw
set_option linter.unusedSimpArgs false
set_option linter.unusedVariables false
namespace Go.Proofs.YtcamkjafpnojkaaDoor
open Go.RowKit
set_option linter.unusedVariables false

abbrev Mq := Mp × Value
def cellsQ : List Mq → List Value
  | [] => []
  | q :: r => .int .i64 q.1.1 :: q.2 :: cellsQ r

theorem cellsQ_at (l : List Mq) (k : Nat) (q : Mq) (h : l[k]? = some q) : (cellsQ l)[k * 2]? = some (.int .i64 q.1.1) ∧ (cellsQ l)[k * 2 + 1]? = some q.2 := by
  induction l generalizing k with
  | nil => simp at h
  | cons s r ih =>
    cases k with
    | zero => simp at h; subst h; simp [cellsQ]
    | succ k =>
      have := ih k (by simpa using h)
      rw [show (k + 1) * 2 = k * 2 + 1 + 1 by omega]
      simpa [cellsQ] using this

/-- A slice of mappings of the call's own: its row, and what its elements lead to. -/
structure Hot (w : World) (B : Nat) (P : Nat → Prop) (v : Value) (Q : List Mq) : Prop where
  own : w.ownsRow B 37 2 v Q.length (cellsQ Q)
  tos : ∀ q ∈ Q, InO w P q.2 q.1.2

theorem Hot.nil (w : World) (B : Nat) (P : Nat → Prop) : Hot w B P (.slice none 0 0) [] := ⟨World.ownsRow_nil _ _ _ _, by simp⟩
theorem Hot.keeps {w w' : World} {B : Nat} {P R : Nat → Prop} {v : Value} {Q : List Mq} (h : Hot w B P v Q) (hk : Keeps w w' R) (h1 : ∀ k, v.ownBlock = some k → ¬ R k) (h2 : ∀ k, k < w.heap.size → R k → ¬ P k) : Hot w' B P v Q :=
  ⟨hk.owns h.own h1, fun q hq => (h.tos q hq).keeps hk h2⟩
theorem Hot.weak {w : World} {B : Nat} {P Q : Nat → Prop} {v : Value} {L : List Mq} (h : Hot w B P v L) (hq : ∀ b, b < w.heap.size → P b → Q b) : Hot w B Q v L := ⟨h.own, fun q hq' => (h.tos q hq').weak hq⟩
theorem Hot.slice {w : World} {B : Nat} {P : Nat → Prop} {v : Value} {Q : List Mq} (h : Hot w B P v Q) : ∃ p c, v = .slice p Q.length c := by
  rcases h.own.2 with ⟨rfl, h3⟩ | ⟨g, cap, cur, rfl, _⟩
  · exact ⟨none, 0, by rw [h3]⟩
  · exact ⟨_, cap, rfl⟩

theorem row_cap {w : World} {B : Nat} {t : TypeId} {z : Nat} {v : Value} {n : Nat} {xs : List Value} (h : w.ownsRow B t z v n xs) {p : Option Addr} {m c : Nat} (e : v = .slice p m c) : m ≤ c := by
  rcases h.2 with ⟨rfl, h3⟩ | ⟨g, cap, cur, rfl, _, _, hn, _⟩
  · injection e with _ e1 e2; omega
  · injection e with _ e1 e2; omega

/-- The cells of element k. -/
theorem Hot.cells {w : World} {B : Nat} {P : Nat → Prop} {v : Value} {Q : List Mq} (h : Hot w B P v Q) (k : Nat) (hk : k < Q.length) :
    ∃ g cap q, v = .slice (some ⟨g, 0, none⟩) Q.length cap ∧ Q[k]? = some q ∧ q ∈ Q ∧ v.ownBlock = some g ∧ w.cell? ⟨g, k * 2, none⟩ = some (.int .i64 q.1.1) ∧ w.cell? ⟨g, k * 2 + 1, none⟩ = some q.2 := by
  rcases h.own.2 with ⟨rfl, h3⟩ | ⟨g, cap, cur, rfl, hB, hg, hn, hc, hs, ht⟩
  · omega
  · obtain ⟨q, hq⟩ : ∃ q, Q[k]? = some q := ⟨_, List.getElem?_eq_getElem hk⟩
    obtain ⟨c1, c2⟩ := cellsQ_at Q k q hq
    have key : ∀ j u, j < Q.length * 2 → (cellsQ Q)[j]? = some u → w.cell? ⟨g, j, none⟩ = some u := by
      intro j u hj hu
      rw [cell_of_row w g j cur _ (0, 0) hg]
      rw [← ht, List.getElem?_take, if_pos hj] at hu
      simpa using hu
    exact ⟨g, cap, q, rfl, hq, List.mem_of_getElem? hq, rfl, key _ _ (by omega) c1, key _ _ (by omega) c2⟩

theorem Hot.mpO {w : World} {B : Nat} {P Z : Nat → Prop} {v : Value} {Q : List Mq} (h : Hot w B P v Q) (hl : Q.length ≤ 1000) (h1 : ∀ b, b < w.heap.size → P b → Z b) (h2 : ∀ b, B ≤ b → b < w.heap.size → Z b) : MpO w Z v (Q.map (·.1)) := by
  obtain ⟨p, c, hv⟩ := h.slice
  refine ⟨p, c, by rw [hv]; simp, fun b off n c e => ?_, by simp; omega, fun k hk => ?_⟩
  · have := World.ownsRow.lt h.own b (by rw [e]; rfl)
    exact ⟨h2 b this.1 this.2, this.2⟩
  · have hk' : k < Q.length := by simpa using hk
    obtain ⟨g, cap, q, e, hq, hm, _, c1, c2⟩ := h.cells k hk'
    rw [hv] at e
    injection e with e _ _
    have hd : (Q.map (·.1)).getD k mp0 = q.1 := by
      rw [List.getD_eq_getElem?_getD, List.getElem?_map, hq]; rfl
    rw [hd]
    have ht := (h.tos q hm).weak h1
    exact ⟨g, 0, q.2, e, by simpa using c1, by simpa using c2, ht.1, ht.2⟩

theorem InO.one {w : World} {P : Nat → Prop} {v : Value} {l : List Int} (h : InO w P v l) : v.oneCell' = true := by
  obtain ⟨⟨p, c, rfl, _⟩, _⟩ := h; rfl

end Go.Proofs.YtcamkjafpnojkaaDoor
