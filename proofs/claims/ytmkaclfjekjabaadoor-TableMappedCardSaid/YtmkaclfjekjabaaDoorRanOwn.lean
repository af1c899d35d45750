/-
  Slices of spans in memory.
-/
import Derived.Test.YtmkaclfjekjabaaDoorOwn
import Derived.Test.YtmkaclfjekjabaaDoorRanSpec
import Derived.Deep.QuietTactic
import Derived.BigQuiet
import Derived.Deep.DeepCutAuto
namespace Go.Proofs.YtmkaclfjekjabaaDoor
open Go.RowKit

theorem Tryd.infoSpan : (Tryd.prog.info? 50).map (fun i => (i.zero, i.size, i.bytes)) = some (some (.agg #[.int .i64 0, .int .i64 0, .int .i64 0]), 3, 24) := by kernel_rfl

abbrev sp0 : Sp := (0, 0, 0)
abbrev spV (s : Sp) : Value := .agg #[.int .i64 s.1, .int .i64 s.2.1, .int .i64 s.2.2]

/-- The cells of a list of spans. -/
def cellsS : List Sp → List Value
  | [] => []
  | s :: r => .int .i64 s.1 :: .int .i64 s.2.1 :: .int .i64 s.2.2 :: cellsS r

theorem cellsS_length (l : List Sp) : (cellsS l).length = l.length * 3 := by
  induction l with
  | nil => rfl
  | cons s r ih => simp only [cellsS, List.length_cons, ih]; omega

theorem cellsS_append (a b : List Sp) : cellsS (a ++ b) = cellsS a ++ cellsS b := by
  induction a with
  | nil => rfl
  | cons s r ih => simp [cellsS, ih]

theorem cellsS_at (l : List Sp) (k : Nat) (h : k < l.length) :
    (cellsS l)[k * 3]? = some (.int .i64 (l.getD k sp0).1) ∧ (cellsS l)[k * 3 + 1]? = some (.int .i64 (l.getD k sp0).2.1) ∧ (cellsS l)[k * 3 + 2]? = some (.int .i64 (l.getD k sp0).2.2) := by
  induction l generalizing k with
  | nil => simp at h
  | cons s r ih =>
    cases k with
    | zero => simp [cellsS]
    | succ k =>
      have := ih k (by simpa using h)
      rw [show (k + 1) * 3 = k * 3 + 1 + 1 + 1 by omega]
      simpa [cellsS] using this

/-- A slice of spans that is only read. -/
def SpIn (w : World) (p : Option Addr) (l : List Sp) : Prop :=
  ∀ k, k < l.length → ∃ b off, p = some ⟨b, off, none⟩ ∧ w.cell? ⟨b, off + k * 3, none⟩ = some (.int .i64 (l.getD k sp0).1) ∧ w.cell? ⟨b, off + k * 3 + 1, none⟩ = some (.int .i64 (l.getD k sp0).2.1) ∧
    w.cell? ⟨b, off + k * 3 + 2, none⟩ = some (.int .i64 (l.getD k sp0).2.2)

theorem SpIn.below {w w' : World} {p : Option Addr} {l : List Sp} (h : SpIn w p l) (hb : Below w.heap.size w w') : SpIn w' p l := by
  intro k hk
  obtain ⟨b, off, e, h1, h2, h3⟩ := h k hk
  have hlt := World.block_lt_of_cell? w _ h1
  exact ⟨b, off, e, (hb.cell (p := ⟨b, off + k * 3, none⟩) hlt).trans h1, (hb.cell (p := ⟨b, off + k * 3 + 1, none⟩) hlt).trans h2, (hb.cell (p := ⟨b, off + k * 3 + 2, none⟩) hlt).trans h3⟩

theorem SpIn.alloc {w : World} {p : Option Addr} {l : List Sp} (h : SpIn w p l) (o : Obj) : SpIn (w.alloc o) p l :=
  h.below ((Below.refl _ _).alloc (Nat.le_refl _) o)

/-- A new slice of spans. -/
def Spans (w : World) (B : Nat) (v : Value) (l : List Sp) : Prop := w.ownsRow B 50 3 v l.length (cellsS l)

theorem Spans.nil (w : World) (B : Nat) : Spans w B (.slice none 0 0) [] := World.ownsRow_nil _ _ _ _
theorem Spans.below {w w' : World} {B : Nat} {v : Value} {l : List Sp} (h : Spans w B v l) (hb : Below w.heap.size w w') : Spans w' B v l := ownsRow_below h hb
theorem Spans.mono {w : World} {B B' : Nat} {v : Value} {l : List Sp} (h : Spans w B v l) (hB : B' ≤ B) : Spans w B' v l := ownsRow_mono h hB

theorem Spans.inn {w : World} {B : Nat} {v : Value} {l : List Sp} (h : Spans w B v l) : ∃ p cap, v = .slice p l.length cap ∧ SpIn w p l := by
  obtain ⟨h1, h2⟩ := h
  rcases h2 with ⟨rfl, h3⟩ | ⟨g, cap, cur, rfl, hB, hg, hn, hc, hs, ht⟩
  · have : l = [] := List.eq_nil_of_length_eq_zero h3
    subst this
    exact ⟨none, 0, rfl, fun k hk => by simp at hk⟩
  · refine ⟨_, cap, rfl, fun k hk => ⟨g, 0, rfl, ?_⟩⟩
    have key : ∀ j v, j < l.length * 3 → (cellsS l)[j]? = some v → w.cell? ⟨g, j, none⟩ = some v := by
      intro j v hj hv
      rw [cell_of_row w g j cur _ (0, 0) hg]
      rw [← ht, List.getElem?_take, if_pos hj] at hv
      simpa using hv
    obtain ⟨c1, c2, c3⟩ := cellsS_at l k hk
    refine ⟨?_, ?_, ?_⟩
    · rw [Nat.zero_add]; exact key _ _ (by omega) c1
    · rw [Nat.zero_add]; exact key _ _ (by omega) c2
    · rw [Nat.zero_add]; exact key _ _ (by omega) c3

theorem take_snoc_sp (l : List Sp) (k : Nat) (h : k < l.length) : l.take (k + 1) = l.take k ++ [l.getD k sp0] := by
  rw [List.take_succ_eq_append_getElem h]; simp [h]

theorem drop_cons_sp (l : List Sp) (k : Nat) (h : k < l.length) : l.drop k = l.getD k sp0 :: l.drop (k + 1) := by
  rw [List.drop_eq_getElem_cons h]; simp [h]

theorem getD_mem (l : List Sp) (k : Nat) (h : k < l.length) : l.getD k sp0 ∈ l := by
  simp [h]

/-- One more span, and the list is ascending still. -/
theorem asc_snoc_iff (lo : Int) (a : List Sp) (s : Sp) : ascB lo (a ++ [s]) = true ↔ ascB lo a = true ∧ ends lo a ≤ s.1 ∧ s.1 ≤ s.2.1 ∧ s.2.1 ≤ 1114111 := by
  rw [asc_append, asc_cons]; simp [ascB]

theorem asc_prefix {lo : Int} {l : List Sp} (k : Nat) (h : ascB lo (l.take k) = false) : ascB lo l = false := by
  cases hb : ascB lo l with
  | false => rfl
  | true =>
    rw [← List.take_append_drop k l, asc_append] at hb
    rw [hb.1] at h; cases h

def validS (l : List Sp) : Bool := decide (l.length ≤ 256) && ascB 0 l

/-- A new slice of spans is returned. -/
def OwnPost (xs : List Sp) (w : World) (e : Ending) (w' : World) : Prop :=
  ∃ v, e = .returned v ∧ Spans w' w.heap.size v xs ∧ Below w.heap.size w w'

theorem asc_getD {l : List Sp} (h : ascB 0 l = true) (k : Nat) (hk : k < l.length) : 0 ≤ (l.getD k sp0).1 ∧ (l.getD k sp0).1 ≤ (l.getD k sp0).2.1 ∧ (l.getD k sp0).2.1 ≤ 1114111 := by
  have := asc_mem h (getD_mem l k hk)
  omega

end Go.Proofs.YtmkaclfjekjabaaDoor
