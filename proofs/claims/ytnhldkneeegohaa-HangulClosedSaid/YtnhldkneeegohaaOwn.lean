/-
  Small words on slices that a call owns.
-/
import Derived.Test.YtnhldkneeegohaaRows
import Derived.WalkKit
import Derived.WalkSpells
import Derived.WalkLawsBesides
import Derived.Lib.Hide
import Derived.Laws.BytesArg
namespace Go.Proofs.Ytnhldkneeegohaa
open Go.RowKit

theorem below_grownBy {w w' : World} (h : Below w.heap.size w w') (row : Option Nat) : w.grownBy w' row :=
  ⟨h.os, h.tape, h.output, h.size, fun k hk _ => h.block k hk⟩

/-- An owned row is kept by a call that only makes memory. -/
theorem ownsRow_below {w w' : World} {B : Nat} {e : TypeId} {z : Nat} {v : Value} {n : Nat} {xs : List Value} (h : w.ownsRow B e z v n xs) (hb : Below w.heap.size w w') : w'.ownsRow B e z v n xs :=
  h.kept (below_grownBy hb none) (by cases v.ownBlock <;> simp)

/-- An owned row from B on is owned from every smaller number on. -/
theorem ownsRow_mono {w : World} {B B' : Nat} {e : TypeId} {z : Nat} {v : Value} {n : Nat} {xs : List Value} (h : w.ownsRow B e z v n xs) (hB : B' ≤ B) : w.ownsRow B' e z v n xs := by
  obtain ⟨h1, h2⟩ := h
  refine ⟨h1, ?_⟩
  rcases h2 with h2 | ⟨g, cap, cur, a, b, c⟩
  · exact .inl h2
  · exact .inr ⟨g, cap, cur, a, by omega, c⟩

theorem below_own {B : Nat} {w wr w1 : World} {row : Option Nat} (h : Below B w wr) (hg : wr.grownBy w1 row) (hB : B ≤ w.heap.size) (hr : ∀ k, row = some k → B ≤ k) : Below B w w1 :=
  h.grown hg (Nat.le_trans hB h.size) hr

theorem Try.info3 : (Try.prog.info? 3).map (fun i => (i.zero, i.size, i.bytes)) = some (some (.int .i64 0), 1, 8) := by kernel_rfl

/-- A new slice of ints. -/
def Ints (w : World) (B : Nat) (v : Value) (xs : List Int) : Prop := w.ownsRow B 3 1 v xs.length (xs.map (.int .i64))

theorem Ints.nil (w : World) (B : Nat) : Ints w B (.slice none 0 0) [] := World.ownsRow_nil _ _ _ _
theorem Ints.below {w w' : World} {B : Nat} {v : Value} {xs : List Int} (h : Ints w B v xs) (hb : Below w.heap.size w w') : Ints w' B v xs := ownsRow_below h hb

/-- The numbers of a slice that is only read: the cell of each place. -/
def RowIn (t : IntKind) (w : World) (p : Option Addr) (zs : List Int) : Prop :=
  ∀ k, k < zs.length → ∃ b off, p = some ⟨b, off, none⟩ ∧ w.cell? ⟨b, off + k, none⟩ = some (.int t (zs.getD k 0))

abbrev IntsIn (w : World) (p : Option Addr) (zs : List Int) : Prop := RowIn .i64 w p zs
abbrev BytesInS (w : World) (p : Option Addr) (zs : List Int) : Prop := RowIn .u8 w p zs

theorem RowIn.below {t : IntKind} {w w' : World} {p : Option Addr} {zs : List Int} (h : RowIn t w p zs) (hb : Below w.heap.size w w') : RowIn t w' p zs := by
  intro k hk
  obtain ⟨b, off, e, hc⟩ := h k hk
  exact ⟨b, off, e, (hb.cell (p := ⟨b, off + k, none⟩) (World.block_lt_of_cell? w _ hc)).trans hc⟩

theorem RowIn.alloc {t : IntKind} {w : World} {p : Option Addr} {zs : List Int} (h : RowIn t w p zs) (o : Obj) : RowIn t (w.alloc o) p zs :=
  h.below ((Below.refl _ _).alloc (Nat.le_refl _) o)

/-- What the frame of a law tells of a slice of integers that came in: it is nil; or it leads to a row of 'cap' cells. -/
def IsRow (k : IntKind) (w : World) (a : Option Addr) (len cap : Nat) (zs : List Int) : Prop :=
  (a = none ∧ len = 0 ∧ cap = 0 ∧ zs = []) ∨
  ∃ x, a = some x ∧ len ≤ cap ∧ cap * (k.bits / 8) ≤ 140737488351232 ∧ zs.length = cap ∧ (∀ i, i < zs.length → w.cell? (x.add i) = some (.int k (zs.getD i 0))) ∧ ∀ n ∈ zs, (Lit.int k n).wf = true

theorem IsRow.inn {t : IntKind} {w : World} {a : Option Addr} {len cap : Nat} {zs : List Int} (h : IsRow t w a len cap zs) :
    ∃ xs : List Int, len = xs.length ∧ xs.length * (t.bits / 8) ≤ 140737488351232 ∧ RowIn t w a xs ∧ ∀ n ∈ xs, (Lit.int t n).wf = true := by
  rcases h with ⟨rfl, rfl, rfl, rfl⟩ | ⟨x, rfl, h1, h2, h3, h4, h5⟩
  · exact ⟨[], rfl, by simp, fun k hk => by simp at hk, by simp⟩
  · refine ⟨zs.take len, by simp; omega, Nat.le_trans (Nat.mul_le_mul_right _ (by simp; omega)) h2, fun k hk => ?_, fun n hn => h5 n (List.mem_of_mem_take hn)⟩
    have hk' : k < len := by simp at hk; omega
    have hz : k < zs.length := by omega
    have h0 := h4 0 (by omega)
    have hs : x.spot = none := by
      rw [Addr.add_zero'] at h0
      unfold World.cell? at h0
      split at h0
      · split at h0
        · cases h0
        · rename_i hh; simpa using hh
      · cases h0
    obtain ⟨b, off, sp⟩ := x
    subst hs
    refine ⟨b, off, rfl, ?_⟩
    have := h4 k hz
    rw [Addr.add_lit] at this
    rw [this]
    simp [hk', hz]

theorem Ints.inn {w : World} {B : Nat} {v : Value} {zs : List Int} (h : Ints w B v zs) : ∃ p cap, v = .slice p zs.length cap ∧ IntsIn w p zs := by
  obtain ⟨h1, h2⟩ := h
  rcases h2 with ⟨rfl, h3⟩ | ⟨g, cap, cur, rfl, hB, hg, hn, hc, hs, ht⟩
  · have : zs = [] := List.eq_nil_of_length_eq_zero h3
    subst this
    exact ⟨none, 0, rfl, fun k hk => by simp at hk⟩
  · refine ⟨_, cap, rfl, fun k hk => ⟨g, 0, rfl, ?_⟩⟩
    rw [cell_of_row w g (0 + k) cur _ (0, 0) hg, Nat.zero_add]
    have e : (cur.toList.take (zs.length * 1))[k]? = (zs.map (Value.int .i64))[k]? := by rw [ht]
    rw [List.getElem?_take, if_pos (by omega)] at e
    simpa [List.getD, List.getElem?_eq_getElem hk] using e

theorem take_snoc_int (l : List Int) (k : Nat) (h : k < l.length) : l.take (k + 1) = l.take k ++ [l.getD k 0] := by
  rw [List.take_succ_eq_append_getElem h]; simp [h]

end Go.Proofs.Ytnhldkneeegohaa
