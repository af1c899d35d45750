/-
  Slices of slices of ints, and slices of strings: read, and made.
-/
import Derived.Test.YtiafhifbgdkgaaaGreatDoorPkA
import Derived.Laws.OwnMore
import Derived.Maps.AppendAt
set_option linter.unusedSimpArgs false
set_option linter.unusedVariables false
namespace Go.Proofs.YtiafhifbgdkgaaaGreatDoor
open Go.RowKit
set_option linter.unusedVariables false

/-! ### read -/
/-- A slice of slices of ints that is only read. -/
def LsIn (w : World) (p : Option Addr) (L : List (List Int)) : Prop :=
  ∀ k, k < L.length → ∃ b off q c, p = some ⟨b, off, none⟩ ∧ w.cell? ⟨b, off + k, none⟩ = some (.slice q (L.getD k []).length c) ∧ (L.getD k []).length ≤ c ∧ IntsIn w q (L.getD k [])
theorem LsIn.below {w w' : World} {p : Option Addr} {L : List (List Int)} (h : LsIn w p L) (hb : Below w.heap.size w w') : LsIn w' p L := by
  intro k hk
  obtain ⟨b, off, q, c, e, hc, hl, hi⟩ := h k hk
  exact ⟨b, off, q, c, e, (hb.cell (p := ⟨b, off + k, none⟩) (World.block_lt_of_cell? w _ hc)).trans hc, hl, hi.below hb⟩
theorem LsIn.nil (w : World) (p : Option Addr) : LsIn w p [] := fun k hk => by simp at hk
/-- A slice of strings that is only read. -/
def StrIn (w : World) (p : Option Addr) (L : List ByteArray) : Prop :=
  ∀ k, k < L.length → ∃ b off, p = some ⟨b, off, none⟩ ∧ w.cell? ⟨b, off + k, none⟩ = some (.string (L.getD k ByteArray.empty))
theorem StrIn.below {w w' : World} {p : Option Addr} {L : List ByteArray} (h : StrIn w p L) (hb : Below w.heap.size w w') : StrIn w' p L := by
  intro k hk
  obtain ⟨b, off, e, hc⟩ := h k hk
  exact ⟨b, off, e, (hb.cell (p := ⟨b, off + k, none⟩) (World.block_lt_of_cell? w _ hc)).trans hc⟩
theorem StrIn.nil (w : World) (p : Option Addr) : StrIn w p [] := fun k hk => by simp at hk

/-! ### strings that a call makes -/
theorem Tryz.info9 : (Tryz.prog.info? 9).map (fun i => (i.zero, i.size, i.bytes)) = some (some (.string ByteArray.empty), 1, 16) := by kernel_rfl
def Strs (w : World) (B : Nat) (v : Value) (L : List ByteArray) : Prop := w.ownsRow B 9 1 v L.length (L.map Value.string)
theorem Strs.nil (w : World) (B : Nat) : Strs w B (.slice none 0 0) [] := World.ownsRow_nil _ _ _ _
theorem Strs.below {w w' : World} {B : Nat} {v : Value} {L : List ByteArray} (h : Strs w B v L) (hb : Below w.heap.size w w') : Strs w' B v L := ownsRow_below h hb
theorem Strs.inn {w : World} {B : Nat} {v : Value} {L : List ByteArray} (h : Strs w B v L) : ∃ p cap, v = .slice p L.length cap ∧ StrIn w p L ∧ L.length ≤ cap := by
  obtain ⟨h1, h2⟩ := h
  rcases h2 with ⟨rfl, h3⟩ | ⟨g, cap, cur, rfl, hB, hg, hn, hc, hs, ht⟩
  · have : L = [] := List.eq_nil_of_length_eq_zero h3
    subst this
    exact ⟨none, 0, rfl, fun k hk => by simp at hk, Nat.le_refl _⟩
  · refine ⟨_, cap, rfl, fun k hk => ⟨g, 0, rfl, ?_⟩, hn⟩
    rw [cell_of_row w g (0 + k) cur _ (0, 0) hg, Nat.zero_add]
    have e : (cur.toList.take (L.length * 1))[k]? = (L.map Value.string)[k]? := by rw [ht]
    rw [List.getElem?_take, if_pos (by omega)] at e
    simpa [List.getD, List.getElem?_eq_getElem hk] using e

theorem ints_capL {w : World} {B : Nat} {v : Value} {zs : List Int} (h : Ints w B v zs) : ∃ p cap, v = .slice p zs.length cap ∧ IntsIn w p zs ∧ zs.length ≤ cap := by
  obtain ⟨h1, h2⟩ := h
  rcases h2 with ⟨rfl, h3⟩ | ⟨g, cap, cur, rfl, hB, hg, hn, hc, hs, ht⟩
  · have : zs = [] := List.eq_nil_of_length_eq_zero h3
    subst this
    exact ⟨none, 0, rfl, fun k hk => by simp at hk, Nat.le_refl _⟩
  · obtain ⟨p, c, e, hi⟩ := Ints.inn (w := w) (B := B) (zs := zs) ⟨h1, .inr ⟨g, cap, cur, rfl, hB, hg, hn, hc, hs, ht⟩⟩
    injection e with e1 e2 e3
    subst e1; subst e3
    exact ⟨_, cap, rfl, hi, hn⟩

/-! ### slices of ints that a call makes, in a slice that it makes -/
theorem Tryz.info22 : (Tryz.prog.info? 22).map (fun i => (i.zero, i.size, i.bytes)) = some (some (.slice none 0 0), 1, 24) := by kernel_rfl
/-- A label's value: its cells lie behind B and may be written. -/
def Lab (w : World) (B : Nat) (v : Value) (x : List Int) : Prop :=
  ∃ q c, v = .slice q x.length c ∧ x.length ≤ c ∧ IntsIn w q x ∧ (q = none ∨ ∃ b off, q = some ⟨b, off, none⟩ ∧ B ≤ b ∧ b < w.heap.size ∧ ∀ i, i < x.length → w.frozen? ⟨b, off + i, none⟩ = false)
def labBlk (v : Value) : Option Nat := match v with | .slice (some a) _ _ => some a.block | _ => none
theorem Lab.nil (w : World) (B : Nat) : Lab w B (.slice none 0 0) [] := ⟨none, 0, rfl, Nat.le_refl _, fun k hk => by simp at hk, .inl rfl⟩
theorem Lab.kept {w w' : World} {B : Nat} {v : Value} {x : List Int} {row : Option Nat} (h : Lab w B v x) (hg : w.grownBy w' row) (hne : ∀ b, labBlk v = some b → row ≠ some b) : Lab w' B v x := by
  obtain ⟨q, c, rfl, hl, hi, ho⟩ := h
  refine ⟨q, c, rfl, hl, fun k hk => ?_, ?_⟩
  · obtain ⟨b, off, e, hc⟩ := hi k hk
    exact ⟨b, off, e, hg.cell hc (fun e2 => hne b (by rw [e]; rfl) e2.symm)⟩
  · rcases ho with ho | ⟨b, off, e, h1, h2, h3⟩
    · exact .inl ho
    · refine .inr ⟨b, off, e, h1, Nat.lt_of_lt_of_le h2 hg.size, fun i hix => ?_⟩
      exact (World.frozen?_of_block (hg.block b h2 (fun e2 => hne b (by rw [e]; rfl) e2.symm))).trans (h3 i hix)
theorem Lab.mono {w : World} {B B' : Nat} {v : Value} {x : List Int} (h : Lab w B v x) (hB : B' ≤ B) : Lab w B' v x := by
  obtain ⟨q, c, e, hl, hi, ho⟩ := h
  refine ⟨q, c, e, hl, hi, ?_⟩
  rcases ho with ho | ⟨b, off, e, h1, h2, h3⟩
  · exact .inl ho
  · exact .inr ⟨b, off, e, Nat.le_trans hB h1, h2, h3⟩
theorem Lab.lt {w : World} {B : Nat} {v : Value} {x : List Int} (h : Lab w B v x) {b : Nat} (hb : labBlk v = some b) : B ≤ b ∧ b < w.heap.size := by
  obtain ⟨q, c, rfl, h1, h2, h3⟩ := h
  rcases h3 with rfl | ⟨b', off, rfl, h4, h5, _⟩
  · cases hb
  · cases hb; exact ⟨h4, h5⟩
theorem Lab.ofInts {w : World} {B : Nat} {v : Value} {x : List Int} (h : Ints w B v x) : Lab w B v x ∧ labBlk v = v.ownBlock := by
  have h0 := h
  obtain ⟨h1, h2⟩ := h
  rcases h2 with ⟨rfl, h3⟩ | ⟨g, cap, cur, rfl, hB, hg, hn, hc, hs, ht⟩
  · have : x = [] := List.eq_nil_of_length_eq_zero h3
    subst this
    exact ⟨Lab.nil w B, rfl⟩
  · have hlt := World.ownsRow.lt h0 g rfl
    refine ⟨⟨some ⟨g, 0, none⟩, cap, rfl, hn, ?_, .inr ⟨g, 0, rfl, hB, hlt.2, fun i hix => ?_⟩⟩, rfl⟩
    · obtain ⟨p, c, e, hi⟩ := h0.inn
      injection e with e1 e2 e3
      subst e1
      exact hi
    · rw [Nat.zero_add]
      exact World.ownsRow.frozenAt h0 i

/-- Labels under way: the slice of slices, and where its labels lie. -/
structure Labs (w : World) (B : Nat) (u : Value) (L : List (List Int)) (Vs : List Value) : Prop where
  own : w.ownsRow B 22 1 u L.length Vs
  len : Vs.length = L.length
  lab : ∀ k, k < L.length → Lab w B (Vs.getD k (.slice none 0 0)) (L.getD k [])
  off : ∀ k b, k < L.length → labBlk (Vs.getD k (.slice none 0 0)) = some b → u.ownBlock ≠ some b

/-- Labels, as a call leaves them. -/
structure LsNew (w : World) (B g cap : Nat) (L : List (List Int)) : Prop where
  hd : ∀ k, k < L.length → ∃ v, w.cell? ⟨g, k, none⟩ = some v ∧ Lab w B v (L.getD k []) ∧ labBlk v ≠ some g
  soft : ∀ k, k < L.length → w.frozen? ⟨g, k, none⟩ = false
  lo : B ≤ g
  hi : g < w.heap.size
  room : L.length ≤ cap
  most : cap ≤ maxLen
theorem LsNew.below {w w' : World} {B g cap : Nat} {L : List (List Int)} (h : LsNew w B g cap L) (hb : Below w.heap.size w w') : LsNew w' B g cap L where
  hd := fun k hk => by
    obtain ⟨v, h1, h2, h3⟩ := h.hd k hk
    exact ⟨v, (hb.cell (p := ⟨g, k, none⟩) h.hi).trans h1, h2.kept (below_grownBy hb none) (fun b _ e => by cases e), h3⟩
  soft := fun k hk => (World.frozen?_of_block (hb.block g h.hi)).trans (h.soft k hk)
  lo := h.lo
  hi := Nat.lt_of_lt_of_le h.hi hb.size
  room := h.room
  most := h.most
theorem LsNew.inn {w : World} {B g cap : Nat} {L : List (List Int)} (h : LsNew w B g cap L) : LsIn w (some ⟨g, 0, none⟩) L := by
  intro k hk
  obtain ⟨v, h1, ⟨q, c, rfl, h2, h3, _⟩, _⟩ := h.hd k hk
  exact ⟨g, 0, q, c, rfl, by rw [Nat.zero_add]; exact h1, h2, h3⟩
theorem LsNew.mono {w : World} {B B' g cap : Nat} {L : List (List Int)} (h : LsNew w B g cap L) (hB : B' ≤ B) : LsNew w B' g cap L where
  hd := fun k hk => by
    obtain ⟨v, h1, h2, h3⟩ := h.hd k hk
    exact ⟨v, h1, h2.mono hB, h3⟩
  soft := h.soft
  lo := Nat.le_trans hB h.lo
  hi := h.hi
  room := h.room
  most := h.most
theorem Labs.new {w : World} {B : Nat} {u : Value} {L : List (List Int)} {Vs : List Value} (h : Labs w B u L Vs) (hne : L ≠ []) : ∃ g cap, u = .slice (some ⟨g, 0, none⟩) L.length cap ∧ LsNew w B g cap L := by
  have h0 := h.own
  obtain ⟨h1, h2⟩ := h.own
  have hlen : 0 < L.length := List.length_pos_iff.2 hne
  rcases h2 with ⟨rfl, h3⟩ | ⟨g, cap, cur, rfl, hB, hg, hn, hc, hs, ht⟩
  · omega
  · have hlt := World.ownsRow.lt h0 g rfl
    refine ⟨g, cap, rfl, ⟨fun k hk => ?_, fun k _ => World.ownsRow.frozenAt h0 k, hB, hlt.2, hn, hc⟩⟩
    have hc1 := World.ownsRow.cellAt h0 k (by omega)
    have hk2 : k < Vs.length := by rw [h.len]; exact hk
    refine ⟨Vs.getD k (.slice none 0 0), ?_, h.lab k hk, fun e => h.off k g hk e rfl⟩
    rw [hc1]
    simp [List.getD, hk2]

theorem Labs.opened {w : World} {B : Nat} {u : Value} {L : List (List Int)} {Vs : List Value} (h : Labs w B u L Vs) (hne : L ≠ []) : ∃ g cap, u = .slice (some ⟨g, 0, none⟩) L.length cap ∧ B ≤ g ∧ g < w.heap.size := by
  have h0 := h.own
  obtain ⟨h1, h2⟩ := h.own
  have hlen : 0 < L.length := List.length_pos_iff.2 hne
  rcases h2 with ⟨rfl, h3⟩ | ⟨g, cap, cur, rfl, hB, hg, hn, hc, hs, ht⟩
  · omega
  · exact ⟨g, cap, rfl, World.ownsRow.lt h0 g rfl⟩
end Go.Proofs.YtiafhifbgdkgaaaGreatDoor
