/-
  keep.Tables: well-formed tables.
  keep.Tables: the walk.
-/
import Derived.Test.YtcamkjafpnojkaaDoorSxTblH
set_option linter.unusedSimpArgs false
set_option linter.unusedVariables false
namespace Go.Proofs.YtcamkjafpnojkaaDoor
open Go.RowKit
set_option linter.unusedVariables false

/-- What holds between the rounds of Tables: s in block gs, t in block g, the result in block rb, the pool in block pb. -/
structure TSt (w0 w : World) (gs g rb pb : Nat) (f : Nat → Value) (S : Nat → List Sp) (v6 : Value) (sl r : List Int) : Prop where
  src : Src w gs r
  box : BoxF w g f
  res : BoxF w rb (fun i => .slice none 0 0)
  cold : Cold w (fun b => g < b ∧ v6.ownBlock ≠ some b) f S [] [] [] [] []
  sts : Ints w (pb + 1) v6 sl
  pool : IntsIn w (some ⟨pb, 0, none⟩) poolL
  bel : Below w0.heap.size w0 w
  ord : w0.heap.size ≤ rb ∧ rb < gs ∧ gs < g ∧ g < pb
  nil : ∀ i, (i = 5 ∨ 7 ≤ i) → i < 12 → f i = .slice none 0 0

section
variable {w0 w w1 w' : World} {gs g rb pb : Nat} {f : Nat → Value} {S : Nat → List Sp} {v6 : Value} {sl r r' : List Int}
theorem TSt.own (h : TSt w0 w gs g rb pb f S v6 sl r) : ∀ b, v6.ownBlock = some b → pb + 1 ≤ b ∧ b < w.heap.size := fun b hb => World.ownsRow.lt h.sts b hb

theorem TSt.step (h : TSt w0 w gs g rb pb f S v6 sl r) (hk : Keeps w w' (fun b => b = gs)) (hs : Src w' gs r') : TSt w0 w' gs g rb pb f S v6 sl r' := by
  obtain ⟨o1, o2, o3, o4⟩ := h.ord
  have h6 := h.own
  exact ⟨hs, h.box.keeps hk (by omega), h.res.keeps hk (by omega), h.cold.keeps hk (fun b hb e hh => by omega), hk.owns h.sts (fun b hb e => by have := h6 b hb; omega), IntsIn_keeps h.pool hk (by omega), h.bel.trans (hk.below h.bel.size (fun b hb e => by omega)), h.ord, h.nil⟩
theorem TSt.below (h : TSt w0 w gs g rb pb f S v6 sl r) (hb : Below w.heap.size w w') : TSt w0 w' gs g rb pb f S v6 sl r :=
  h.step ((Keeps.of_below hb).weak (fun b hb e => by omega)) (h.src.below hb)

/-- add at list i. -/
theorem TSt.add {i : Nat} {v : Value} {L : List Sp} (h : TSt w0 w gs g rb pb f S v6 sl r) (hi : i < 7) (hi5 : i ≠ 5) (hs : Sets w w' g i v) (hv : SpV w' v L) (hl : v = f i ∨ ∀ b off n c, v = .slice (some ⟨b, off, none⟩) n c → w.heap.size ≤ b ∧ b < w'.heap.size) :
    TSt w0 w' gs g rb pb (upd f i v) (upd S i L) v6 sl r := by
  obtain ⟨o1, o2, o3, o4⟩ := h.ord
  have h6 := h.own
  have hlt := h.box.lt
  have hk := hs.keep
  refine ⟨h.src.keeps hk (fun b hb e => by omega), h.box.sets hs, h.res.keeps hk (by omega), h.cold.setS hi hk (by omega) ⟨hv, ?_⟩, hk.owns h.sts (fun b hb e => by have := h6 b hb; omega), IntsIn_keeps h.pool hk (by omega), h.bel.trans (hk.below h.bel.size (fun b hb e => by omega)), h.ord, fun j h1 h2 => by rw [upd_other _ _ (by omega)]; exact h.nil j h1 h2⟩
  intro b off n c e
  rcases hl with hl | hl
  · subst hl
    have := (h.cold.sp i hi).2 b off n c e
    exact ⟨this.1, Nat.lt_of_lt_of_le this.2 hk.size⟩
  · have := hl b off n c e
    exact ⟨⟨by omega, fun e6 => by have := h6 b e6; omega⟩, this.2⟩

/-- One status more. -/
theorem TSt.more {v : Value} {z : Int} (h : TSt w0 w gs g rb pb f S v6 sl r) (ho : Ints w' (pb + 1) v (sl ++ [z])) (hg : w1.grownBy w' v6.ownBlock) (hv : v.ownBlock = v6.ownBlock ∨ v.ownBlock = some w1.heap.size) (hb : Below w.heap.size w w1) :
    TSt w0 w' gs g rb pb f S v (sl ++ [z]) r := by
  obtain ⟨o1, o2, o3, o4⟩ := h.ord
  have h6 := h.own
  have hz := hb.size
  have hlt := h.box.lt
  have hk : Keeps w w' (fun b => v6.ownBlock = some b) := (Keeps.of_below hb).trans (Keeps.of_grown hg) (fun b hb e => by omega) (fun _ _ e => e)
  have hR : ∀ b, b ≤ pb → ¬ v6.ownBlock = some b := fun b hb e => by have := h6 b e; omega
  have hnew : ∀ b, b < w.heap.size → v6.ownBlock ≠ some b → v.ownBlock ≠ some b := by
    intro b hb hn e
    rcases hv with hv | hv
    · exact hn (by rw [← hv, e])
    · rw [hv] at e; injection e with e; omega
  refine ⟨h.src.keeps hk (fun b hb => hR b (by omega)), h.box.keeps hk (hR g (by omega)), h.res.keeps hk (hR rb (by omega)), ?_, ho, IntsIn_keeps h.pool hk (hR pb (by omega)), h.bel.trans (hk.below h.bel.size (fun b hb e => by have := h6 b e; omega)), h.ord, h.nil⟩
  have h1 := h.cold.weak (Q := fun b => (g < b ∧ v6.ownBlock ≠ some b) ∧ b < w.heap.size) (fun b hb e => ⟨e, hb⟩)
  have h2 := h1.keeps hk (fun b hb e hh => hh.1.2 e)
  exact h2.weak (fun b hb e => ⟨e.1.1, hnew b e.2 e.1.2⟩)
end

/-- The six properties of a code point in block ub. -/
def UBox (w : World) (ub : Nat) (u : Nat → Int) : Prop := ∀ i, i < 6 → w.cell? ⟨ub, i, none⟩ = some (.int .i64 (u i)) ∧ w.frozen? ⟨ub, i, none⟩ = false

theorem UBox.new (w : World) (u : Nat → Int) (t : TypeId) : UBox (w.alloc (.cells #[.int .i64 (u 0), .int .i64 (u 1), .int .i64 (u 2), .int .i64 (u 3), .int .i64 (u 4), .int .i64 (u 5)] t)) w.heap.size u := by
  intro i hi
  have : i = 0 ∨ i = 1 ∨ i = 2 ∨ i = 3 ∨ i = 4 ∨ i = 5 := by omega
  rcases this with rfl | rfl | rfl | rfl | rfl | rfl <;> simp [World.cell?_alloc_new]
theorem UBox.keeps {w w' : World} {R : Nat → Prop} {ub : Nat} {u : Nat → Int} (h : UBox w ub u) (hk : Keeps w w' R) (hr : ¬ R ub) : UBox w' ub u := by
  intro i hi
  obtain ⟨h1, h2⟩ := h i hi
  exact ⟨hk.cell h1 hr, (World.frozen?_of_block (a := ⟨ub, i, none⟩) (hk.block ub (World.block_lt_of_cell? w _ h1) hr)).trans h2⟩
theorem UBox.lt {w : World} {ub : Nat} {u : Nat → Int} (h : UBox w ub u) : ub < w.heap.size := World.block_lt_of_cell? w _ (h 0 (by omega)).1
theorem UBox.set {w : World} {ub i : Nat} {u : Nat → Int} (h : UBox w ub u) (hi : i < 6) (v : Int) : UBox (w.setCell ⟨ub, i, none⟩ (.int .i64 v)) ub (upd u i v) := by
  intro j hj
  obtain ⟨h1, h2⟩ := h j hj
  refine ⟨?_, (World.frozen?_setCell _ _ _ _).trans h2⟩
  by_cases e : j = i
  · subst e; rw [upd_same]; exact World.cell?_setCell_same _ _ _ h1
  · rw [upd_other _ _ e]; exact (World.cell?_setCell_other _ _ _ _ (by intro e2; cases e2; exact e rfl)).trans h1

/-- In round k: the first j lists have had their turn. -/
structure Prog (k j : Nat) (S : Nat → List Sp) : Prop where
  cat : PoolSp (if 0 < j then k + 1 else k) 8 (S 0)
  cls : PoolSp (if 1 < j then k + 1 else k) 254 (S 1)
  joi : PoolSp (if 2 < j then k + 1 else k) 5 (S 2)
  bid : PoolSp (if 3 < j then k + 1 else k) 11 (S 3)
  scr : PoolSp (if 4 < j then k + 1 else k) 60 (S 4)
  ign : PoolSp (if 5 < j then k + 1 else k) 1 (S 6)
  sta : S 5 = []

theorem Prog.len {k j : Nat} {S : Nat → List Sp} (h : Prog k j S) (hk : k < 28) : (S 0).length ≤ 1000 ∧ (S 1).length ≤ 1000 ∧ (S 2).length ≤ 1000 ∧ (S 3).length ≤ 1000 ∧ (S 4).length ≤ 1000 ∧ (S 6).length ≤ 1000 := by
  have h0 := h.cat.len
  have h1 := h.cls.len
  have h2 := h.joi.len
  have h3 := h.bid.len
  have h4 := h.scr.len
  have h6 := h.ign.len
  have key : ∀ c : Prop, ∀ _ : Decidable c, (if c then k + 1 else k) ≤ 28 := by intro c _; split <;> omega
  refine ⟨Nat.le_trans h0 (Nat.le_trans (key _ _) (by omega)), Nat.le_trans h1 (Nat.le_trans (key _ _) (by omega)), Nat.le_trans h2 (Nat.le_trans (key _ _) (by omega)), Nat.le_trans h3 (Nat.le_trans (key _ _) (by omega)), Nat.le_trans h4 (Nat.le_trans (key _ _) (by omega)), Nat.le_trans h6 (Nat.le_trans (key _ _) (by omega))⟩

/-- The lists so far. -/
structure Lists (k : Nat) (S : Nat → List Sp) (sl : List Int) : Prop where
  cat : PoolSp k 8 (S 0)
  cls : PoolSp k 254 (S 1)
  joi : PoolSp k 5 (S 2)
  bid : PoolSp k 11 (S 3)
  scr : PoolSp k 60 (S 4)
  ign : PoolSp k 1 (S 6)
  sta : S 5 = []
  len : sl.length = k
  five : ∀ i, i < k → ok5 (sl.getD i 0)

theorem Lists.prog {k : Nat} {S : Nat → List Sp} {sl : List Int} (h : Lists k S sl) : Prog k 0 S := ⟨h.cat, h.cls, h.joi, h.bid, h.scr, h.ign, h.sta⟩
theorem Lists.start : Lists 0 (fun _ => []) [] := ⟨PoolSp.nil _, PoolSp.nil _, PoolSp.nil _, PoolSp.nil _, PoolSp.nil _, PoolSp.nil _, rfl, rfl, fun i h => absurd h (Nat.not_lt_zero _)⟩

end Go.Proofs.YtcamkjafpnojkaaDoor

namespace Go.Proofs.YtcamkjafpnojkaaDoor
open Go.RowKit
set_option linter.unusedVariables false

abbrev nilC : Array Value := #[.slice none 0 0, .slice none 0 0, .slice none 0 0, .slice none 0 0, .slice none 0 0, .slice none 0 0, .slice none 0 0, .slice none 0 0, .slice none 0 0, .slice none 0 0, .slice none 0 0, .slice none 0 0]
theorem BoxF.new (w : World) (t : TypeId) : BoxF (w.alloc (.cells nilC t)) w.heap.size (fun _ => .slice none 0 0) := by
  intro i hi
  have : i = 0 ∨ i = 1 ∨ i = 2 ∨ i = 3 ∨ i = 4 ∨ i = 5 ∨ i = 6 ∨ i = 7 ∨ i = 8 ∨ i = 9 ∨ i = 10 ∨ i = 11 := by omega
  rcases this with rfl | rfl | rfl | rfl | rfl | rfl | rfl | rfl | rfl | rfl | rfl | rfl <;> simp [World.cell?_alloc_new]

/-- Six numbers in block ub. -/
def UB6 (w : World) (ub : Nat) (a0 a1 a2 a3 a4 a5 : Int) : Prop :=
  (w.cell? ⟨ub, 0, none⟩ = some (.int .i64 a0) ∧ w.cell? ⟨ub, 1, none⟩ = some (.int .i64 a1) ∧ w.cell? ⟨ub, 2, none⟩ = some (.int .i64 a2) ∧ w.cell? ⟨ub, 3, none⟩ = some (.int .i64 a3) ∧ w.cell? ⟨ub, 4, none⟩ = some (.int .i64 a4) ∧ w.cell? ⟨ub, 5, none⟩ = some (.int .i64 a5)) ∧
    ∀ j, w.frozen? ⟨ub, j, none⟩ = false
def B6 (a0 a1 a2 a3 a4 a5 : Int) : Prop := (0 ≤ a0 ∧ a0 ≤ 8) ∧ (0 ≤ a1 ∧ a1 ≤ 254) ∧ (0 ≤ a2 ∧ a2 ≤ 5) ∧ (0 ≤ a3 ∧ a3 ≤ 11) ∧ (0 ≤ a4 ∧ a4 ≤ 60) ∧ ok5 a5

section
variable {w w' : World} {R : Nat → Prop} {ub : Nat} {a0 a1 a2 a3 a4 a5 : Int}
theorem UB6.new (w : World) (t : TypeId) (a0 a1 a2 a3 a4 a5 : Int) : UB6 (w.alloc (.cells #[.int .i64 a0, .int .i64 a1, .int .i64 a2, .int .i64 a3, .int .i64 a4, .int .i64 a5] t)) w.heap.size a0 a1 a2 a3 a4 a5 := by
  refine ⟨⟨?_, ?_, ?_, ?_, ?_, ?_⟩, fun j => ?_⟩ <;> simp [World.cell?_alloc_new]
theorem UB6.lt (h : UB6 w ub a0 a1 a2 a3 a4 a5) : ub < w.heap.size := World.block_lt_of_cell? w _ h.1.1
theorem UB6.keeps (h : UB6 w ub a0 a1 a2 a3 a4 a5) (hk : Keeps w w' R) (hr : ¬ R ub) : UB6 w' ub a0 a1 a2 a3 a4 a5 := by
  obtain ⟨⟨h0, h1, h2, h3, h4, h5⟩, hf⟩ := h
  have hlt := World.block_lt_of_cell? w _ h0
  exact ⟨⟨hk.cell h0 hr, hk.cell h1 hr, hk.cell h2 hr, hk.cell h3 hr, hk.cell h4 hr, hk.cell h5 hr⟩, fun j => (World.frozen?_of_block (a := ⟨ub, j, none⟩) (hk.block ub hlt hr)).trans (hf j)⟩
end

section
variable {w : World} {P : Nat → Prop} {f : Nat → Value} {S : Nat → List Sp} {E M D R : List Mp} {X : List Int}
end

end Go.Proofs.YtcamkjafpnojkaaDoor
