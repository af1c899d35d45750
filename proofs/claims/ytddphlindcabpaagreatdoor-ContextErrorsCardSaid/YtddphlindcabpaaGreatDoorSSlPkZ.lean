/-
  decompose: plain mathematics: what a code point and a list are expanded to; canonical order of parts.
  decompose: plain mathematics: NFD, its errors, equivalence.
  Rows of ints that a chain of calls appends to: where the new row lies. slices.Clone, table.Decomp: new slices.
-/
import Derived.Test.YtddphlindcabpaaGreatDoorSSlPkE
import Derived.Test.YtddphlindcabpaaGreatDoorSSlHanSpec
import Derived.Test.YtddphlindcabpaaGreatDoorSSlPkR
import Derived.Test.YtddphlindcabpaaGreatDoorSSlTblR
import Derived.Test.YtddphlindcabpaaGreatDoorSSlPkT
set_option linter.unusedSimpArgs false
set_option linter.unusedVariables false
namespace Go.Proofs.YtddphlindcabpaaGreatDoor
set_option linter.unusedVariables false

/-- What a code point is expanded to, and a list. -/
def expT (T : Tb) (c : Int) : List Int := if decS c = [] then ful T.dec c else decS c
def flatT (T : Tb) (l : List Int) : List Int := l.flatMap (expT T)

theorem check_rules {T : Tb} (h : checkT T = 0) : r1 T = true ∧ r2 T = true ∧ r3 T = true ∧ r4 T = true ∧ r6 T = true := by
  unfold checkT at h
  split at h
  · omega
  split at h
  · omega
  split at h
  · omega
  split at h
  · omega
  split at h
  · omega
  split at h
  · omega
  rename_i h1 h2 h3 h4 h5 h6
  exact ⟨by simpa using h1, by simpa using h2, by simpa using h3, by simpa using h4, by simpa using h6⟩

theorem all_append (T : Tb) (a b : List Int) : flatT T (a ++ b) = flatT T a ++ flatT T b := by simp [flatT]
theorem all_cons (T : Tb) (c : Int) (b : List Int) : flatT T (c :: b) = expT T c ++ flatT T b := by simp [flatT]

end Go.Proofs.YtddphlindcabpaaGreatDoor

namespace Go.Proofs.YtddphlindcabpaaGreatDoor
set_option linter.unusedVariables false

end Go.Proofs.YtddphlindcabpaaGreatDoor

namespace Go.Proofs.YtddphlindcabpaaGreatDoor
open Go.RowKit
set_option linter.unusedVariables false

/-- A row u that began as v in the world w1. -/
structure Chn (B : Nat) (w1 : World) (v u : Value) (ys : List Int) (wr : World) : Prop where
  row : Ints wr B u ys
  grown : w1.grownBy wr v.ownBlock
  off : ∀ b, b < w1.heap.size → v.ownBlock ≠ some b → u.ownBlock ≠ some b

theorem Chn.start {B : Nat} {w1 : World} {v : Value} {xs : List Int} (h : Ints w1 B v xs) : Chn B w1 v v xs w1 := ⟨h, grownBy_refl _ _, fun _ _ h => h⟩

theorem Chn.step {B : Nat} {w1 wr w' : World} {v u : Value} {ys : List Int} (h : Chn B w1 v u ys wr) (hb : Below wr.heap.size wr w') : Chn B w1 v u ys w' :=
  ⟨h.row.below hb, grownBy_of_below h.grown hb, h.off⟩

theorem BoxT.off {w w' : World} {g : Nat} {x : TV} {row : Option Nat} (h : BoxT w g x) (hg : w.grownBy w' row) (hr : row ≠ some g) : BoxT w' g x := by
  obtain ⟨⟨h0, h1, h2, h3, h4, h5⟩, ⟨h6, h7, h8, h9, h10, h11⟩⟩ := h
  have key : ∀ i v, w.cell? ⟨g, i, none⟩ = some v → w'.cell? ⟨g, i, none⟩ = some v := fun i v hc => hg.cell hc (fun e => hr e.symm)
  exact ⟨⟨key _ _ h0, key _ _ h1, key _ _ h2, key _ _ h3, key _ _ h4, key _ _ h5⟩, ⟨key _ _ h6, key _ _ h7, key _ _ h8, key _ _ h9, key _ _ h10, key _ _ h11⟩⟩

theorem Chn.box {B g : Nat} {w1 wr : World} {v u : Value} {ys : List Int} {x : TV} (h : Chn B w1 v u ys wr) (hx : BoxT w1 g x) (hne : v.ownBlock ≠ some g) : BoxT wr g x := hx.off h.grown hne
theorem Chn.bel {w0 w1 wr : World} {v u : Value} {xs ys : List Int} (h : Chn w0.heap.size w1 v u ys wr) (hv : Ints w1 w0.heap.size v xs) (hb : Below w0.heap.size w0 w1) : Below w0.heap.size w0 wr := hb.grown h.grown hb.size hv.base
theorem Chn.kept {B C : Nat} {w1 wr : World} {v u q : Value} {ys fl : List Int} (h : Chn B w1 v u ys wr) (hq : Ints w1 C q fl) (hne : ∀ b, q.ownBlock = some b → v.ownBlock ≠ some b) : Ints wr C q fl := by
  refine World.ownsRow.kept hq h.grown ?_
  cases hb : q.ownBlock with
  | none => exact .inl rfl
  | some b => exact .inr fun e => hne b hb e.symm

/-- The end of the call. -/
theorem Chn.post {B : Nat} {w w1 wr : World} {v u : Value} {ys : List Int} (h : Chn B w1 v u ys wr) (hb : Below w.heap.size w w1) : w.grownBy wr v.ownBlock ∧ ∀ b, b < w.heap.size → v.ownBlock ≠ some b → u.ownBlock ≠ some b :=
  ⟨grownBy_trans (below_grownBy hb _) h.grown, fun b hlt => h.off b (Nat.lt_of_lt_of_le hlt hb.size)⟩

theorem NRet.step {L : List Int} {w w1 w2 : World} {e : Ending} (hb : Below w.heap.size w w1) (h : NRet L w1 e w2) : NRet L w e w2 := by
  obtain ⟨v, e1, ho, hb2⟩ := h
  exact ⟨v, e1, ho.mono hb.size, hb.trans (hb2.mono hb.size)⟩

end Go.Proofs.YtddphlindcabpaaGreatDoor
