/-
  Appending one number to a slice of the call's own.
-/
import Derived.Test.YtmkaclfjekjabaaDoorTabMem
import Derived.Test.YtmkaclfjekjabaaDoorAppend
namespace Go.Proofs.YtmkaclfjekjabaaDoor
open Go.RowKit

theorem one_int (w : World) (z : Int) (ty : TypeId) : IntsIn (w.alloc (.cells #[.int .i64 z] ty)) (some ⟨w.heap.size, 0, none⟩) [z] := by
  intro k hk
  obtain rfl : k = 0 := by simp at hk; omega
  refine ⟨_, _, rfl, ?_⟩
  simp [World.cell?_alloc_new]

theorem wpList_append_int {W : World} {ops : Array Oper} {rest : List Oper} {o : Oper} {a : Act} {Q : Exit → Act → World → Prop} (s x : Operand)
    (ho : o.op = .call { callee := .builtin .append, args := #[s, x], argTypes := #[24, 24] })
    (hw : Region.wanted o (yielded ops a.tmps) = true)
    (base : Nat) (v : Value) (xs : List Int) (hs : a.eval s = v) (hown : Ints W base v xs)
    (z : Int) (c g : Nat) (hx : a.eval x = .slice (some ⟨g, 0, none⟩) 1 c) (hg : g = W.heap.size)
    (hlen : xs.length ≤ 1099511627775) (hbase : base ≤ W.heap.size)
    (h : ∀ v' w', Ints w' base v' (xs ++ [z]) → W.grownBy w' v.ownBlock → wpList Tryd.prog ops Q rest (a.put o.dst v') w') : wpList Tryd.prog ops Q (o :: rest) a (W.alloc (.cells #[.int .i64 z] 3)) := by
  subst hg
  refine wpList_append_ints s x ho hw base v xs hs (World.ownsRow.alloc hown _) _ 1 c [z] rfl hx (one_int W z _) (by simp; omega) (by simp; omega) ?_
  intro v' w' h1 h2
  refine h v' w' h1 ?_
  have hA := World.grownBy_alloc W (.cells #[.int .i64 z] 3) v.ownBlock
  exact ⟨h2.os.trans hA.os, h2.tape.trans hA.tape, h2.output.trans hA.output, Nat.le_trans hA.size h2.size, fun i hi hne => (h2.block i (Nat.lt_of_lt_of_le hi hA.size) hne).trans (hA.block i hi hne)⟩

theorem Ints.base {w : World} {B : Nat} {v : Value} {l : List Int} (h : Ints w B v l) : ∀ k, v.ownBlock = some k → B ≤ k := fun k hk => (World.ownsRow.lt h k hk).1
theorem Ints.alloc {w : World} {B : Nat} {v : Value} {l : List Int} (h : Ints w B v l) (o : Obj) : Ints (w.alloc o) B v l := World.ownsRow.alloc h o
theorem Ints.mono {w : World} {B B' : Nat} {v : Value} {l : List Int} (h : Ints w B v l) (hB : B' ≤ B) : Ints w B' v l := ownsRow_mono h hB

/-- Behind an append to a row of the call's own, below B all is as it was. -/
theorem below_appI {B : Nat} {a W w1 : World} {v : Value} {l : List Int} (h : Below B a W) (ho : Ints W B v l) (hB : B ≤ a.heap.size) (hg : W.grownBy w1 v.ownBlock) : Below B a w1 :=
  h.grown hg (Nat.le_trans hB h.size) ho.base

end Go.Proofs.YtmkaclfjekjabaaDoor
