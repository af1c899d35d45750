/-
  append of spans: where the new row lies; a struct variable's block.
-/
import Derived.Test.YtmkaclfjekjabaaDoorRanApp
import Derived.Maps.AppendAt
import Derived.Deep.RegionHeld3
import Derived.Deep.AppendLies
import Derived.OwnWalk
import Derived.WalkSpells
namespace Go.Proofs.YtmkaclfjekjabaaDoor
open Go.RowKit

theorem wp_append_spans_at {w : World} {o : Oper} {a : Act} {K : Act → World → Prop} {Q : Exit → Act → World → Prop} (s x : Operand)
    (ho : o.op = .call { callee := .builtin .append, args := #[s, x], argTypes := #[22, 22] })
    (base : Nat) (v : Value) (xs : List Sp) (hs : a.eval s = v) (hown : Spans w base v xs)
    (ad : Addr) (m c : Nat) (ys : List Sp) (hm : ys.length = m) (hx : a.eval x = .slice (some ad) m c) (hin : SpIn w (some ad) ys)
    (hlen : xs.length + ys.length ≤ 1099511627776) (hbase : base ≤ w.heap.size)
    (h : ∀ v' w', Spans w' base v' (xs ++ ys) → w.grownBy w' v.ownBlock → (∀ b, b < w.heap.size → v.ownBlock ≠ some b → v'.ownBlock ≠ some b) → K (a.put o.dst v') w') : o.wp Tryd.prog a w K Q := by
  subst hm
  obtain ⟨i0, hi, hz0, hz1, hz2⟩ := info_parts Tryd.infoSpan
  obtain ⟨v', w', hrun, h2, h3, _, h5⟩ := run_append_own_at (P := Tryd.prog) w base 22 o.type 50 i0 _ 3 24 Tryd.underlying22 hi hz0 hz1 hz2 rfl (by decide) v xs.length _ hown
    ad ys.length c (cellsS ys) (cellsS_length _) hin.cells (cells_one ys) (by unfold maxLen; omega) (by omega) hbase
  unfold Oper.wp execOp
  simp only [ho, resolve, invoke, builtin, Sem.run_bind, Sem.run_pure, Result.andThen_ok, List.map_toArray, List.map_cons, List.map_nil, hs, hx, hrun]
  refine h v' w' (by unfold Spans; rw [List.length_append, cellsS_append]; exact h2) h3 ?_
  intro b hb hne
  rcases h5 with e | e
  · rw [e]; exact hne
  · rw [e]; simp; omega

theorem step_append_spans_at {w : World} {ops : Array Oper} {o : Oper} {a : Act} {K : Act → World → Prop} {Q : Exit → Act → World → Prop} {E : Prop} (hgd : o.guard = none) (s x : Operand)
    (ho : o.op = .call { callee := .builtin .append, args := #[s, x], argTypes := #[22, 22] })
    (base : Nat) (v : Value) (xs : List Sp) (hs : a.eval s = v) (hown : Spans w base v xs)
    (ad : Addr) (m c : Nat) (ys : List Sp) (hm : ys.length = m) (hx : a.eval x = .slice (some ad) m c) (hin : SpIn w (some ad) ys)
    (hlen : xs.length + ys.length ≤ 1099511627776) (hbase : base ≤ w.heap.size)
    (h : ∀ v' w', Spans w' base v' (xs ++ ys) → w.grownBy w' v.ownBlock → (∀ b, b < w.heap.size → v.ownBlock ≠ some b → v'.ownBlock ≠ some b) → K (a.put o.dst v') w') :
    if Region.wanted o (yielded ops a.tmps) = true then Oper.wp Tryd.prog o a w K Q else E := by
  have hw : Region.wanted o (yielded ops a.tmps) = true := by simp [Region.wanted, hgd]
  rw [if_pos hw]
  exact wp_append_spans_at s x ho base v xs hs hown ad m c ys hm hx hin hlen hbase h

theorem wp_append_span_at {W : World} {o : Oper} {a : Act} {K : Act → World → Prop} {Q : Exit → Act → World → Prop} (s x : Operand)
    (ho : o.op = .call { callee := .builtin .append, args := #[s, x], argTypes := #[22, 22] })
    (base : Nat) (v : Value) (xs : List Sp) (hs : a.eval s = v) (hown : Spans W base v xs)
    (y : Sp) (c g : Nat) (hx : a.eval x = .slice (some ⟨g, 0, none⟩) 1 c) (hg : g = W.heap.size)
    (hlen : xs.length ≤ 1099511627775) (hbase : base ≤ W.heap.size)
    (h : ∀ v' w', Spans w' base v' (xs ++ [y]) → W.grownBy w' v.ownBlock → (∀ b, b < W.heap.size → v.ownBlock ≠ some b → v'.ownBlock ≠ some b) → K (a.put o.dst v') w') : o.wp Tryd.prog a (W.alloc (.cells #[.int .i64 y.1, .int .i64 y.2.1, .int .i64 y.2.2] 50)) K Q := by
  subst hg
  refine wp_append_spans_at s x ho base v xs hs (World.ownsRow.alloc hown _) _ 1 c [y] rfl hx (one_new W y.1 y.2.1 y.2.2 _) (by simp; omega) (by simp; omega) ?_
  intro v' w' h1 h3 h4
  have hA := World.grownBy_alloc W (.cells #[.int .i64 y.1, .int .i64 y.2.1, .int .i64 y.2.2] 50) v.ownBlock
  exact h v' w' h1 ⟨h3.os.trans hA.os, h3.tape.trans hA.tape, h3.output.trans hA.output, Nat.le_trans hA.size h3.size, fun i hi hne => (h3.block i (Nat.lt_of_lt_of_le hi hA.size) hne).trans (hA.block i hi hne)⟩ fun b hb => h4 b (by simp; omega)

theorem wpList_append_span_at {W : World} {ops : Array Oper} {rest : List Oper} {o : Oper} {a : Act} {Q : Exit → Act → World → Prop} (s x : Operand)
    (ho : o.op = .call { callee := .builtin .append, args := #[s, x], argTypes := #[22, 22] })
    (hw : Region.wanted o (yielded ops a.tmps) = true)
    (base : Nat) (v : Value) (xs : List Sp) (hs : a.eval s = v) (hown : Spans W base v xs)
    (y : Sp) (c g : Nat) (hx : a.eval x = .slice (some ⟨g, 0, none⟩) 1 c) (hg : g = W.heap.size)
    (hlen : xs.length ≤ 1099511627775) (hbase : base ≤ W.heap.size)
    (h : ∀ v' w', Spans w' base v' (xs ++ [y]) → W.grownBy w' v.ownBlock → (∀ b, b < W.heap.size → v.ownBlock ≠ some b → v'.ownBlock ≠ some b) → wpList Tryd.prog ops Q rest (a.put o.dst v') w') : wpList Tryd.prog ops Q (o :: rest) a (W.alloc (.cells #[.int .i64 y.1, .int .i64 y.2.1, .int .i64 y.2.2] 50)) := by
  unfold wpList
  rw [if_pos hw]
  exact .inl (wp_append_span_at s x ho base v xs hs hown y c g hx hg hlen hbase h)

/-- Block g holds one span, a variable of the call's own. -/
def Cur (w : World) (g : Nat) (f t v : Int) : Prop :=
  w.cell? ⟨g, 0, none⟩ = some (.int .i64 f) ∧ w.cell? ⟨g, 1, none⟩ = some (.int .i64 t) ∧ w.cell? ⟨g, 2, none⟩ = some (.int .i64 v) ∧ w.frozen? ⟨g, 0, none⟩ = false ∧ g < w.heap.size

theorem Cur.new (w : World) (f t v : Int) (ty : TypeId) : Cur (w.alloc (.cells #[.int .i64 f, .int .i64 t, .int .i64 v] ty)) w.heap.size f t v := by
  refine ⟨?_, ?_, ?_, ?_, ?_⟩ <;> simp [World.cell?_alloc_new]

theorem Cur.drewN {w : World} {g : Nat} {f t v : Int} (h : Cur w g f t v) (n : Nat) : Cur (w.drewN n) g f t v := h

theorem Cur.grown {w w' : World} {g : Nat} {f t v : Int} {row : Option Nat} (h : Cur w g f t v) (hg : w.grownBy w' row) (hne : row ≠ some g) : Cur w' g f t v := by
  obtain ⟨h1, h2, h3, h4, h5⟩ := h
  exact ⟨hg.cell h1 (Ne.symm hne), hg.cell h2 (Ne.symm hne), hg.cell h3 (Ne.symm hne), (World.frozen?_of_block (hg.block g h5 (Ne.symm hne))).trans h4, Nat.lt_of_lt_of_le h5 hg.size⟩

theorem Cur.set {w : World} {g : Nat} {f t v : Int} (h : Cur w g f t v) (x : Int) : Cur (w.setCell ⟨g, 0, none⟩ (.int .i64 x)) g x t v := by
  obtain ⟨h1, h2, h3, h4, h5⟩ := h
  exact ⟨World.cell?_setCell_same _ _ _ h1, (World.cell?_setCell_other _ _ _ _ (by simp)).trans h2, (World.cell?_setCell_other _ _ _ _ (by simp)).trans h3, (World.frozen?_setCell _ _ _ _).trans h4, by simpa [World.setCell] using h5⟩

theorem sp_grownBy_store (w : World) (g o : Nat) (v : Value) : w.grownBy (w.setCell ⟨g, o, none⟩ v) (some g) :=
  ⟨rfl, rfl, rfl, by simp, fun k _ hne => heap_setCell_other w ⟨g, o, none⟩ k v (fun e => hne (by simp [e]))⟩

theorem Spans.store {w : World} {B g : Nat} {v : Value} {l : List Sp} (h : Spans w B v l) (hne : v.ownBlock ≠ some g) (o : Nat) (u : Value) : Spans (w.setCell ⟨g, o, none⟩ u) B v l :=
  World.ownsRow.kept h (sp_grownBy_store w g o u) (.inr hne)

end Go.Proofs.YtmkaclfjekjabaaDoor
