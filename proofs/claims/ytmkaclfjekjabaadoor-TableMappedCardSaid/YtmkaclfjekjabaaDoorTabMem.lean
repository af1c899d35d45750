/-
  Tables in memory.
-/
import Derived.Test.YtmkaclfjekjabaaDoorRanOwn
import Derived.Test.YtmkaclfjekjabaaDoorRanApp
import Derived.Test.YtmkaclfjekjabaaDoorTabSpec2
namespace Go.Proofs.YtmkaclfjekjabaaDoor
open Go.RowKit

abbrev mp0 : Mp := (0, [])

/-- A slice that is only read. -/
def InV (w : World) (v : Value) (l : List Int) : Prop := ∃ p c, v = .slice p l.length c ∧ IntsIn w p l ∧ l.length ≤ 17592186043904
def SpV (w : World) (v : Value) (l : List Sp) : Prop := ∃ p c, v = .slice p l.length c ∧ SpIn w p l ∧ l.length ≤ 17592186043904
def MpIn (w : World) (p : Option Addr) (l : List Mp) : Prop :=
  ∀ k, k < l.length → ∃ b off v, p = some ⟨b, off, none⟩ ∧ w.cell? ⟨b, off + k * 2, none⟩ = some (.int .i64 (l.getD k mp0).1) ∧ w.cell? ⟨b, off + k * 2 + 1, none⟩ = some v ∧ InV w v (l.getD k mp0).2
def MpV (w : World) (v : Value) (l : List Mp) : Prop := ∃ p c, v = .slice p l.length c ∧ MpIn w p l ∧ l.length ≤ 17592186043904

theorem InV.below {w w' : World} {v : Value} {l : List Int} (h : InV w v l) (hb : Below w.heap.size w w') : InV w' v l := by
  obtain ⟨p, c, rfl, h1, h2⟩ := h
  exact ⟨p, c, rfl, h1.below hb, h2⟩
theorem SpV.below {w w' : World} {v : Value} {l : List Sp} (h : SpV w v l) (hb : Below w.heap.size w w') : SpV w' v l := by
  obtain ⟨p, c, rfl, h1, h2⟩ := h
  exact ⟨p, c, rfl, h1.below hb, h2⟩
theorem MpIn.below {w w' : World} {p : Option Addr} {l : List Mp} (h : MpIn w p l) (hb : Below w.heap.size w w') : MpIn w' p l := by
  intro k hk
  obtain ⟨b, off, v, e, h1, h2, h3⟩ := h k hk
  have hlt := World.block_lt_of_cell? w _ h1
  exact ⟨b, off, v, e, (hb.cell (p := ⟨b, off + k * 2, none⟩) hlt).trans h1, (hb.cell (p := ⟨b, off + k * 2 + 1, none⟩) hlt).trans h2, h3.below hb⟩
theorem MpV.below {w w' : World} {v : Value} {l : List Mp} (h : MpV w v l) (hb : Below w.heap.size w w') : MpV w' v l := by
  obtain ⟨p, c, rfl, h1, h2⟩ := h
  exact ⟨p, c, rfl, h1.below hb, h2⟩

/-- Tables as a value. -/
structure TV where
  a0 : Value
  a1 : Value
  a2 : Value
  a3 : Value
  a4 : Value
  a5 : Value
  a6 : Value
  a7 : Value
  a8 : Value
  a9 : Value
  a10 : Value
  a11 : Value

abbrev TV.agg (x : TV) : Value := .agg #[x.a0, x.a1, x.a2, x.a3, x.a4, x.a5, x.a6, x.a7, x.a8, x.a9, x.a10, x.a11]

/-- The value x holds the tables T. -/
structure TabV (w : World) (x : TV) (T : Tb) : Prop where
  cat : SpV w x.a0 T.cat
  cls : SpV w x.a1 T.cls
  joi : SpV w x.a2 T.joi
  bid : SpV w x.a3 T.bid
  scr : SpV w x.a4 T.scr
  sta : SpV w x.a5 T.sta
  ign : SpV w x.a6 T.ign
  ext : MpV w x.a7 T.ext
  map : MpV w x.a8 T.map
  dec : MpV w x.a9 T.dec
  exc : InV w x.a10 T.exc
  pro : MpV w x.a11 T.pro

theorem TabV.below {w w' : World} {x : TV} {T : Tb} (h : TabV w x T) (hb : Below w.heap.size w w') : TabV w' x T :=
  ⟨h.cat.below hb, h.cls.below hb, h.joi.below hb, h.bid.below hb, h.scr.below hb, h.sta.below hb, h.ign.below hb, h.ext.below hb, h.map.below hb, h.dec.below hb, h.exc.below hb, h.pro.below hb⟩
theorem TabV.alloc {w : World} {x : TV} {T : Tb} (h : TabV w x T) (o : Obj) : TabV (w.alloc o) x T := h.below ((Below.refl _ _).alloc (Nat.le_refl _) o)

/-- The tables x lie in block g. -/
def BoxT (w : World) (g : Nat) (x : TV) : Prop :=
  (w.cell? ⟨g, 0, none⟩ = some x.a0 ∧ w.cell? ⟨g, 1, none⟩ = some x.a1 ∧ w.cell? ⟨g, 2, none⟩ = some x.a2 ∧ w.cell? ⟨g, 3, none⟩ = some x.a3 ∧ w.cell? ⟨g, 4, none⟩ = some x.a4 ∧ w.cell? ⟨g, 5, none⟩ = some x.a5) ∧
  (w.cell? ⟨g, 6, none⟩ = some x.a6 ∧ w.cell? ⟨g, 7, none⟩ = some x.a7 ∧ w.cell? ⟨g, 8, none⟩ = some x.a8 ∧ w.cell? ⟨g, 9, none⟩ = some x.a9 ∧ w.cell? ⟨g, 10, none⟩ = some x.a10 ∧ w.cell? ⟨g, 11, none⟩ = some x.a11)

abbrev tabCells (x : TV) : Array Value := #[x.a0, x.a1, x.a2, x.a3, x.a4, x.a5, x.a6, x.a7, x.a8, x.a9, x.a10, x.a11]

theorem BoxT.new (w : World) (x : TV) (t : TypeId) : BoxT (w.alloc (.cells (tabCells x) t)) w.heap.size x := by
  refine ⟨⟨?_, ?_, ?_, ?_, ?_, ?_⟩, ⟨?_, ?_, ?_, ?_, ?_, ?_⟩⟩ <;> simp [World.cell?_alloc_new]

theorem BoxT.below {w w' : World} {g : Nat} {x : TV} (h : BoxT w g x) (hb : Below w.heap.size w w') : BoxT w' g x := by
  obtain ⟨⟨h0, h1, h2, h3, h4, h5⟩, ⟨h6, h7, h8, h9, h10, h11⟩⟩ := h
  have key : ∀ i v, w.cell? ⟨g, i, none⟩ = some v → w'.cell? ⟨g, i, none⟩ = some v := fun i v hc => (hb.cell (p := ⟨g, i, none⟩) (World.block_lt_of_cell? w _ hc)).trans hc
  exact ⟨⟨key _ _ h0, key _ _ h1, key _ _ h2, key _ _ h3, key _ _ h4, key _ _ h5⟩, ⟨key _ _ h6, key _ _ h7, key _ _ h8, key _ _ h9, key _ _ h10, key _ _ h11⟩⟩

/-- The mapping (f, v) lies in block g. -/
def BoxM (w : World) (g : Nat) (f : Int) (v : Value) : Prop := w.cell? ⟨g, 0, none⟩ = some (.int .i64 f) ∧ w.cell? ⟨g, 1, none⟩ = some v
theorem BoxM.new (w : World) (f : Int) (v : Value) (t : TypeId) : BoxM (w.alloc (.cells #[.int .i64 f, v] t)) w.heap.size f v := by
  refine ⟨?_, ?_⟩ <;> simp [World.cell?_alloc_new]
theorem BoxM.below {w w' : World} {g : Nat} {f : Int} {v : Value} (h : BoxM w g f v) (hb : Below w.heap.size w w') : BoxM w' g f v := by
  obtain ⟨h0, h1⟩ := h
  exact ⟨(hb.cell (p := ⟨g, 0, none⟩) (World.block_lt_of_cell? w _ h0)).trans h0, (hb.cell (p := ⟨g, 1, none⟩) (World.block_lt_of_cell? w _ h1)).trans h1⟩

theorem mp_getD_mem (l : List Mp) (k : Nat) (h : k < l.length) : l.getD k mp0 ∈ l := by simp [h]
theorem take_snoc_mp (l : List Mp) (k : Nat) (h : k < l.length) : l.take (k + 1) = l.take k ++ [l.getD k mp0] := by
  rw [List.take_succ_eq_append_getElem h]; simp [h]

/-- The table of reserved code points. -/
def Rsv (w : World) : Prop :=
  (w.cell? ⟨0, 0, none⟩ = some (.int .i64 0) ∧ w.cell? ⟨0, 1, none⟩ = some (.int .i64 127) ∧ w.cell? ⟨0, 2, none⟩ = some (.int .i64 4352) ∧ w.cell? ⟨0, 3, none⟩ = some (.int .i64 4370) ∧ w.cell? ⟨0, 4, none⟩ = some (.int .i64 4449) ∧ w.cell? ⟨0, 5, none⟩ = some (.int .i64 4469)) ∧
  (w.cell? ⟨0, 6, none⟩ = some (.int .i64 4520) ∧ w.cell? ⟨0, 7, none⟩ = some (.int .i64 4546) ∧ w.cell? ⟨0, 8, none⟩ = some (.int .i64 44032) ∧ w.cell? ⟨0, 9, none⟩ = some (.int .i64 55203) ∧ w.cell? ⟨0, 10, none⟩ = some (.int .i64 55296) ∧ w.cell? ⟨0, 11, none⟩ = some (.int .i64 57343))

theorem Rsv.below {w w' : World} (h : Rsv w) (hb : Below w.heap.size w w') : Rsv w' := by
  obtain ⟨⟨h0, h1, h2, h3, h4, h5⟩, ⟨h6, h7, h8, h9, h10, h11⟩⟩ := h
  have key : ∀ i v, w.cell? ⟨0, i, none⟩ = some v → w'.cell? ⟨0, i, none⟩ = some v := fun i v hc => (hb.cell (p := ⟨0, i, none⟩) (World.block_lt_of_cell? w _ hc)).trans hc
  exact ⟨⟨key _ _ h0, key _ _ h1, key _ _ h2, key _ _ h3, key _ _ h4, key _ _ h5⟩, ⟨key _ _ h6, key _ _ h7, key _ _ h8, key _ _ h9, key _ _ h10, key _ _ h11⟩⟩

/-- A call that only makes memory and returns v. -/
def Gives (v : Value) (w : World) (e : Ending) (w' : World) : Prop := e = .returned v ∧ Below w.heap.size w w'

theorem tb_drewN {B : Nat} {a w : World} (h : Below B a w) (n : Nat) : Below B a (w.drewN n) := ⟨h.os, h.tape, h.output, h.size, h.block⟩
theorem drew_ref (w : World) (n : Nat) : Below w.heap.size w (w.drewN n) := ⟨rfl, rfl, rfl, Nat.le_refl _, fun _ _ => rfl⟩

end Go.Proofs.YtmkaclfjekjabaaDoor
