/-
  Slices of spans: make, append of one span and of many, a store into a span of the call's own.
-/
import Derived.Test.YtmkaclfjekjabaaDoorRanOwn
namespace Go.Proofs.YtmkaclfjekjabaaDoor
open Go.RowKit

theorem run_make_rowN {P : Program} (t e : TypeId) (i : TypeInfo) (z : Value) (ht : P.underlying t = some (.slice e)) (hi : P.info? e = some i) (hz : i.zero = some z)
    (kl kc : IntKind) (n c : Nat) (hnc : n ≤ c) (hbytes : i.bytes * c ≤ 281474976710656) (h63 : c ≤ 9223372036854775807) (w : World) :
    (Instr.makeSlice t (.int kl (n : Int)) (.int kc (c : Int))).run P w = .ok (.slice (some ⟨w.heap.size, 0, none⟩) n c) (w.alloc (.cells (madeCells z.cells (c * i.size)) e)) := by
  have hb : (i.bytes : Int) * (c : Int) ≤ 281474976710656 := by
    have h : ((i.bytes * c : Nat) : Int) ≤ 281474976710656 := by omega
    rwa [Int.natCast_mul] at h
  have hr := run_make (P := P) w t e i z ht hi hz kl kc n c (by omega) (by omega) hb (by omega)
  simp only [Int.toNat_natCast] at hr
  exact hr

/-- The block that make lays for c spans. -/
def madeSp (c : Nat) : Obj := .cells (madeCells (Value.cells (.agg #[.int .i64 0, .int .i64 0, .int .i64 0])) (c * 3)) 50

theorem run_make_spans (c : Nat) (hc : c ≤ 4194304) (w : World) :
    (Instr.makeSlice 22 (.int .i64 0) (.int .i64 (c : Int))).run Tryd.prog w = .ok (.slice (some ⟨w.heap.size, 0, none⟩) 0 c) (w.alloc (madeSp c)) := by
  obtain ⟨i0, hi, hz0, hz1, hz2⟩ := info_parts Tryd.infoSpan
  have h := run_make_rowN (P := Tryd.prog) 22 50 i0 _ Tryd.underlying22 hi hz0 .i64 .i64 0 c (Nat.zero_le _) (by rw [hz2]; omega) (by omega) w
  rw [hz1] at h
  exact h

theorem Spans.made (w : World) (B c : Nat) (hB : B ≤ w.heap.size) (hc : c ≤ 4194304) : Spans (w.alloc (madeSp c)) B (.slice (some ⟨w.heap.size, 0, none⟩) 0 c) [] := by
  unfold Spans madeSp
  exact World.ownsRow_made w _ c hB (by unfold maxLen; omega) (size_madeCells _ _)

theorem cells_one (l : List Sp) : ∀ u ∈ cellsS l, u.oneCell' = true := by
  induction l with
  | nil => intro u hu; cases hu
  | cons s r ih =>
    intro u hu
    simp only [cellsS, List.mem_cons] at hu
    rcases hu with rfl | rfl | rfl | hu
    · rfl
    · rfl
    · rfl
    · exact ih u hu

theorem sp_grownBy_refl (w : World) (row : Option Nat) : w.grownBy w row := ⟨rfl, rfl, rfl, Nat.le_refl _, fun _ _ _ => rfl⟩

theorem run_append_nil_sp {P : Program} {w : World} (base : Nat) (t ty e : TypeId) (i : TypeInfo) (size : Nat) (ht : P.underlying t = some (.slice e)) (hi : P.info? e = some i)
    (v : Value) (n : Nat) (xs : List Value) (c : Nat) (hown : w.ownsRow base e size v n xs) :
    (Builtin.append_ #[t, t] ty #[v, .slice none 0 c]).run P w = .ok v w := by
  rcases hown.2 with ⟨rfl, rfl⟩ | ⟨g, cap, cur, rfl, _, _, hnc, _⟩
  · simp [Builtin.append_, run_underlying ht, sizeOf, typeInfo, hi, Builtin.lenOf, Builtin.firstCells]
  · simp [Builtin.append_, run_underlying ht, sizeOf, typeInfo, hi, Builtin.lenOf, Builtin.firstCells, hnc, storeCells]

/-- The cells of a slice that is read, counted from its own address. -/
theorem SpIn.cells {w : World} {ad : Addr} {l : List Sp} (h : SpIn w (some ad) l) : ∀ j u, (cellsS l)[j]? = some u → w.cell? (ad.add j) = some u := by
  intro j u hu
  have hj : j < l.length * 3 := by
    have := (List.getElem?_eq_some_iff.1 hu).1
    rwa [cellsS_length] at this
  have hk : j / 3 < l.length := by omega
  obtain ⟨b, off, e, h1, h2, h3⟩ := h (j / 3) hk
  obtain ⟨c1, c2, c3⟩ := cellsS_at l (j / 3) hk
  simp only [Option.some.injEq] at e
  subst e
  rw [Addr.add_lit]
  have hm : j % 3 = 0 ∨ j % 3 = 1 ∨ j % 3 = 2 := by omega
  rcases hm with hm | hm | hm
  · have e : j / 3 * 3 = j := by omega
    rw [e] at h1 c1
    rw [h1, ← hu, c1]
  · have e : j / 3 * 3 + 1 = j := by omega
    rw [Nat.add_assoc, e] at h2; rw [e] at c2
    rw [h2, ← hu, c2]
  · have e : j / 3 * 3 + 2 = j := by omega
    rw [Nat.add_assoc, e] at h3; rw [e] at c3
    rw [h3, ← hu, c3]

theorem wp_append_spans {w : World} {o : Oper} {a : Act} {K : Act → World → Prop} {Q : Exit → Act → World → Prop} (s x : Operand)
    (ho : o.op = .call { callee := .builtin .append, args := #[s, x], argTypes := #[22, 22] })
    (base : Nat) (v : Value) (xs : List Sp) (hs : a.eval s = v) (hown : Spans w base v xs)
    (p : Option Addr) (m c : Nat) (ys : List Sp) (hm : ys.length = m) (hx : a.eval x = .slice p m c) (hin : SpIn w p ys)
    (hlen : xs.length + ys.length ≤ 1099511627776) (hbase : base ≤ w.heap.size)
    (h : ∀ v' w', Spans w' base v' (xs ++ ys) → w.grownBy w' v.ownBlock → K (a.put o.dst v') w') : o.wp Tryd.prog a w K Q := by
  subst hm
  obtain ⟨i0, hi, hz0, hz1, hz2⟩ := info_parts Tryd.infoSpan
  cases p with
  | none =>
    have hy : ys = [] := by
      cases ys with
      | nil => rfl
      | cons y r => obtain ⟨_, _, e, _⟩ := hin 0 (by simp); cases e
    subst hy
    have hr := run_append_nil_sp (P := Tryd.prog) base 22 o.type 50 i0 3 Tryd.underlying22 hi v xs.length _ c hown
    unfold Oper.wp execOp
    simp only [ho, resolve, invoke, builtin, Sem.run_bind, Sem.run_pure, Result.andThen_ok, List.map_toArray, List.map_cons, List.map_nil, hs, hx, List.length_nil, hr]
    exact h v w (by simpa using hown) (sp_grownBy_refl _ _)
  | some ad =>
    refine wp_append_own w s x 22 ho base 50 i0 _ 3 24 Tryd.underlying22 hi hz0 hz1 hz2 rfl (by decide) v xs.length _ hs hown ad ys.length c (cellsS ys) hx (cellsS_length _) hin.cells (cells_one ys) (by unfold maxLen; omega) (by omega) hbase ?_
    intro v' w' h1 h2 _
    exact h v' w' (by unfold Spans; rw [List.length_append, cellsS_append]; exact h1) h2

theorem wpList_append_spans {w : World} {ops : Array Oper} {rest : List Oper} {o : Oper} {a : Act} {Q : Exit → Act → World → Prop} (s x : Operand)
    (ho : o.op = .call { callee := .builtin .append, args := #[s, x], argTypes := #[22, 22] })
    (hw : Region.wanted o (yielded ops a.tmps) = true)
    (base : Nat) (v : Value) (xs : List Sp) (hs : a.eval s = v) (hown : Spans w base v xs)
    (p : Option Addr) (m c : Nat) (ys : List Sp) (hm : ys.length = m) (hx : a.eval x = .slice p m c) (hin : SpIn w p ys)
    (hlen : xs.length + ys.length ≤ 1099511627776) (hbase : base ≤ w.heap.size)
    (h : ∀ v' w', Spans w' base v' (xs ++ ys) → w.grownBy w' v.ownBlock → wpList Tryd.prog ops Q rest (a.put o.dst v') w') : wpList Tryd.prog ops Q (o :: rest) a w := by
  unfold wpList
  rw [if_pos hw]
  exact .inl (wp_append_spans s x ho base v xs hs hown p m c ys hm hx hin hlen hbase h)

/-- A block of one span, just made. -/
theorem one_new (w : World) (f t v : Int) (ty : TypeId) : SpIn (w.alloc (.cells #[.int .i64 f, .int .i64 t, .int .i64 v] ty)) (some ⟨w.heap.size, 0, none⟩) [(f, t, v)] := by
  intro k hk
  obtain rfl : k = 0 := by simp at hk; omega
  refine ⟨_, _, rfl, ?_, ?_, ?_⟩ <;> simp [World.cell?_alloc_new]

theorem wp_append_span {W : World} {o : Oper} {a : Act} {K : Act → World → Prop} {Q : Exit → Act → World → Prop} (s x : Operand)
    (ho : o.op = .call { callee := .builtin .append, args := #[s, x], argTypes := #[22, 22] })
    (base : Nat) (v : Value) (xs : List Sp) (hs : a.eval s = v) (hown : Spans W base v xs)
    (y : Sp) (c g : Nat) (hx : a.eval x = .slice (some ⟨g, 0, none⟩) 1 c) (hg : g = W.heap.size)
    (hlen : xs.length ≤ 1099511627775) (hbase : base ≤ W.heap.size)
    (h : ∀ v' w', Spans w' base v' (xs ++ [y]) → W.grownBy w' v.ownBlock → K (a.put o.dst v') w') : o.wp Tryd.prog a (W.alloc (.cells #[.int .i64 y.1, .int .i64 y.2.1, .int .i64 y.2.2] 50)) K Q := by
  subst hg
  refine wp_append_spans s x ho base v xs hs (World.ownsRow.alloc hown _) _ 1 c [y] rfl hx (one_new W y.1 y.2.1 y.2.2 _) (by simp; omega) (by simp; omega) ?_
  intro v' w' h1 h2
  refine h v' w' h1 ?_
  have hA := World.grownBy_alloc W (.cells #[.int .i64 y.1, .int .i64 y.2.1, .int .i64 y.2.2] 50) v.ownBlock
  exact ⟨h2.os.trans hA.os, h2.tape.trans hA.tape, h2.output.trans hA.output, Nat.le_trans hA.size h2.size, fun i hi hne => (h2.block i (Nat.lt_of_lt_of_le hi hA.size) hne).trans (hA.block i hi hne)⟩

theorem wpList_append_span {W : World} {ops : Array Oper} {rest : List Oper} {o : Oper} {a : Act} {Q : Exit → Act → World → Prop} (s x : Operand)
    (ho : o.op = .call { callee := .builtin .append, args := #[s, x], argTypes := #[22, 22] })
    (hw : Region.wanted o (yielded ops a.tmps) = true)
    (base : Nat) (v : Value) (xs : List Sp) (hs : a.eval s = v) (hown : Spans W base v xs)
    (y : Sp) (c g : Nat) (hx : a.eval x = .slice (some ⟨g, 0, none⟩) 1 c) (hg : g = W.heap.size)
    (hlen : xs.length ≤ 1099511627775) (hbase : base ≤ W.heap.size)
    (h : ∀ v' w', Spans w' base v' (xs ++ [y]) → W.grownBy w' v.ownBlock → wpList Tryd.prog ops Q rest (a.put o.dst v') w') : wpList Tryd.prog ops Q (o :: rest) a (W.alloc (.cells #[.int .i64 y.1, .int .i64 y.2.1, .int .i64 y.2.2] 50)) := by
  unfold wpList
  rw [if_pos hw]
  exact .inl (wp_append_span s x ho base v xs hs hown y c g hx hg hlen hbase h)

theorem cellsS_set (i : List Sp) (p : Sp) (t : Int) : (cellsS (i ++ [p])).set (i.length * 3 + 1) (.int .i64 t) = cellsS (i ++ [(p.1, t, p.2.2)]) := by
  rw [cellsS_append, cellsS_append, List.set_append_right _ _ (by rw [cellsS_length]; omega)]
  congr 1
  rw [cellsS_length, show i.length * 3 + 1 - i.length * 3 = 1 by omega]
  rfl

/-- The last span of an own slice: its cells, and a store into its To. -/
theorem Spans.last {w : World} {B : Nat} {v : Value} {i : List Sp} {p : Sp} (h : Spans w B v (i ++ [p])) :
    ∃ g cap, v = .slice (some ⟨g, 0, none⟩) (i.length + 1) cap ∧ B ≤ g ∧ g < w.heap.size ∧ w.cell? ⟨g, i.length * 3, none⟩ = some (.int .i64 p.1) ∧ w.cell? ⟨g, i.length * 3 + 1, none⟩ = some (.int .i64 p.2.1) ∧
      w.cell? ⟨g, i.length * 3 + 2, none⟩ = some (.int .i64 p.2.2) ∧ w.frozen? ⟨g, i.length * 3 + 1, none⟩ = false := by
  have hb := h.lt
  obtain ⟨q, cap, rfl, hin⟩ := h.inn
  obtain ⟨b, off, rfl, h1, h2, h3⟩ := hin i.length (by simp)
  have hf : off = 0 := by
    rcases h.2 with ⟨h', _⟩ | ⟨g', _, _, h', _⟩
    · cases h'
    · injection h' with h'; injection h' with h'; injection h'
  subst hf
  have hd : (i ++ [p]).getD i.length sp0 = p := by simp
  rw [hd] at h1 h2 h3
  have := hb b rfl
  simp only [Nat.zero_add] at h1 h2 h3
  have hz := World.ownsRow.frozenAt (g := b) (cap := cap) (n := (i ++ [p]).length) h
  exact ⟨b, cap, by simp, this.1, this.2, h1, h2, h3, hz _⟩

theorem Spans.setTo {w : World} {B : Nat} {i : List Sp} {p : Sp} {g n cap : Nat} (h : Spans w B (.slice (some ⟨g, 0, none⟩) n cap) (i ++ [p])) (hn : n = i.length + 1) (t : Int) :
    Spans (w.setCell ⟨g, i.length * 3 + 1, none⟩ (.int .i64 t)) B (.slice (some ⟨g, 0, none⟩) n cap) (i ++ [(p.1, t, p.2.2)]) := by
  subst hn
  unfold Spans at h ⊢
  rw [← cellsS_set]
  simp only [List.length_append, List.length_cons, List.length_nil] at h ⊢
  exact (World.ownsRow.stored h _ _).1

theorem Spans.drewN {w : World} {B : Nat} {v : Value} {l : List Sp} (h : Spans w B v l) (n : Nat) : Spans (w.drewN n) B v l := h
theorem Spans.alloc {w : World} {B : Nat} {v : Value} {l : List Sp} (h : Spans w B v l) (o : Obj) : Spans (w.alloc o) B v l := World.ownsRow.alloc h o
theorem SpIn.drewN {w : World} {p : Option Addr} {l : List Sp} (h : SpIn w p l) (n : Nat) : SpIn (w.drewN n) p l := h
theorem Spans.base {w : World} {B : Nat} {v : Value} {l : List Sp} (h : Spans w B v l) : ∀ k, v.ownBlock = some k → B ≤ k := fun k hk => (World.ownsRow.lt h k hk).1
theorem below_drewN_sp {B : Nat} {a w : World} (h : Below B a w) (n : Nat) : Below B a (w.drewN n) := ⟨h.os, h.tape, h.output, h.size, h.block⟩

/-- Behind a block of one span and an append: below B all is as it was. -/
theorem below_app {B : Nat} {a w W w1 : World} {v : Value} {l : List Sp} (h : Below B a w) (hw : ∃ o n, W = (w.alloc o).drewN n) (ho : Spans w B v l) (hB : B ≤ a.heap.size) (hg : W.grownBy w1 v.ownBlock) : Below B a w1 := by
  obtain ⟨o, n, rfl⟩ := hw
  have hz : B ≤ w.heap.size := Nat.le_trans hB h.size
  exact (below_drewN_sp (h.alloc hz o) n).grown hg (by show B ≤ (w.alloc o).heap.size; simp; omega) ho.base

end Go.Proofs.YtmkaclfjekjabaaDoor
