/-
  'append(v, y...)' on ints, guarded or not; the appended slice may be nil.
-/
import Derived.Test.YtebhliepncmghaaPkA
set_option linter.unusedSimpArgs false
set_option linter.unusedVariables false
namespace Go.Proofs.Ytebhliepncmghaa
open Go.RowKit

theorem run_append_nil {P : Program} {w : World} (base : Nat) (t ty e : TypeId) (i : TypeInfo) (size : Nat) (ht : P.underlying t = some (.slice e)) (hi : P.info? e = some i)
    (v : Value) (n : Nat) (xs : List Value) (c : Nat) (hown : w.ownsRow base e size v n xs) :
    (Builtin.append_ #[t, t] ty #[v, .slice none 0 c]).run P w = .ok v w := by
  rcases hown.2 with ⟨rfl, rfl⟩ | ⟨g, cap, cur, rfl, _, _, hnc, _⟩
  · simp [Builtin.append_, run_underlying ht, sizeOf, typeInfo, hi, Builtin.lenOf, Builtin.firstCells]
  · simp [Builtin.append_, run_underlying ht, sizeOf, typeInfo, hi, Builtin.lenOf, Builtin.firstCells, hnc, storeCells]

theorem grownBy_refl (w : World) (row : Option Nat) : w.grownBy w row := ⟨rfl, rfl, rfl, Nat.le_refl _, fun _ _ _ => rfl⟩

theorem RowIn.grownNone {t : IntKind} {w w' : World} {p : Option Addr} {zs : List Int} (h : RowIn t w p zs) (hg : w.grownBy w' none) : RowIn t w' p zs := by
  intro k hk
  obtain ⟨b, off, e, hc⟩ := h k hk
  exact ⟨b, off, e, hg.cell hc (by simp)⟩

theorem RowIn.grownOwn {t : IntKind} {w w' : World} {p : Option Addr} {zs : List Int} {row : Option Nat} {B : Nat} (h : RowIn t w p zs) (hg : w.grownBy w' row) (hr : ∀ k, row = some k → B ≤ k) (hb : ∀ b off, p = some ⟨b, off, none⟩ → b < B) : RowIn t w' p zs := by
  intro k hk
  obtain ⟨b, off, e, hc⟩ := h k hk
  exact ⟨b, off, e, hg.cell hc (fun h => by have := hr b h.symm; have := hb b off e; omega)⟩

/-- A row that was there in an elder world is kept by whatever writes behind that world. -/
theorem RowIn.older {t : IntKind} {w0 w w' : World} {p : Option Addr} {zs : List Int} {row : Option Nat} (h0 : RowIn t w0 p zs) (h : RowIn t w p zs) (hg : w.grownBy w' row) (hr : ∀ k, row = some k → w0.heap.size ≤ k) : RowIn t w' p zs := by
  intro k hk
  obtain ⟨b, off, e, hc⟩ := h k hk
  obtain ⟨b0, off0, e0, hc0⟩ := h0 k hk
  rw [e] at e0
  cases e0
  have hlt := World.block_lt_of_cell? w0 _ hc0
  exact ⟨b, off, e, hg.cell hc (fun h => by have := hr b h.symm; simp only at hlt; omega)⟩

theorem wp_append_ints {w : World} {o : Oper} {a : Act} {K : Act → World → Prop} {Q : Exit → Act → World → Prop} (s x : Operand)
    (ho : o.op = .call { callee := .builtin .append, args := #[s, x], argTypes := #[22, 22] })
    (base : Nat) (v : Value) (xs : List Int) (hs : a.eval s = v) (hown : Ints w base v xs)
    (p : Option Addr) (m c : Nat) (ys : List Int) (hm : ys.length = m) (hx : a.eval x = .slice p m c) (hin : IntsIn w p ys)
    (hlen : xs.length + ys.length ≤ 17592186043904) (hbase : base ≤ w.heap.size)
    (h : ∀ v' w', Ints w' base v' (xs ++ ys) → w.grownBy w' v.ownBlock → K (a.put o.dst v') w') : o.wp Try.prog a w K Q := by
  subst hm
  obtain ⟨i0, hi, hz0, hz1, hz2⟩ := info_parts Try.info3
  cases p with
  | none =>
    have hy : ys = [] := by
      cases ys with
      | nil => rfl
      | cons y r => obtain ⟨_, _, e, _⟩ := hin 0 (by simp); cases e
    subst hy
    have hr := run_append_nil (P := Try.prog) base 22 o.type 3 i0 1 Try.underlying22 hi v xs.length _ c hown
    unfold Oper.wp execOp
    simp only [ho, resolve, invoke, builtin, Sem.run_bind, Sem.run_pure, Result.andThen_ok, List.map_toArray, List.map_cons, List.map_nil, hs, hx, List.length_nil, hr]
    exact h v w (by simpa using hown) (grownBy_refl _ _)
  | some ad =>
    refine wp_append_own w s x 22 ho base 3 i0 (.int .i64 0) 1 8 Try.underlying22 hi hz0 hz1 hz2 rfl (by decide) v xs.length _ hs hown ad ys.length c (ys.map (.int .i64)) hx (by simp) ?_ ?_ (by unfold maxLen; omega) (by omega) hbase ?_
    · intro j u hu
      rw [List.getElem?_map] at hu
      cases hj : ys[j]? with
      | none => rw [hj] at hu; cases hu
      | some y =>
        rw [hj] at hu
        simp only [Option.map_some, Option.some.injEq] at hu
        obtain ⟨hjl, hje⟩ := List.getElem?_eq_some_iff.1 hj
        obtain ⟨b, off, e, hc⟩ := hin j hjl
        simp only [Option.some.injEq] at e
        subst e
        rw [Addr.add_lit, hc, ← hu]
        simp [List.getD, hj]
    · intro u hu
      obtain ⟨y, _, rfl⟩ := List.mem_map.1 hu
      rfl
    · intro v' w' h1 h2 _
      exact h v' w' (by unfold Ints; simpa using h1) h2

theorem wpList_append_ints {w : World} {ops : Array Oper} {rest : List Oper} {o : Oper} {a : Act} {Q : Exit → Act → World → Prop} (s x : Operand)
    (ho : o.op = .call { callee := .builtin .append, args := #[s, x], argTypes := #[22, 22] })
    (hw : Region.wanted o (yielded ops a.tmps) = true)
    (base : Nat) (v : Value) (xs : List Int) (hs : a.eval s = v) (hown : Ints w base v xs)
    (p : Option Addr) (m c : Nat) (ys : List Int) (hm : ys.length = m) (hx : a.eval x = .slice p m c) (hin : IntsIn w p ys)
    (hlen : xs.length + ys.length ≤ 17592186043904) (hbase : base ≤ w.heap.size)
    (h : ∀ v' w', Ints w' base v' (xs ++ ys) → w.grownBy w' v.ownBlock → wpList Try.prog ops Q rest (a.put o.dst v') w') : wpList Try.prog ops Q (o :: rest) a w := by
  unfold wpList
  rw [if_pos hw]
  exact .inl (wp_append_ints s x ho base v xs hs hown p m c ys hm hx hin hlen hbase h)

end Go.Proofs.Ytebhliepncmghaa
