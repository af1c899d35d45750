/- Rows of mappings and of ints that a call makes, appended to  -/
import Derived.Test.YtopaojjodkoidaaGreatDoorSSmPkG
import Derived.Deep.RegionLaw
set_option linter.unusedSimpArgs false
set_option linter.unusedVariables false
namespace Go.Proofs.YtopaojjodkoidaaGreatDoor
open Go.RowKit
theorem Tryz.infoMap : (Tryz.prog.info? 47).map (fun i => (i.zero, i.size, i.bytes)) = some (some (.agg #[.int .i64 0, .slice none 0 0]), 2, 32) := by kernel_rfl
abbrev Mq := Mp × Value
def cellsQ : List Mq → List Value
 | [] => []
 | q :: r => .int .i64 q.1.1 :: q.2 :: cellsQ r
theorem cellsQ_length (l : List Mq) : (cellsQ l).length = l.length * 2 := by
 induction l with
 | nil => rfl
 | cons s r ih => simp only [cellsQ, List.length_cons, ih]; omega
theorem cellsQ_append (a b : List Mq) : cellsQ (a ++ b) = cellsQ a ++ cellsQ b := by
 induction a with
 | nil => rfl
 | cons s r ih => simp [cellsQ, ih]
theorem cellsQ_at (l : List Mq) (k : Nat) (q : Mq) (h : l[k]? = some q) : (cellsQ l)[k * 2]? = some (.int .i64 q.1.1) ∧ (cellsQ l)[k * 2 + 1]? = some q.2 := by
 induction l generalizing k with
 | nil => simp at h
 | cons s r ih =>
  cases k with
  | zero => simp at h; subst h; simp [cellsQ]
  | succ k =>
   have := ih k (by simpa using h)
   rw [show (k + 1) * 2 = k * 2 + 1 + 1 by omega]
   simpa [cellsQ] using this
structure Hot (w : World) (B : Nat) (P : Nat → Prop) (v : Value) (Q : List Mq) : Prop where
 own : w.ownsRow B 47 2 v Q.length (cellsQ Q)
 tos : ∀ q ∈ Q, InO w P q.2 q.1.2
theorem Hot.nil (w : World) (B : Nat) (P : Nat → Prop) : Hot w B P (.slice none 0 0) [] := ⟨World.ownsRow_nil _ _ _ _, by simp⟩
theorem Hot.keeps {w w' : World} {B : Nat} {P R : Nat → Prop} {v : Value} {Q : List Mq} (h : Hot w B P v Q) (hk : Keeps w w' R) (h1 : ∀ k, v.ownBlock = some k → ¬ R k) (h2 : ∀ k, k < w.heap.size → R k → ¬ P k) : Hot w' B P v Q :=
 ⟨hk.owns h.own h1, fun q hq => (h.tos q hq).keeps hk h2⟩
theorem Hot.weak {w : World} {B : Nat} {P Q : Nat → Prop} {v : Value} {L : List Mq} (h : Hot w B P v L) (hq : ∀ b, b < w.heap.size → P b → Q b) : Hot w B Q v L := ⟨h.own, fun q hq' => (h.tos q hq').weak hq⟩
theorem Hot.slice {w : World} {B : Nat} {P : Nat → Prop} {v : Value} {Q : List Mq} (h : Hot w B P v Q) : ∃ p c, v = .slice p Q.length c := by
 rcases h.own.2 with ⟨rfl, h3⟩ | ⟨g, cap, cur, rfl, _⟩
 ·exact ⟨none, 0, by rw [h3]⟩
 ·exact ⟨_, cap, rfl⟩
theorem row_slice {w : World} {B : Nat} {t : TypeId} {z : Nat} {v : Value} {n : Nat} {xs : List Value} (h : w.ownsRow B t z v n xs) : ∃ p n c, v = .slice p n c := by
 rcases h.2 with ⟨rfl, h3⟩ | ⟨g, cap, cur, rfl, _⟩
 ·exact ⟨none, 0, 0, rfl⟩
 ·exact ⟨_, _, cap, rfl⟩
theorem row_cap {w : World} {B : Nat} {t : TypeId} {z : Nat} {v : Value} {n : Nat} {xs : List Value} (h : w.ownsRow B t z v n xs) {p : Option Addr} {m c : Nat} (e : v = .slice p m c) : m ≤ c := by
 rcases h.2 with ⟨rfl, h3⟩ | ⟨g, cap, cur, rfl, _, _, hn, _⟩
 ·injection e with _ e1 e2; omega
 ·injection e with _ e1 e2; omega
theorem Hot.cells {w : World} {B : Nat} {P : Nat → Prop} {v : Value} {Q : List Mq} (h : Hot w B P v Q) (k : Nat) (hk : k < Q.length) :
 ∃ g cap q, v = .slice (some ⟨g, 0, none⟩) Q.length cap ∧ Q[k]? = some q ∧ q ∈ Q ∧ v.ownBlock = some g ∧ w.cell? ⟨g, k * 2, none⟩ = some (.int .i64 q.1.1) ∧ w.cell? ⟨g, k * 2 + 1, none⟩ = some q.2 := by
 rcases h.own.2 with ⟨rfl, h3⟩ | ⟨g, cap, cur, rfl, hB, hg, hn, hc, hs, ht⟩
 ·omega
 ·obtain ⟨q, hq⟩ : ∃ q, Q[k]? = some q := ⟨_, List.getElem?_eq_getElem hk⟩
  obtain ⟨c1, c2⟩ := cellsQ_at Q k q hq
  have key : ∀ j u, j < Q.length * 2 → (cellsQ Q)[j]? = some u → w.cell? ⟨g, j, none⟩ = some u := by
   intro j u hj hu
   rw [cell_of_row w g j cur _ (0, 0) hg]
   rw [← ht, List.getElem?_take, if_pos hj] at hu
   simpa using hu
  exact ⟨g, cap, q, rfl, hq, List.mem_of_getElem? hq, rfl, key _ _ (by omega) c1, key _ _ (by omega) c2⟩
theorem Hot.mpO {w : World} {B : Nat} {P Z : Nat → Prop} {v : Value} {Q : List Mq} (h : Hot w B P v Q) (hl : Q.length ≤ 1000) (h1 : ∀ b, b < w.heap.size → P b → Z b) (h2 : ∀ b, B ≤ b → b < w.heap.size → Z b) : MpO w Z v (Q.map (·.1)) := by
 obtain ⟨p, c, hv⟩ := h.slice
 refine ⟨p, c, by rw [hv]; simp, fun b off n c e => ?_, by simp; omega, fun k hk => ?_⟩
 ·have := World.ownsRow.lt h.own b (by rw [e]; rfl)
  exact ⟨h2 b this.1 this.2, this.2⟩
 ·have hk' : k < Q.length := by simpa using hk
  obtain ⟨g, cap, q, e, hq, hm, _, c1, c2⟩ := h.cells k hk'
  rw [hv] at e
  injection e with e _ _
  have hd : (Q.map (·.1)).getD k mp0 = q.1 := by
   rw [List.getD_eq_getElem?_getD, List.getElem?_map, hq]; rfl
  rw [hd]
  have ht := (h.tos q hm).weak h1
  exact ⟨g, 0, q.2, e, by simpa using c1, by simpa using c2, ht.1, ht.2⟩
theorem InO.one {w : World} {P : Nat → Prop} {v : Value} {l : List Int} (h : InO w P v l) : v.oneCell' = true := by
 obtain ⟨⟨p, c, rfl, _⟩, _⟩ := h; rfl
theorem step_append_map {w : World} {ops : Array Oper} {o : Oper} {a : Act} {K : Act → World → Prop} {Z : Exit → Act → World → Prop} {E : Prop} (hgd : o.guard = none) (s x : Operand)
 (ho : o.op = .call { callee := .builtin .append, args := #[s, x], argTypes := #[24, 24] })
 (base : Nat) (v : Value) (Q : List Mq) (hs : a.eval s = v) (hown : w.ownsRow base 47 2 v Q.length (cellsQ Q))
 (b c : Nat) (q : Mq) (hx : a.eval x = .slice (some ⟨b, 0, none⟩) 1 c) (c0 : w.cell? ⟨b, 0, none⟩ = some (.int .i64 q.1.1)) (c1 : w.cell? ⟨b, 1, none⟩ = some q.2) (hq : q.2.oneCell' = true)
 (hlen : Q.length ≤ 1000) (hbase : base ≤ w.heap.size)
 (h : ∀ v' w', w'.ownsRow base 47 2 v' (Q ++ [q]).length (cellsQ (Q ++ [q])) → w.grownBy w' v.ownBlock → (v'.ownBlock = v.ownBlock ∨ v'.ownBlock = some w.heap.size) → K (a.put o.dst v') w') :
 if Region.wanted o (yielded ops a.tmps) = true then Oper.wp Tryz.prog o a w K Z else E := by
 have hw : Region.wanted o (yielded ops a.tmps) = true := by simp [Region.wanted, hgd]
 rw [if_pos hw]
 obtain ⟨i0, hi, hz0, hz1, hz2⟩ := info_parts Tryz.infoMap
 have hin : ∀ j u, (cellsQ [q])[j]? = some u → w.cell? ((⟨b, 0, none⟩ : Addr).add j) = some u := by
  intro j u hu
  rw [Addr.add_lit]
  rcases j with _ | _ | j
  ·simp only [cellsQ, List.getElem?_cons_zero, Option.some.injEq] at hu; subst hu; exact c0
  ·simp only [cellsQ, List.getElem?_cons_succ, List.getElem?_cons_zero, Option.some.injEq] at hu; subst hu; exact c1
  ·simp [cellsQ] at hu
 have hone : ∀ u ∈ cellsQ [q], u.oneCell' = true := by
  intro u hu
  simp only [cellsQ, List.mem_cons, List.not_mem_nil, or_false] at hu
  rcases hu with rfl | rfl
  ·rfl
  ·exact hq
 obtain ⟨v', w', hrun, h2, h3, _, h5⟩ := run_append_own_at (P := Tryz.prog) w base 24 o.type 47 i0 _ 2 32 Tryz.underlying24 hi hz0 hz1 hz2 rfl (by decide) v Q.length _ hown
  ⟨b, 0, none⟩ 1 c (cellsQ [q]) rfl hin hone (by unfold maxLen; omega) (by omega) hbase
 unfold Oper.wp execOp
 simp only [ho, resolve, invoke, builtin, Sem.run_bind, Sem.run_pure, Result.andThen_ok, List.map_toArray, List.map_cons, List.map_nil, hs, hx, hrun]
 exact h v' w' (by rw [List.length_append, cellsQ_append]; exact h2) h3 h5
theorem step_append_one {w : World} {ops : Array Oper} {o : Oper} {a : Act} {K : Act → World → Prop} {Z : Exit → Act → World → Prop} {E : Prop} (hgd : o.guard = none) (s x : Operand)
 (ho : o.op = .call { callee := .builtin .append, args := #[s, x], argTypes := #[22, 22] })
 (base : Nat) (v : Value) (xs : List Int) (hs : a.eval s = v) (hown : Ints w base v xs)
 (b c : Nat) (z : Int) (hx : a.eval x = .slice (some ⟨b, 0, none⟩) 1 c) (c0 : w.cell? ⟨b, 0, none⟩ = some (.int .i64 z))
 (hlen : xs.length ≤ 1000) (hbase : base ≤ w.heap.size)
 (h : ∀ v' w', Ints w' base v' (xs ++ [z]) → w.grownBy w' v.ownBlock → (v'.ownBlock = v.ownBlock ∨ v'.ownBlock = some w.heap.size) → K (a.put o.dst v') w') :
 if Region.wanted o (yielded ops a.tmps) = true then Oper.wp Tryz.prog o a w K Z else E := by
 have hw : Region.wanted o (yielded ops a.tmps) = true := by simp [Region.wanted, hgd]
 rw [if_pos hw]
 obtain ⟨i0, hi, hz0, hz1, hz2⟩ := info_parts Tryz.info3
 have hin : ∀ j u, ([Value.int .i64 z])[j]? = some u → w.cell? ((⟨b, 0, none⟩ : Addr).add j) = some u := by
  intro j u hu
  rw [Addr.add_lit]
  rcases j with _ | j
  ·simp only [List.getElem?_cons_zero, Option.some.injEq] at hu; subst hu; exact c0
  ·simp at hu
 obtain ⟨v', w', hrun, h2, h3, _, h5⟩ := run_append_own_at (P := Tryz.prog) w base 22 o.type 3 i0 _ 1 8 Tryz.underlying22 hi hz0 hz1 hz2 rfl (by decide) v xs.length _ hown
  ⟨b, 0, none⟩ 1 c [Value.int .i64 z] rfl hin (by intro u hu; simp at hu; subst hu; rfl) (by unfold maxLen; omega) (by omega) hbase
 unfold Oper.wp execOp
 simp only [ho, resolve, invoke, builtin, Sem.run_bind, Sem.run_pure, Result.andThen_ok, List.map_toArray, List.map_cons, List.map_nil, hs, hx, hrun]
 exact h v' w' (by unfold Ints; simpa using h2) h3 h5
theorem wpList_append_one {w : World} {ops : Array Oper} {rest : List Oper} {o : Oper} {a : Act} {Q : Exit → Act → World → Prop} (s x : Operand)
 (ho : o.op = .call { callee := .builtin .append, args := #[s, x], argTypes := #[22, 22] })
 (hgd : o.guard = none)
 (base : Nat) (v : Value) (xs : List Int) (hs : a.eval s = v) (hown : Ints w base v xs)
 (b c : Nat) (z : Int) (hx : a.eval x = .slice (some ⟨b, 0, none⟩) 1 c) (c0 : w.cell? ⟨b, 0, none⟩ = some (.int .i64 z))
 (hlen : xs.length ≤ 1000) (hbase : base ≤ w.heap.size)
 (h : ∀ v' w', Ints w' base v' (xs ++ [z]) → w.grownBy w' v.ownBlock → (v'.ownBlock = v.ownBlock ∨ v'.ownBlock = some w.heap.size) → wpList Tryz.prog ops Q rest (a.put o.dst v') w') : wpList Tryz.prog ops Q (o :: rest) a w := by
 unfold wpList
 have hw : Region.wanted o (yielded ops a.tmps) = true := by simp [Region.wanted, hgd]
 rw [if_pos hw]
 refine .inl ?_
 have := step_append_one (w := w) (ops := ops) (o := o) (a := a) (K := fun a' w' => wpList Tryz.prog ops Q rest a' w') (Z := Q) (E := True) hgd s x ho base v xs hs hown b c z hx c0 hlen hbase h
 rwa [if_pos hw] at this
end Go.Proofs.YtopaojjodkoidaaGreatDoor
