/- Lists of spans, plain mathematics: ascending lists, the valu -/
import Derived.Test.YtopaojjodkoidaaGreatDoorRows
import Derived.WalkKit
import Derived.WalkSpells
import Derived.WalkLawsBesides
import Derived.Lib.Hide
import Derived.Laws.BytesArg
import Derived.Deep.QuietTactic
import Derived.BigQuiet
import Derived.Deep.DeepCutAuto
import Derived.Maps.AppendAt
import Derived.Deep.RegionHeld3
import Derived.Deep.AppendLies
import Derived.OwnWalk
set_option linter.unusedSimpArgs false
set_option linter.unusedVariables false
namespace Go.Proofs.YtopaojjodkoidaaGreatDoor
abbrev Sp := Int × Int × Int
def ends (lo : Int) : List Sp → Int
 | [] => lo
 | s :: r => ends (s.2.1 + 1) r
def ascB (lo : Int) : List Sp → Bool
 | [] => true
 | s :: r => decide (lo ≤ s.1) && (decide (s.1 ≤ s.2.1) && (decide (s.2.1 ≤ 1114111) && ascB (s.2.1 + 1) r))
theorem asc_cons {lo : Int} {s : Sp} {r : List Sp} : ascB lo (s :: r) = true ↔ lo ≤ s.1 ∧ s.1 ≤ s.2.1 ∧ s.2.1 ≤ 1114111 ∧ ascB (s.2.1 + 1) r = true := by
 simp [ascB]
theorem ends_append (lo : Int) (a b : List Sp) : ends lo (a ++ b) = ends (ends lo a) b := by
 induction a generalizing lo with
 | nil => rfl
 | cons s r ih => exact ih _
theorem asc_append {lo : Int} {a b : List Sp} : ascB lo (a ++ b) = true ↔ ascB lo a = true ∧ ascB (ends lo a) b = true := by
 induction a generalizing lo with
 | nil => simp [ascB, ends]
 | cons s r ih => simp only [List.cons_append, asc_cons, ih, ends, and_assoc]
theorem asc_weak {lo lo' : Int} {l : List Sp} (h : ascB lo' l = true) (hl : lo ≤ lo') : ascB lo l = true := by
 cases l with
 | nil => rfl
 | cons s r => rw [asc_cons] at h ⊢; exact ⟨by omega, h.2⟩
theorem ends_ge {lo : Int} {l : List Sp} (h : ascB lo l = true) : lo + l.length ≤ ends lo l := by
 induction l generalizing lo with
 | nil => simp [ends]
 | cons s r ih =>
  rw [asc_cons] at h
  have := ih h.2.2.2
  simp only [ends, List.length_cons]
  omega
theorem ends_le {lo : Int} {l : List Sp} (h : ascB lo l = true) (hl : lo ≤ 1114112) : ends lo l ≤ 1114112 := by
 induction l generalizing lo with
 | nil => simpa [ends] using hl
 | cons s r ih => rw [asc_cons] at h; exact ih h.2.2.2 (by omega)
theorem asc_mem {lo : Int} {l : List Sp} (h : ascB lo l = true) {s : Sp} (hs : s ∈ l) : lo ≤ s.1 ∧ s.1 ≤ s.2.1 ∧ s.2.1 ≤ 1114111 ∧ s.2.1 < ends lo l := by
 induction l generalizing lo with
 | nil => cases hs
 | cons t r ih =>
  rw [asc_cons] at h
  have h2 := ends_ge h.2.2.2
  rcases List.mem_cons.1 hs with rfl | hs
  ·simp only [ends]; omega
  ·have := ih h.2.2.2 hs
   simp only [ends]; omega
def val : List Sp → Int → Option Int
 | [], _ => none
 | s :: r, c => if s.1 ≤ c ∧ c ≤ s.2.1 then some s.2.2 else val r c
theorem val_cons (s : Sp) (r : List Sp) (c : Int) : val (s :: r) c = if s.1 ≤ c ∧ c ≤ s.2.1 then some s.2.2 else val r c := rfl
theorem val_append (a b : List Sp) (c : Int) : val (a ++ b) c = (val a c).or (val b c) := by
 induction a with
 | nil => simp [val]
 | cons s r ih => simp only [List.cons_append, val_cons, ih]; split <;> simp
theorem val_none {lo : Int} {l : List Sp} (h : ascB lo l = true) {c : Int} (hc : c < lo ∨ ends lo l ≤ c) : val l c = none := by
 induction l generalizing lo with
 | nil => rfl
 | cons s r ih =>
  rw [asc_cons] at h
  have h2 := ends_ge h.2.2.2
  simp only [ends] at hc
  rw [val_cons, if_neg (by omega)]
  exact ih h.2.2.2 (by omega)
def touch (p s : Sp) : Bool := decide (p.2.1 + 1 = s.1) && decide (p.2.2 = s.2.2)
def jstep (acc : List Sp) (s : Sp) : List Sp :=
 match acc.getLast? with
 | none => [s]
 | some p => if touch p s = true then acc.dropLast ++ [(p.1, s.2.1, p.2.2)] else acc ++ [s]
def joinS (l : List Sp) : List Sp := l.foldl jstep []
def cnt : List Sp → Int
 | [] => 0
 | s :: r => (s.2.1 - s.1 + 1) + cnt r
open Go.RowKit
theorem below_grownBy {w w' : World} (h : Below w.heap.size w w') (row : Option Nat) : w.grownBy w' row :=
 ⟨h.os, h.tape, h.output, h.size, fun k hk _ => h.block k hk⟩
theorem ownsRow_below {w w' : World} {B : Nat} {e : TypeId} {z : Nat} {v : Value} {n : Nat} {xs : List Value} (h : w.ownsRow B e z v n xs) (hb : Below w.heap.size w w') : w'.ownsRow B e z v n xs :=
 h.kept (below_grownBy hb none) (by cases v.ownBlock <;> simp)
theorem ownsRow_mono {w : World} {B B' : Nat} {e : TypeId} {z : Nat} {v : Value} {n : Nat} {xs : List Value} (h : w.ownsRow B e z v n xs) (hB : B' ≤ B) : w.ownsRow B' e z v n xs := by
 obtain ⟨h1, h2⟩ := h
 refine ⟨h1, ?_⟩
 rcases h2 with h2 | ⟨g, cap, cur, a, b, c⟩
 ·exact .inl h2
 ·exact .inr ⟨g, cap, cur, a, by omega, c⟩
theorem Tryz.info3 : (Tryz.prog.info? 3).map (fun i => (i.zero, i.size, i.bytes)) = some (some (.int .i64 0), 1, 8) := by kernel_rfl
def Ints (w : World) (B : Nat) (v : Value) (xs : List Int) : Prop := w.ownsRow B 3 1 v xs.length (xs.map (.int .i64))
theorem Ints.nil (w : World) (B : Nat) : Ints w B (.slice none 0 0) [] := World.ownsRow_nil _ _ _ _
theorem Ints.below {w w' : World} {B : Nat} {v : Value} {xs : List Int} (h : Ints w B v xs) (hb : Below w.heap.size w w') : Ints w' B v xs := ownsRow_below h hb
def RowIn (t : IntKind) (w : World) (p : Option Addr) (zs : List Int) : Prop :=
 ∀ k, k < zs.length → ∃ b off, p = some ⟨b, off, none⟩ ∧ w.cell? ⟨b, off + k, none⟩ = some (.int t (zs.getD k 0))
abbrev IntsIn (w : World) (p : Option Addr) (zs : List Int) : Prop := RowIn .i64 w p zs
theorem RowIn.below {t : IntKind} {w w' : World} {p : Option Addr} {zs : List Int} (h : RowIn t w p zs) (hb : Below w.heap.size w w') : RowIn t w' p zs := by
 intro k hk
 obtain ⟨b, off, e, hc⟩ := h k hk
 exact ⟨b, off, e, (hb.cell (p := ⟨b, off + k, none⟩) (World.block_lt_of_cell? w _ hc)).trans hc⟩
theorem RowIn.alloc {t : IntKind} {w : World} {p : Option Addr} {zs : List Int} (h : RowIn t w p zs) (o : Obj) : RowIn t (w.alloc o) p zs :=
 h.below ((Below.refl _ _).alloc (Nat.le_refl _) o)
def IsRow (k : IntKind) (w : World) (a : Option Addr) (len cap : Nat) (zs : List Int) : Prop :=
 (a = none ∧ len = 0 ∧ cap = 0 ∧ zs = []) ∨
 ∃ x, a = some x ∧ len ≤ cap ∧ cap * (k.bits / 8) ≤ 140737488351232 ∧ zs.length = cap ∧ (∀ i, i < zs.length → w.cell? (x.add i) = some (.int k (zs.getD i 0))) ∧ ∀ n ∈ zs, (Lit.int k n).wf = true
theorem IsRow.inn {t : IntKind} {w : World} {a : Option Addr} {len cap : Nat} {zs : List Int} (h : IsRow t w a len cap zs) :
 ∃ xs : List Int, len = xs.length ∧ xs.length * (t.bits / 8) ≤ 140737488351232 ∧ RowIn t w a xs ∧ ∀ n ∈ xs, (Lit.int t n).wf = true := by
 rcases h with ⟨rfl, rfl, rfl, rfl⟩ | ⟨x, rfl, h1, h2, h3, h4, h5⟩
 ·exact ⟨[], rfl, by simp, fun k hk => by simp at hk, by simp⟩
 ·refine ⟨zs.take len, by simp; omega, Nat.le_trans (Nat.mul_le_mul_right _ (by simp; omega)) h2, fun k hk => ?_, fun n hn => h5 n (List.mem_of_mem_take hn)⟩
  have hk' : k < len := by simp at hk; omega
  have hz : k < zs.length := by omega
  have h0 := h4 0 (by omega)
  have hs : x.spot = none := by
   rw [Addr.add_zero'] at h0
   unfold World.cell? at h0
   split at h0
   ·split at h0
    ·cases h0
    ·rename_i hh; simpa using hh
   ·cases h0
  obtain ⟨b, off, sp⟩ := x
  subst hs
  refine ⟨b, off, rfl, ?_⟩
  have := h4 k hz
  rw [Addr.add_lit] at this
  rw [this]
  simp [hk', hz]
theorem Ints.inn {w : World} {B : Nat} {v : Value} {zs : List Int} (h : Ints w B v zs) : ∃ p cap, v = .slice p zs.length cap ∧ IntsIn w p zs := by
 obtain ⟨h1, h2⟩ := h
 rcases h2 with ⟨rfl, h3⟩ | ⟨g, cap, cur, rfl, hB, hg, hn, hc, hs, ht⟩
 ·have : zs = [] := List.eq_nil_of_length_eq_zero h3
  subst this
  exact ⟨none, 0, rfl, fun k hk => by simp at hk⟩
 ·refine ⟨_, cap, rfl, fun k hk => ⟨g, 0, rfl, ?_⟩⟩
  rw [cell_of_row w g (0 + k) cur _ (0, 0) hg, Nat.zero_add]
  have e : (cur.toList.take (zs.length * 1))[k]? = (zs.map (Value.int .i64))[k]? := by rw [ht]
  rw [List.getElem?_take, if_pos (by omega)] at e
  simpa [List.getD, List.getElem?_eq_getElem hk] using e
theorem take_snoc_int (l : List Int) (k : Nat) (h : k < l.length) : l.take (k + 1) = l.take k ++ [l.getD k 0] := by
 rw [List.take_succ_eq_append_getElem h]; simp [h]
theorem Tryz.infoSpan : (Tryz.prog.info? 45).map (fun i => (i.zero, i.size, i.bytes)) = some (some (.agg #[.int .i64 0, .int .i64 0, .int .i64 0]), 3, 24) := by kernel_rfl
abbrev sp0 : Sp := (0, 0, 0)
abbrev spV (s : Sp) : Value := .agg #[.int .i64 s.1, .int .i64 s.2.1, .int .i64 s.2.2]
def cellsS : List Sp → List Value
 | [] => []
 | s :: r => .int .i64 s.1 :: .int .i64 s.2.1 :: .int .i64 s.2.2 :: cellsS r
theorem cellsS_length (l : List Sp) : (cellsS l).length = l.length * 3 := by
 induction l with
 | nil => rfl
 | cons s r ih => simp only [cellsS, List.length_cons, ih]; omega
theorem cellsS_append (a b : List Sp) : cellsS (a ++ b) = cellsS a ++ cellsS b := by
 induction a with
 | nil => rfl
 | cons s r ih => simp [cellsS, ih]
theorem cellsS_at (l : List Sp) (k : Nat) (h : k < l.length) :
 (cellsS l)[k * 3]? = some (.int .i64 (l.getD k sp0).1) ∧ (cellsS l)[k * 3 + 1]? = some (.int .i64 (l.getD k sp0).2.1) ∧ (cellsS l)[k * 3 + 2]? = some (.int .i64 (l.getD k sp0).2.2) := by
 induction l generalizing k with
 | nil => simp at h
 | cons s r ih =>
  cases k with
  | zero => simp [cellsS]
  | succ k =>
   have := ih k (by simpa using h)
   rw [show (k + 1) * 3 = k * 3 + 1 + 1 + 1 by omega]
   simpa [cellsS] using this
def SpIn (w : World) (p : Option Addr) (l : List Sp) : Prop :=
 ∀ k, k < l.length → ∃ b off, p = some ⟨b, off, none⟩ ∧ w.cell? ⟨b, off + k * 3, none⟩ = some (.int .i64 (l.getD k sp0).1) ∧ w.cell? ⟨b, off + k * 3 + 1, none⟩ = some (.int .i64 (l.getD k sp0).2.1) ∧
  w.cell? ⟨b, off + k * 3 + 2, none⟩ = some (.int .i64 (l.getD k sp0).2.2)
theorem SpIn.below {w w' : World} {p : Option Addr} {l : List Sp} (h : SpIn w p l) (hb : Below w.heap.size w w') : SpIn w' p l := by
 intro k hk
 obtain ⟨b, off, e, h1, h2, h3⟩ := h k hk
 have hlt := World.block_lt_of_cell? w _ h1
 exact ⟨b, off, e, (hb.cell (p := ⟨b, off + k * 3, none⟩) hlt).trans h1, (hb.cell (p := ⟨b, off + k * 3 + 1, none⟩) hlt).trans h2, (hb.cell (p := ⟨b, off + k * 3 + 2, none⟩) hlt).trans h3⟩
theorem SpIn.alloc {w : World} {p : Option Addr} {l : List Sp} (h : SpIn w p l) (o : Obj) : SpIn (w.alloc o) p l :=
 h.below ((Below.refl _ _).alloc (Nat.le_refl _) o)
def Spans (w : World) (B : Nat) (v : Value) (l : List Sp) : Prop := w.ownsRow B 45 3 v l.length (cellsS l)
theorem Spans.nil (w : World) (B : Nat) : Spans w B (.slice none 0 0) [] := World.ownsRow_nil _ _ _ _
theorem Spans.below {w w' : World} {B : Nat} {v : Value} {l : List Sp} (h : Spans w B v l) (hb : Below w.heap.size w w') : Spans w' B v l := ownsRow_below h hb
theorem Spans.mono {w : World} {B B' : Nat} {v : Value} {l : List Sp} (h : Spans w B v l) (hB : B' ≤ B) : Spans w B' v l := ownsRow_mono h hB
theorem Spans.inn {w : World} {B : Nat} {v : Value} {l : List Sp} (h : Spans w B v l) : ∃ p cap, v = .slice p l.length cap ∧ SpIn w p l := by
 obtain ⟨h1, h2⟩ := h
 rcases h2 with ⟨rfl, h3⟩ | ⟨g, cap, cur, rfl, hB, hg, hn, hc, hs, ht⟩
 ·have : l = [] := List.eq_nil_of_length_eq_zero h3
  subst this
  exact ⟨none, 0, rfl, fun k hk => by simp at hk⟩
 ·refine ⟨_, cap, rfl, fun k hk => ⟨g, 0, rfl, ?_⟩⟩
  have key : ∀ j v, j < l.length * 3 → (cellsS l)[j]? = some v → w.cell? ⟨g, j, none⟩ = some v := by
   intro j v hj hv
   rw [cell_of_row w g j cur _ (0, 0) hg]
   rw [← ht, List.getElem?_take, if_pos hj] at hv
   simpa using hv
  obtain ⟨c1, c2, c3⟩ := cellsS_at l k hk
  refine ⟨?_, ?_, ?_⟩
  ·rw [Nat.zero_add]; exact key _ _ (by omega) c1
  ·rw [Nat.zero_add]; exact key _ _ (by omega) c2
  ·rw [Nat.zero_add]; exact key _ _ (by omega) c3
theorem take_snoc_sp (l : List Sp) (k : Nat) (h : k < l.length) : l.take (k + 1) = l.take k ++ [l.getD k sp0] := by
 rw [List.take_succ_eq_append_getElem h]; simp [h]
theorem drop_cons_sp (l : List Sp) (k : Nat) (h : k < l.length) : l.drop k = l.getD k sp0 :: l.drop (k + 1) := by
 rw [List.drop_eq_getElem_cons h]; simp [h]
theorem getD_mem (l : List Sp) (k : Nat) (h : k < l.length) : l.getD k sp0 ∈ l := by
 simp [h]
theorem asc_snoc_iff (lo : Int) (a : List Sp) (s : Sp) : ascB lo (a ++ [s]) = true ↔ ascB lo a = true ∧ ends lo a ≤ s.1 ∧ s.1 ≤ s.2.1 ∧ s.2.1 ≤ 1114111 := by
 rw [asc_append, asc_cons]; simp [ascB]
theorem asc_prefix {lo : Int} {l : List Sp} (k : Nat) (h : ascB lo (l.take k) = false) : ascB lo l = false := by
 cases hb : ascB lo l with
 | false => rfl
 | true =>
  rw [← List.take_append_drop k l, asc_append] at hb
  rw [hb.1] at h; cases h
def validS (l : List Sp) : Bool := decide (l.length ≤ 256) && ascB 0 l
theorem asc_getD {l : List Sp} (h : ascB 0 l = true) (k : Nat) (hk : k < l.length) : 0 ≤ (l.getD k sp0).1 ∧ (l.getD k sp0).1 ≤ (l.getD k sp0).2.1 ∧ (l.getD k sp0).2.1 ≤ 1114111 := by
 have := asc_mem h (getD_mem l k hk)
 omega
theorem run_make_rowN {P : Program} (t e : TypeId) (i : TypeInfo) (z : Value) (ht : P.underlying t = some (.slice e)) (hi : P.info? e = some i) (hz : i.zero = some z)
 (kl kc : IntKind) (n c : Nat) (hnc : n ≤ c) (hbytes : i.bytes * c ≤ 281474976710656) (h63 : c ≤ 9223372036854775807) (w : World) :
 (Instr.makeSlice t (.int kl (n : Int)) (.int kc (c : Int))).run P w = .ok (.slice (some ⟨w.heap.size, 0, none⟩) n c) (w.alloc (.cells (madeCells z.cells (c * i.size)) e)) := by
 have hb : (i.bytes : Int) * (c : Int) ≤ 281474976710656 := by
  have h : ((i.bytes * c : Nat) : Int) ≤ 281474976710656 := by omega
  rwa [Int.natCast_mul] at h
 have hr := run_make (P := P) w t e i z ht hi hz kl kc n c (by omega) (by omega) hb (by omega)
 simp only [Int.toNat_natCast] at hr
 exact hr
def madeSp (c : Nat) : Obj := .cells (madeCells (Value.cells (.agg #[.int .i64 0, .int .i64 0, .int .i64 0])) (c * 3)) 45
theorem Spans.made (w : World) (B c : Nat) (hB : B ≤ w.heap.size) (hc : c ≤ 4194304) : Spans (w.alloc (madeSp c)) B (.slice (some ⟨w.heap.size, 0, none⟩) 0 c) [] := by
 unfold Spans madeSp
 exact World.ownsRow_made w _ c hB (by unfold maxLen; omega) (size_madeCells _ _)
theorem cells_one (l : List Sp) : ∀ u ∈ cellsS l, u.oneCell' = true := by
 induction l with
 | nil => intro u hu; cases hu
 | cons s r ih =>
  intro u hu
  simp only [cellsS, List.mem_cons] at hu
  rcases hu with rfl | rfl | rfl | hu
  ·rfl
  ·rfl
  ·rfl
  ·exact ih u hu
theorem sp_grownBy_refl (w : World) (row : Option Nat) : w.grownBy w row := ⟨rfl, rfl, rfl, Nat.le_refl _, fun _ _ _ => rfl⟩
theorem run_append_nil_sp {P : Program} {w : World} (base : Nat) (t ty e : TypeId) (i : TypeInfo) (size : Nat) (ht : P.underlying t = some (.slice e)) (hi : P.info? e = some i)
 (v : Value) (n : Nat) (xs : List Value) (c : Nat) (hown : w.ownsRow base e size v n xs) :
 (Builtin.append_ #[t, t] ty #[v, .slice none 0 c]).run P w = .ok v w := by
 rcases hown.2 with ⟨rfl, rfl⟩ | ⟨g, cap, cur, rfl, _, _, hnc, _⟩
 ·simp [Builtin.append_, run_underlying ht, sizeOf, typeInfo, hi, Builtin.lenOf, Builtin.firstCells]
 ·simp [Builtin.append_, run_underlying ht, sizeOf, typeInfo, hi, Builtin.lenOf, Builtin.firstCells, hnc, storeCells]
theorem SpIn.cells {w : World} {ad : Addr} {l : List Sp} (h : SpIn w (some ad) l) : ∀ j u, (cellsS l)[j]? = some u → w.cell? (ad.add j) = some u := by
 intro j u hu
 have hj : j < l.length * 3 := by
  have := (List.getElem?_eq_some_iff.1 hu).1
  rwa [cellsS_length] at this
 have hk : j / 3 < l.length := by omega
 obtain ⟨b, off, e, h1, h2, h3⟩ := h (j / 3) hk
 obtain ⟨c1, c2, c3⟩ := cellsS_at l (j / 3) hk
 simp only [Option.some.injEq] at e
 subst e
 rw [Addr.add_lit]
 have hm : j % 3 = 0 ∨ j % 3 = 1 ∨ j % 3 = 2 := by omega
 rcases hm with hm | hm | hm
 ·have e : j / 3 * 3 = j := by omega
  rw [e] at h1 c1
  rw [h1, ← hu, c1]
 ·have e : j / 3 * 3 + 1 = j := by omega
  rw [Nat.add_assoc, e] at h2; rw [e] at c2
  rw [h2, ← hu, c2]
 ·have e : j / 3 * 3 + 2 = j := by omega
  rw [Nat.add_assoc, e] at h3; rw [e] at c3
  rw [h3, ← hu, c3]
theorem wp_append_spans {w : World} {o : Oper} {a : Act} {K : Act → World → Prop} {Q : Exit → Act → World → Prop} (s x : Operand)
 (ho : o.op = .call { callee := .builtin .append, args := #[s, x], argTypes := #[23, 23] })
 (base : Nat) (v : Value) (xs : List Sp) (hs : a.eval s = v) (hown : Spans w base v xs)
 (p : Option Addr) (m c : Nat) (ys : List Sp) (hm : ys.length = m) (hx : a.eval x = .slice p m c) (hin : SpIn w p ys)
 (hlen : xs.length + ys.length ≤ 1099511627776) (hbase : base ≤ w.heap.size)
 (h : ∀ v' w', Spans w' base v' (xs ++ ys) → w.grownBy w' v.ownBlock → K (a.put o.dst v') w') : o.wp Tryz.prog a w K Q := by
 subst hm
 obtain ⟨i0, hi, hz0, hz1, hz2⟩ := info_parts Tryz.infoSpan
 cases p with
 | none =>
  have hy : ys = [] := by
   cases ys with
   | nil => rfl
   | cons y r => obtain ⟨_, _, e, _⟩ := hin 0 (by simp); cases e
  subst hy
  have hr := run_append_nil_sp (P := Tryz.prog) base 23 o.type 45 i0 3 Tryz.underlying23 hi v xs.length _ c hown
  unfold Oper.wp execOp
  simp only [ho, resolve, invoke, builtin, Sem.run_bind, Sem.run_pure, Result.andThen_ok, List.map_toArray, List.map_cons, List.map_nil, hs, hx, List.length_nil, hr]
  exact h v w (by simpa using hown) (sp_grownBy_refl _ _)
 | some ad =>
  refine wp_append_own w s x 23 ho base 45 i0 _ 3 24 Tryz.underlying23 hi hz0 hz1 hz2 rfl (by decide) v xs.length _ hs hown ad ys.length c (cellsS ys) hx (cellsS_length _) hin.cells (cells_one ys) (by unfold maxLen; omega) (by omega) hbase ?_
  intro v' w' h1 h2 _
  exact h v' w' (by unfold Spans; rw [List.length_append, cellsS_append]; exact h1) h2
theorem wpList_append_spans {w : World} {ops : Array Oper} {rest : List Oper} {o : Oper} {a : Act} {Q : Exit → Act → World → Prop} (s x : Operand)
 (ho : o.op = .call { callee := .builtin .append, args := #[s, x], argTypes := #[23, 23] })
 (hw : Region.wanted o (yielded ops a.tmps) = true)
 (base : Nat) (v : Value) (xs : List Sp) (hs : a.eval s = v) (hown : Spans w base v xs)
 (p : Option Addr) (m c : Nat) (ys : List Sp) (hm : ys.length = m) (hx : a.eval x = .slice p m c) (hin : SpIn w p ys)
 (hlen : xs.length + ys.length ≤ 1099511627776) (hbase : base ≤ w.heap.size)
 (h : ∀ v' w', Spans w' base v' (xs ++ ys) → w.grownBy w' v.ownBlock → wpList Tryz.prog ops Q rest (a.put o.dst v') w') : wpList Tryz.prog ops Q (o :: rest) a w := by
 unfold wpList
 rw [if_pos hw]
 exact .inl (wp_append_spans s x ho base v xs hs hown p m c ys hm hx hin hlen hbase h)
theorem one_new (w : World) (f t v : Int) (ty : TypeId) : SpIn (w.alloc (.cells #[.int .i64 f, .int .i64 t, .int .i64 v] ty)) (some ⟨w.heap.size, 0, none⟩) [(f, t, v)] := by
 intro k hk
 obtain rfl : k = 0 := by simp at hk; omega
 refine ⟨_, _, rfl, ?_, ?_, ?_⟩ <;> simp [World.cell?_alloc_new]
theorem wp_append_span {W : World} {o : Oper} {a : Act} {K : Act → World → Prop} {Q : Exit → Act → World → Prop} (s x : Operand)
 (ho : o.op = .call { callee := .builtin .append, args := #[s, x], argTypes := #[23, 23] })
 (base : Nat) (v : Value) (xs : List Sp) (hs : a.eval s = v) (hown : Spans W base v xs)
 (y : Sp) (c g : Nat) (hx : a.eval x = .slice (some ⟨g, 0, none⟩) 1 c) (hg : g = W.heap.size)
 (hlen : xs.length ≤ 1099511627775) (hbase : base ≤ W.heap.size)
 (h : ∀ v' w', Spans w' base v' (xs ++ [y]) → W.grownBy w' v.ownBlock → K (a.put o.dst v') w') : o.wp Tryz.prog a (W.alloc (.cells #[.int .i64 y.1, .int .i64 y.2.1, .int .i64 y.2.2] 45)) K Q := by
 subst hg
 refine wp_append_spans s x ho base v xs hs (World.ownsRow.alloc hown _) _ 1 c [y] rfl hx (one_new W y.1 y.2.1 y.2.2 _) (by simp; omega) (by simp; omega) ?_
 intro v' w' h1 h2
 refine h v' w' h1 ?_
 have hA := World.grownBy_alloc W (.cells #[.int .i64 y.1, .int .i64 y.2.1, .int .i64 y.2.2] 45) v.ownBlock
 exact ⟨h2.os.trans hA.os, h2.tape.trans hA.tape, h2.output.trans hA.output, Nat.le_trans hA.size h2.size, fun i hi hne => (h2.block i (Nat.lt_of_lt_of_le hi hA.size) hne).trans (hA.block i hi hne)⟩
theorem wpList_append_span {W : World} {ops : Array Oper} {rest : List Oper} {o : Oper} {a : Act} {Q : Exit → Act → World → Prop} (s x : Operand)
 (ho : o.op = .call { callee := .builtin .append, args := #[s, x], argTypes := #[23, 23] })
 (hw : Region.wanted o (yielded ops a.tmps) = true)
 (base : Nat) (v : Value) (xs : List Sp) (hs : a.eval s = v) (hown : Spans W base v xs)
 (y : Sp) (c g : Nat) (hx : a.eval x = .slice (some ⟨g, 0, none⟩) 1 c) (hg : g = W.heap.size)
 (hlen : xs.length ≤ 1099511627775) (hbase : base ≤ W.heap.size)
 (h : ∀ v' w', Spans w' base v' (xs ++ [y]) → W.grownBy w' v.ownBlock → wpList Tryz.prog ops Q rest (a.put o.dst v') w') : wpList Tryz.prog ops Q (o :: rest) a (W.alloc (.cells #[.int .i64 y.1, .int .i64 y.2.1, .int .i64 y.2.2] 45)) := by
 unfold wpList
 rw [if_pos hw]
 exact .inl (wp_append_span s x ho base v xs hs hown y c g hx hg hlen hbase h)
theorem cellsS_set (i : List Sp) (p : Sp) (t : Int) : (cellsS (i ++ [p])).set (i.length * 3 + 1) (.int .i64 t) = cellsS (i ++ [(p.1, t, p.2.2)]) := by
 rw [cellsS_append, cellsS_append, List.set_append_right _ _ (by rw [cellsS_length]; omega)]
 congr 1
 rw [cellsS_length, show i.length * 3 + 1 - i.length * 3 = 1 by omega]
 rfl
theorem Spans.last {w : World} {B : Nat} {v : Value} {i : List Sp} {p : Sp} (h : Spans w B v (i ++ [p])) :
 ∃ g cap, v = .slice (some ⟨g, 0, none⟩) (i.length + 1) cap ∧ B ≤ g ∧ g < w.heap.size ∧ w.cell? ⟨g, i.length * 3, none⟩ = some (.int .i64 p.1) ∧ w.cell? ⟨g, i.length * 3 + 1, none⟩ = some (.int .i64 p.2.1) ∧
  w.cell? ⟨g, i.length * 3 + 2, none⟩ = some (.int .i64 p.2.2) ∧ w.frozen? ⟨g, i.length * 3 + 1, none⟩ = false := by
 have hb := h.lt
 obtain ⟨q, cap, rfl, hin⟩ := h.inn
 obtain ⟨b, off, rfl, h1, h2, h3⟩ := hin i.length (by simp)
 have hf : off = 0 := by
  rcases h.2 with ⟨h', _⟩ | ⟨g', _, _, h', _⟩
  ·cases h'
  ·injection h' with h'; injection h' with h'; injection h'
 subst hf
 have hd : (i ++ [p]).getD i.length sp0 = p := by simp
 rw [hd] at h1 h2 h3
 have := hb b rfl
 simp only [Nat.zero_add] at h1 h2 h3
 have hz := World.ownsRow.frozenAt (g := b) (cap := cap) (n := (i ++ [p]).length) h
 exact ⟨b, cap, by simp, this.1, this.2, h1, h2, h3, hz _⟩
theorem Spans.setTo {w : World} {B : Nat} {i : List Sp} {p : Sp} {g n cap : Nat} (h : Spans w B (.slice (some ⟨g, 0, none⟩) n cap) (i ++ [p])) (hn : n = i.length + 1) (t : Int) :
 Spans (w.setCell ⟨g, i.length * 3 + 1, none⟩ (.int .i64 t)) B (.slice (some ⟨g, 0, none⟩) n cap) (i ++ [(p.1, t, p.2.2)]) := by
 subst hn
 unfold Spans at h ⊢
 rw [← cellsS_set]
 simp only [List.length_append, List.length_cons, List.length_nil] at h ⊢
 exact (World.ownsRow.stored h _ _).1
theorem Spans.drewN {w : World} {B : Nat} {v : Value} {l : List Sp} (h : Spans w B v l) (n : Nat) : Spans (w.drewN n) B v l := h
theorem Spans.alloc {w : World} {B : Nat} {v : Value} {l : List Sp} (h : Spans w B v l) (o : Obj) : Spans (w.alloc o) B v l := World.ownsRow.alloc h o
theorem SpIn.drewN {w : World} {p : Option Addr} {l : List Sp} (h : SpIn w p l) (n : Nat) : SpIn (w.drewN n) p l := h
theorem Spans.base {w : World} {B : Nat} {v : Value} {l : List Sp} (h : Spans w B v l) : ∀ k, v.ownBlock = some k → B ≤ k := fun k hk => (World.ownsRow.lt h k hk).1
theorem below_drewN_sp {B : Nat} {a w : World} (h : Below B a w) (n : Nat) : Below B a (w.drewN n) := ⟨h.os, h.tape, h.output, h.size, h.block⟩
def Cur (w : World) (g : Nat) (f t v : Int) : Prop :=
 w.cell? ⟨g, 0, none⟩ = some (.int .i64 f) ∧ w.cell? ⟨g, 1, none⟩ = some (.int .i64 t) ∧ w.cell? ⟨g, 2, none⟩ = some (.int .i64 v) ∧ w.frozen? ⟨g, 0, none⟩ = false ∧ g < w.heap.size
theorem Cur.new (w : World) (f t v : Int) (ty : TypeId) : Cur (w.alloc (.cells #[.int .i64 f, .int .i64 t, .int .i64 v] ty)) w.heap.size f t v := by
 refine ⟨?_, ?_, ?_, ?_, ?_⟩ <;> simp [World.cell?_alloc_new]
theorem Cur.drewN {w : World} {g : Nat} {f t v : Int} (h : Cur w g f t v) (n : Nat) : Cur (w.drewN n) g f t v := h
theorem Cur.grown {w w' : World} {g : Nat} {f t v : Int} {row : Option Nat} (h : Cur w g f t v) (hg : w.grownBy w' row) (hne : row ≠ some g) : Cur w' g f t v := by
 obtain ⟨h1, h2, h3, h4, h5⟩ := h
 exact ⟨hg.cell h1 (Ne.symm hne), hg.cell h2 (Ne.symm hne), hg.cell h3 (Ne.symm hne), (World.frozen?_of_block (hg.block g h5 (Ne.symm hne))).trans h4, Nat.lt_of_lt_of_le h5 hg.size⟩
theorem Cur.set {w : World} {g : Nat} {f t v : Int} (h : Cur w g f t v) (x : Int) : Cur (w.setCell ⟨g, 0, none⟩ (.int .i64 x)) g x t v := by
 obtain ⟨h1, h2, h3, h4, h5⟩ := h
 exact ⟨World.cell?_setCell_same _ _ _ h1, (World.cell?_setCell_other _ _ _ _ (by simp)).trans h2, (World.cell?_setCell_other _ _ _ _ (by simp)).trans h3, (World.frozen?_setCell _ _ _ _).trans h4, by simpa [World.setCell] using h5⟩
theorem sp_grownBy_store (w : World) (g o : Nat) (v : Value) : w.grownBy (w.setCell ⟨g, o, none⟩ v) (some g) :=
 ⟨rfl, rfl, rfl, by simp, fun k _ hne => heap_setCell_other w ⟨g, o, none⟩ k v (fun e => hne (by simp [e]))⟩
theorem Spans.store {w : World} {B g : Nat} {v : Value} {l : List Sp} (h : Spans w B v l) (hne : v.ownBlock ≠ some g) (o : Nat) (u : Value) : Spans (w.setCell ⟨g, o, none⟩ u) B v l :=
 World.ownsRow.kept h (sp_grownBy_store w g o u) (.inr hne)
theorem val_of_none {l : List Sp} {c : Int} (h : ∀ s ∈ l, ¬ (s.1 ≤ c ∧ c ≤ s.2.1)) : val l c = none := by
 induction l with
 | nil => rfl
 | cons s r ih =>
  rw [val_cons, if_neg (h s (by simp))]
  exact ih fun t ht => h t (by simp [ht])
theorem val_split {l : List Sp} {c : Int} (k : Nat) (h : ∀ s ∈ l.take k, s.2.1 < c) : val l c = val (l.drop k) c := by
 have e := val_append (l.take k) (l.drop k) c
 rw [List.take_append_drop] at e
 rw [e, val_of_none (fun s hs hc => by have := h s hs; omega)]
 rfl
theorem asc_drop {l : List Sp} (k : Nat) (h : ascB 0 l = true) : ascB 0 (l.drop k) = true := by
 rw [← List.take_append_drop k l, asc_append] at h
 have h1 := ends_ge h.1
 exact asc_weak h.2 (by omega)
theorem asc_take {l : List Sp} (k : Nat) (h : ascB 0 l = true) : ascB 0 (l.take k) = true := by
 rw [← List.take_append_drop k l, asc_append] at h
 exact h.1
theorem asc_mono {lo : Int} {l : List Sp} (h : ascB lo l = true) (k : Nat) (hk : k < l.length) : (∀ s ∈ l.take k, s.2.1 < (l.getD k sp0).1) ∧ ∀ s ∈ l.drop (k + 1), (l.getD k sp0).2.1 < s.1 := by
 induction l generalizing lo k with
 | nil => simp at hk
 | cons t r ih =>
  rw [asc_cons] at h
  cases k with
  | zero =>
   refine ⟨by simp, fun s hs => ?_⟩
   have := asc_mem h.2.2.2 (s := s) (by simpa using hs)
   simp; omega
  | succ k =>
   have hk' : k < r.length := by simpa using hk
   have := ih h.2.2.2 k hk'
   refine ⟨fun s hs => ?_, fun s hs => ?_⟩
   ·rw [List.take_succ_cons] at hs
    rcases List.mem_cons.1 hs with rfl | hs
    ·have := asc_mem h.2.2.2 (getD_mem r k hk')
     simp only [List.getD_cons_succ]; omega
    ·simpa using this.1 s hs
   ·simpa using this.2 s (by simpa using hs)
def beforeS (c : Int) : List Sp → List Sp
 | [] => []
 | s :: r => if s.1 < c then (s.1, min s.2.1 (c - 1), s.2.2) :: beforeS c r else beforeS c r
def afterS (c : Int) : List Sp → List Sp
 | [] => []
 | s :: r => if c < s.2.1 then (max s.1 (c + 1), s.2.1, s.2.2) :: afterS c r else afterS c r
def limS (l : List Sp) : List Sp × Int := if 256 < l.length then ([], 7) else (l, 0)
def replS (l : List Sp) (f t : Int) (by' : List Sp) : List Sp × Int :=
 if validS l = false then ([], 1) else if f < 0 ∨ t < f ∨ 1114111 < t then ([], 3) else limS (joinS (beforeS f l ++ by' ++ afterS t l))
def setS (l : List Sp) (f t v : Int) : List Sp × Int := replS l f t [(f, t, v)]
set_option maxHeartbeats 1000000 in
theorem isValid_any (p : Option Addr) (n c : Nat) (l : List Sp) (w : World) (hl : l.length = n) (hn : n ≤ maxLen) (hin : SpIn w p l) :
 Calls Tryz.prog 177 #[.slice p n c] w fun e w' => e = .returned (.bool (validS l)) ∧ Below w.heap.size w w' := by
 unfold maxLen at hn
 have HI := Lib.hid hin
 have HL := Lib.hid hl
 clear hin hl
 by_cases hbig : 256 < n
 ·have HV : Hid (validS l = false) := by unfold Hid validS; rw [HL.out, decide_eq_false (by omega)]; rfl
  go_enter Tryz.func177, Tryz.ntmps177
  go_wp2
  go_ret
  rw [HV.out]
  exact ⟨rfl, Below.refl _ _⟩
 ·go_enter Tryz.func177, Tryz.ntmps177
  go_wp2
  go_loopw [3, 11] (fun v i wr => ∃ k : Nat, k ≤ n ∧ i = .int .i64 k ∧ (∃ e : Int, 0 ≤ e ∧ e ≤ 1114112 ∧ v = .int .i64 e ∧ Hid (ends 0 (l.take k) = e)) ∧ Hid (ascB 0 (l.take k) = true) ∧ Below w.heap.size w wr) (fun _ i _ => n - (intOf i).toNat)
  case atStart => exact ⟨0, Nat.zero_le _, rfl, ⟨0, by omega, by omega, rfl, rfl⟩, rfl, Below.refl _ _⟩
  case round =>
   obtain ⟨k, hk, rfl, ⟨e, he0, he1, rfl, hee⟩, ha, hbel⟩ := hrel
   by_cases hlt : k < n
   ·have hkl : k < l.length := by rw [HL.out]; exact hlt
    obtain ⟨b, off, rfl, hc1, hc2, hc3⟩ := (HI.out.below hbel) k hkl
    have HB := Lib.hid hbel
    obtain ⟨⟨f, t, v⟩, hs⟩ : ∃ s, l.getD k sp0 = s := ⟨_, rfl⟩
    rw [hs] at hc1 hc2 hc3
    have HS := Lib.hid hs
    clear hs hbel
    by_cases hok : e ≤ f ∧ f ≤ t ∧ t ≤ 1114111
    ·obtain ⟨ho1, ho2, ho3⟩ := hok
     have HA : Hid (ascB 0 (l.take (k + 1)) = true) := by
      unfold Hid; rw [take_snoc_sp l k hkl, asc_snoc_iff, HS.out, hee.out]; exact ⟨ha.out, ho1, ho2, ho3⟩
     have HE : Hid (ends 0 (l.take (k + 1)) = t + 1) := by
      unfold Hid; rw [take_snoc_sp l k hkl, ends_append, HS.out]; rfl
     go_wp2
     go_roundw
     case rel => exact ⟨k + 1, by omega, by go_num, ⟨t + 1, by omega, by omega, rfl, HE⟩, HA, HB.out.alloc HB.out.size _⟩
     case measure => simp [intOf]; omega
    ·have HN := Lib.hid hok
     have HV : Hid (validS l = false) := by
      unfold Hid validS
      rw [asc_prefix (k + 1), Bool.and_false]
      rw [← Bool.not_eq_true, take_snoc_sp l k hkl, asc_snoc_iff, HS.out, hee.out]
      exact fun h => HN.out h.2
     clear hok
     go_wp2
     all_goals first
      | (exfalso; have := HN.out; omega)
      | (go_ret; rw [HV.out]; exact ⟨rfl, HB.out.alloc HB.out.size _⟩)
   ·obtain rfl : k = n := by omega
    have HV : Hid (validS l = true) := by
     unfold Hid validS
     have := ha.out
     rw [List.take_of_length_le (Nat.le_of_eq HL.out)] at this
     rw [this, HL.out, decide_eq_true (by omega)]; rfl
    have HB := Lib.hid hbel
    clear hbel
    go_wp2
    go_ret
    rw [HV.out]
    exact ⟨rfl, HB.out⟩
theorem isValid_at (p : Option Addr) (n c : Nat) (l : List Sp) (b : Bool) (w : World) (hl : Hid (l.length = n)) (hn : n ≤ maxLen) (hin : SpIn w p l) (hv : Hid (validS l = b)) :
 Calls Tryz.prog 177 #[.slice p n c] w fun e w' => e = .returned (.bool b) ∧ Below w.heap.size w w' := by
 have := isValid_any p n c l w hl.out hn hin
 rw [hv.out] at this
 exact this
theorem valid_asc {l : List Sp} (h : validS l = true) : ascB 0 l = true := by
 simp only [validS, Bool.and_eq_true] at h; exact h.2
theorem valid_len {l : List Sp} (h : validS l = true) : l.length ≤ 256 := by
 simp only [validS, Bool.and_eq_true, decide_eq_true_eq] at h; exact h.1
def checkS (l : List Sp) (lo hi : Int) : Bool := validS l && l.all fun s => decide (lo ≤ s.1) && decide (s.2.1 ≤ hi)
theorem check_ends {l : List Sp} (ha : ascB 0 l = true) (m : Nat) (hm : l.length = m + 1) (lo hi : Int) :
 (l.all fun s => decide (lo ≤ s.1) && decide (s.2.1 ≤ hi)) = (decide (lo ≤ (l.getD 0 sp0).1) && decide ((l.getD m sp0).2.1 ≤ hi)) := by
 rw [Bool.eq_iff_iff, List.all_eq_true]
 simp only [Bool.and_eq_true, decide_eq_true_eq]
 constructor
 ·intro h
  exact ⟨(h _ (getD_mem l 0 (by omega))).1, (h _ (getD_mem l m (by omega))).2⟩
 ·rintro ⟨h1, h2⟩ s hs
  have e0 := drop_cons_sp l 0 (by omega)
  have h0 := asc_mem ha (getD_mem l 0 (by omega))
  have hm' := asc_mem ha (getD_mem l m (by omega))
  have em := take_snoc_sp l m (by omega)
  rw [List.take_of_length_le (by omega)] at em
  constructor
  ·rw [List.drop_zero] at e0
   rw [e0] at hs
   rcases List.mem_cons.1 hs with rfl | hs
   ·exact h1
   ·have := (asc_mono ha 0 (by omega)).2 s hs; omega
  ·rw [em] at hs
   rcases List.mem_append.1 hs with hs | hs
   ·have := (asc_mono ha m (by omega)).1 s hs; omega
   ·rw [List.mem_singleton] at hs; subst hs; exact h2
set_option maxHeartbeats 1000000 in
theorem check_any (p : Option Addr) (n cp : Nat) (l : List Sp) (lo hi : Int) (w : World) (hl : l.length = n) (hn : n ≤ maxLen) (hin : SpIn w p l) :
 Calls Tryz.prog 152 #[.slice p n cp, .int .i64 lo, .int .i64 hi] w fun e w' => e = .returned (.bool (checkS l lo hi)) ∧ Below w.heap.size w w' := by
 have HI := Lib.hid hin
 have HL := Lib.hid hl
 clear hin hl
 cases hv : validS l with
 | false =>
  have HF : Hid (checkS l lo hi = false) := by unfold Hid checkS; rw [hv]; rfl
  have HV := Lib.hid hv
  clear hv
  go_enter Tryz.func152, Tryz.ntmps152
  go_wp2_with fail
  refine (isValid_at p n cp l false _ HL hn HI.out HV).mono ?_
  rintro e w1 ⟨rfl, hb1⟩
  have HB := Lib.hid hb1
  clear hb1
  go_wp2
  go_ret
  rw [HF.out]
  exact ⟨rfl, HB.out⟩
 | true =>
  have hn2 : n ≤ 256 := by rw [← HL.out]; exact valid_len hv
  have hasc := valid_asc hv
  have HV := Lib.hid hv
  by_cases h0 : n = 0
  ·have HF : Hid (checkS l lo hi = true) := by
    unfold Hid checkS
    rw [hv, List.eq_nil_of_length_eq_zero (HL.out.trans h0)]; rfl
   subst h0
   clear hv hasc
   go_enter Tryz.func152, Tryz.ntmps152
   go_wp2_with fail
   refine (isValid_at p 0 cp l true _ HL hn HI.out HV).mono ?_
   rintro e w1 ⟨rfl, hb1⟩
   have HB := Lib.hid hb1
   clear hb1
   go_wp2
   go_ret
   rw [HF.out]
   exact ⟨rfl, HB.out⟩
  ·obtain ⟨m, rfl⟩ : ∃ m, n = m + 1 := ⟨n - 1, by omega⟩
   have hc := check_ends hasc m HL.out lo hi
   have HF : Hid (checkS l lo hi = (decide (lo ≤ (l.getD 0 sp0).1) && decide ((l.getD m sp0).2.1 ≤ hi))) := by
    unfold Hid checkS; rw [hv, hc]; rfl
   obtain ⟨⟨f, t0, v0⟩, hs⟩ : ∃ s, l.getD 0 sp0 = s := ⟨_, rfl⟩
   obtain ⟨⟨f1, t, v1⟩, hs1⟩ : ∃ s, l.getD m sp0 = s := ⟨_, rfl⟩
   rw [hs, hs1] at HF
   have HS := Lib.hid hs
   have HS1 := Lib.hid hs1
   clear hv hasc hc hs hs1 h0
   go_enter Tryz.func152, Tryz.ntmps152
   go_wp2_with fail
   refine (isValid_at p (m + 1) cp l true _ HL hn HI.out HV).mono ?_
   rintro e w1 ⟨rfl, hb1⟩
   have HB := Lib.hid hb1
   have HI1 := Lib.hid (HI.out.below hb1)
   clear hb1
   obtain ⟨g, off, rfl, hc1, hc2, hc3⟩ := HI1.out 0 (by rw [HL.out]; omega)
   obtain ⟨g', off', e', hd1, hd2, hd3⟩ := HI1.out m (by rw [HL.out]; omega)
   injection e' with e'
   injection e' with e1 e2
   subst e1; subst e2
   rw [HS.out] at hc1
   rw [HS1.out] at hd2
   simp only [Nat.zero_mul, Nat.add_zero] at hc1
   simp only at hd2
   clear hc2 hc3 hd1 hd3
   have hne : ((m : Int) + 1 == 0) = false := by simp; omega
   by_cases h1 : lo ≤ f
   ·by_cases h2 : t ≤ hi
    ·have HG : Hid (checkS l lo hi = true) := by unfold Hid; rw [HF.out]; simp [h1, h2]
     go_wp2
     go_ret
     rw [HG.out]
     exact ⟨rfl, HB.out⟩
    ·have HG : Hid (checkS l lo hi = false) := by unfold Hid; rw [HF.out]; simp [h1, h2]
     have hd : decide (t ≤ hi) = false := by simp; omega
     go_wp2
     go_ret
     rw [HG.out]
     exact ⟨rfl, HB.out⟩
   ·have HG : Hid (checkS l lo hi = false) := by unfold Hid; rw [HF.out]; simp [h1]
    have hd : decide (lo ≤ f) = false := by simp; omega
    go_wp2
    go_ret
    rw [HG.out]
    exact ⟨rfl, HB.out⟩
theorem check_at (p : Option Addr) (n c : Nat) (l : List Sp) (lo hi : Int) (B : Bool) (w : World) (hl : Hid (l.length = n)) (hn : n ≤ maxLen) (hin : SpIn w p l) (hB : Hid (checkS l lo hi = B)) :
 Calls Tryz.prog 152 #[.slice p n c, .int .i64 lo, .int .i64 hi] w fun e w' => e = .returned (.bool B) ∧ Below w.heap.size w w' := by
 have := check_any p n c l lo hi w hl.out hn hin
 rw [hB.out] at this
 exact this
end Go.Proofs.YtopaojjodkoidaaGreatDoor
