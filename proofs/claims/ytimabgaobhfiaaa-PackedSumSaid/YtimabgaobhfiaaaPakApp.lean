/-
  A slice of bytes that the call owns: '[]byte(s)', 'append(b, x)' of one byte, 'string(b)'. The row that '[]byte(s)' makes is marked behind its end; what is appended may pass 2^47 bytes by a little.
-/
import Derived.Test.YtimabgaobhfiaaaConv
import Derived.Test.YtimabgaobhfiaaaPakA
import Derived.Lib.FrozenHead
namespace Go.Proofs.Ytimabgaobhfiaaa
open Go.RowKit

theorem Try.info5 : (Try.prog.info? 5).map (fun i => (i.zero, i.size, i.bytes)) = some (some (.int .u8 0), 1, 1) := by kernel_rfl

/-- A slice of bytes of the call's own. -/
def OwnB (w : World) (base : Nat) (v : Value) (xs : List Int) : Prop :=
  ∃ g cap cur fz, v = .slice (some ⟨g, 0, none⟩) xs.length cap ∧ base ≤ g ∧ w.heap[g]? = some (.cells cur 5 fz) ∧ (cap ≤ fz.1 ∨ fz.2 = 0) ∧ xs.length ≤ cap ∧ cap ≤ maxLen ∧ cur.size = cap ∧ cur.toList.take xs.length = xs.map (.int .u8)

theorem OwnB.lt {w : World} {B : Nat} {v : Value} {xs : List Int} (h : OwnB w B v xs) : ∀ k, v.ownBlock = some k → B ≤ k ∧ k < w.heap.size := by
  obtain ⟨g, cap, cur, fz, rfl, hb, hg, _⟩ := h
  intro k hk
  simp [Value.ownBlock] at hk
  subst hk
  exact ⟨hb, (Array.getElem?_eq_some_iff.1 hg).1⟩

theorem OwnB.base {w : World} {B : Nat} {v : Value} {xs : List Int} (h : OwnB w B v xs) : ∀ k, v.ownBlock = some k → B ≤ k := fun k hk => (h.lt k hk).1

theorem OwnB.kept {w w' : World} {B : Nat} {v : Value} {xs : List Int} {row : Option Nat} (h : OwnB w B v xs) (hg : w.grownBy w' row) (hne : v.ownBlock ≠ row) : OwnB w' B v xs := by
  obtain ⟨g, cap, cur, fz, rfl, hb, hgg, rest⟩ := h
  refine ⟨g, cap, cur, fz, rfl, hb, ?_, rest⟩
  rw [hg.block g (Array.getElem?_eq_some_iff.1 hgg).1 (by simpa [Value.ownBlock] using hne)]
  exact hgg

theorem OwnB.block {w : World} {B : Nat} {v : Value} {xs : List Int} (h : OwnB w B v xs) : v.ownBlock ≠ none := by
  obtain ⟨g, cap, cur, fz, rfl, _⟩ := h
  simp [Value.ownBlock]

theorem OwnB.alloc {w : World} {B : Nat} {v : Value} {xs : List Int} (h : OwnB w B v xs) (o : Obj) : OwnB (w.alloc o) B v xs := h.kept (World.grownBy_alloc w o none) h.block
theorem OwnB.below {w w' : World} {B : Nat} {v : Value} {xs : List Int} (h : OwnB w B v xs) (hb : Below w.heap.size w w') : OwnB w' B v xs := h.kept (below_grownBy hb none) h.block
theorem OwnB.mono {w : World} {B B' : Nat} {v : Value} {xs : List Int} (h : OwnB w B v xs) (hB : B' ≤ B) : OwnB w B' v xs := by
  obtain ⟨g, cap, cur, fz, hv, hb, rest⟩ := h
  exact ⟨g, cap, cur, fz, hv, Nat.le_trans hB hb, rest⟩

/-- '[]byte(s)'. -/
theorem conv_bytes_own (w : World) (s : ByteArray) (hs : s.size ≤ maxLen) : ∃ v W', (convert 9 22 (.string s)).run Try.prog w = .ok v W' ∧ OwnB W' w.heap.size v (nums s) ∧ Below w.heap.size w W' := by
  have hge := grownCap_ge w s.size 0 5
  have hcm := grownCap_le_maxLen w s.size 0 5 hs
  have hsz : (bytesRow s (grownCap w s.size 0 5)).size = grownCap w s.size 0 5 := by
    have : s.data.size = s.size := rfl
    simp [bytesRow]; omega
  refine ⟨_, _, run_bytes_of_string w _ _ _ s Try.underlying9 Try.underlying22 Try.underlying5, ?_, ?_⟩
  · refine ⟨w.heap.size, grownCap w s.size 0 5, bytesRow s (grownCap w s.size 0 5), _, by rw [nums_length], Nat.le_refl _, heap_alloc_new w.drew _, .inl (by rw [hsz]; exact Nat.le_refl _), by rw [nums_length]; exact hge, hcm, hsz, ?_⟩
    have e : (bytesRow s (grownCap w s.size 0 5)).toList = (nums s).map (.int .u8) ++ List.replicate (grownCap w s.size 0 5 - s.size) (.int .u8 0) := by
      simp [bytesRow, nums]
    rw [e]
    exact List.take_left' (by simp)
  · exact ((Below.refl _ _).drew).alloc (Nat.le_refl _) _

/-- 'string(b)'. -/
theorem conv_ownB {w : World} {B : Nat} {v : Value} {xs : List Int} (h : OwnB w B v xs) : (convert 22 9 v).run Try.prog w = .ok (.string (strOfNums xs)) w := by
  obtain ⟨g, cap, cur, fz, rfl, hB, hg, hf, hn, hc, hs, ht⟩ := h
  refine run_convert_bytes_arg w _ _ Try.underlying22 Try.underlying5 g 0 xs.length cap xs rfl ?_ _ Try.underlying9
  intro k hk
  rw [cell_of_row w g (0 + k) cur _ fz hg, Nat.zero_add]
  have e : (cur.toList.take xs.length)[k]? = (xs.map (Value.int .u8))[k]? := by rw [ht]
  rw [List.getElem?_take, if_pos (by omega)] at e
  simpa [List.getD, List.getElem?_eq_getElem (show k < xs.length by omega)] using e

/-- 'string([]byte{..})'. -/
theorem nextcap_near {need old : Nat} (h : old < need) (hn : need ≤ 140737490452480) : Builtin.nextslicecap need old ≤ 281474976710656 := by
  unfold Builtin.nextslicecap
  split
  · omega
  · split
    · omega
    · rw [growBy_four]
      repeat' split
      all_goals omega

theorem run_append_byte {w : World} (ty base : Nat) (v : Value) (xs : List Int) (hown : OwnB w base v xs) (a : Addr) (c : Nat) (x : Int) (hx : w.cell? a = some (.int .u8 x)) (hlen : xs.length + 1 ≤ 140737490452480) (hbase : base ≤ w.heap.size) :
    ∃ v' w', (Builtin.append_ #[22, 22] ty #[v, .slice (some a) 1 c]).run Try.prog w = .ok v' w' ∧ OwnB w' base v' (xs ++ [x]) ∧ w.grownBy w' v.ownBlock ∧ (v'.ownBlock = v.ownBlock ∨ v'.ownBlock = some w.heap.size) := by
  obtain ⟨g, cap, cur, fz, rfl, hB, hg, hf, hn, hc, hs, ht⟩ := hown
  obtain ⟨i, hi, hz0, hz1, hz2⟩ := info_parts Try.info5
  have hnews : ∀ j u, [Value.int .u8 x][j]? = some u → w.cell? (a.add j) = some u := by
    intro j u hu
    cases j with
    | zero => rw [Addr.add_zero']; rw [hx, ← hu]; rfl
    | succ j => simp at hu
  by_cases hroom : xs.length + 1 ≤ cap
  · have hfz : w.frozen? ⟨g, xs.length, none⟩ = false := by
      obtain ⟨lo, hh⟩ := fz
      simp only [World.frozen?, hg, Bool.and_eq_false_iff, decide_eq_false_iff_not]
      simp only at hf
      omega
    have hl : xs.length < cur.size := by omega
    have hcell : w.cell? ⟨g, xs.length, none⟩ = some cur[xs.length] := by simp [World.cell?, hg, hl]
    have hst : (store ⟨g, xs.length, none⟩ (.int .u8 x)).run Try.prog w = .ok () (w.setRow g (cur.setIfInBounds xs.length (.int .u8 x))) := by
      rw [run_store Try.prog w _ (.int .u8 x) _ rfl, hcell]
      simp [hfz, setCell_eq_setRow w g xs.length cur 5 fz (.int .u8 x) hg]
    have hff := run_firstCells_some (P := Try.prog) w 1 1 a 1 c [.int .u8 x] (by simp) hnews
    refine ⟨.slice (some ⟨g, 0, none⟩) (xs.length + 1) cap, w.setRow g (cur.setIfInBounds xs.length (.int .u8 x)), ?_, ⟨g, cap, _, fz, by simp, hB, setRow_heap w g cur _ _ _ hg, hf, by simpa using hroom, hc, by simpa using hs, ?_⟩, ⟨rfl, rfl, rfl, by simp, fun k _ hk => setRow_other w g k _ (fun e => hk (by simp [Value.ownBlock, e]))⟩, .inl rfl⟩
    · simp [Builtin.append_, run_underlying Try.underlying22, sizeOf, typeInfo, hi, hz1, Builtin.lenOf, hroom, hff, Addr.add_lit, storeCells, hst]
    · have hl2 : xs.length < cur.toList.length := by simpa using hl
      rw [Array.toList_setIfInBounds, List.length_append, List.length_singleton, List.take_succ_eq_append_getElem (by simpa using hl2), List.take_set_of_le (Nat.le_refl _), ht]
      simp
  · have hold : ∀ j u, (xs.map (Value.int .u8))[j]? = some u → w.cell? ((⟨g, 0, none⟩ : Addr).add j) = some u := by
      intro j u hu
      rw [Addr.add_lit, cell_of_row w g (0 + j) cur _ fz hg, Nat.zero_add]
      rw [← ht, List.getElem?_take] at hu
      split at hu
      · simpa using hu
      · cases hu
    have hsm : ((xs.length + 1 : Nat) : Int) ≤ 9223372036854775807 := by omega
    have hfit : Builtin.nextslicecap (xs.length + 1) cap * i.bytes ≤ 281474976710656 := by rw [hz2, Nat.mul_one]; exact nextcap_near (by omega) hlen
    have hr := run_append_grow (P := Try.prog) w 22 ty 5 i _ Try.underlying22 hi hz0 ⟨g, 0, none⟩ xs.length cap (xs.map (.int .u8)) (by simp [hz1]) hold a 1 c [.int .u8 x] (by simp [hz1]) hnews (by omega) hsm hfit
    have hge := grownCap_ge w (xs.length + 1) cap 5
    have hcm := grownCap_le_maxLen w (xs.length + 1) cap 5 (by unfold maxLen; omega)
    refine ⟨_, _, hr, ⟨w.heap.size, _, _, _, by simp, hbase, heap_alloc_new w.drew _, .inr rfl, by simpa using hge, hcm, ?_, ?_⟩, ⟨rfl, rfl, rfl, by simp, fun k hk _ => heap_alloc_old w.drew _ hk⟩, .inr rfl⟩
    · have : (Value.cells (.int .u8 0)).size = 1 := rfl
      simp only [Array.size_append, List.size_toArray, List.length_map, List.length_singleton, size_zeroCells, this]
      omega
    · simp only [Array.toList_append, List.append_assoc]
      rw [← List.append_assoc]
      have e : xs.map (Value.int .u8) ++ [Value.int .u8 x] = (xs ++ [x]).map (Value.int .u8) := by simp
      rw [e]
      exact List.take_left' (by simp)

theorem wpList_append_byte {W : World} {ops : Array Oper} {rest : List Oper} {o : Oper} {a : Act} {Q : Exit → Act → World → Prop} (hgd : o.guard = none) (s x : Operand)
    (ho : o.op = .call { callee := .builtin .append, args := #[s, x], argTypes := #[22, 22] })
    (base : Nat) (v : Value) (xs : List Int) (hs : a.eval s = v) (hown : OwnB W base v xs)
    (y : Int) (c g : Nat) (hx : a.eval x = .slice (some ⟨g, 0, none⟩) 1 c) (hg : g = W.heap.size)
    (hlen : xs.length + 1 ≤ 140737490452480) (hbase : base ≤ W.heap.size)
    (h : ∀ v' w', OwnB w' base v' (xs ++ [y]) → W.grownBy w' v.ownBlock → (∀ b, b < W.heap.size → v.ownBlock ≠ some b → v'.ownBlock ≠ some b) → wpList Try.prog ops Q rest (a.put o.dst v') w') : wpList Try.prog ops Q (o :: rest) a (W.alloc (.cells #[.int .u8 y] 5)) := by
  subst hg
  obtain ⟨v', w', hr, h2, h3, h4⟩ := run_append_byte (w := W.alloc (.cells #[.int .u8 y] 5)) o.type base v xs (hown.alloc _) ⟨W.heap.size, 0, none⟩ c y (by simp [World.cell?_alloc_new]) hlen (by simp; omega)
  refine wpList_plain hgd fun K hK => ?_
  unfold Oper.wp execOp
  simp only [ho, resolve, invoke, builtin, Sem.run_bind, Sem.run_pure, Result.andThen_ok, List.map_toArray, List.map_cons, List.map_nil, hs, hx, hr]
  have hA := World.grownBy_alloc W (.cells #[.int .u8 y] 5) v.ownBlock
  refine hK _ _ (h v' w' h2 ⟨h3.os.trans hA.os, h3.tape.trans hA.tape, h3.output.trans hA.output, Nat.le_trans hA.size h3.size, fun i hi hne => (h3.block i (Nat.lt_of_lt_of_le hi hA.size) hne).trans (hA.block i hi hne)⟩ ?_)
  intro b hb hne
  rcases h4 with e | e
  · rw [e]; exact hne
  · rw [e]; simp; omega

end Go.Proofs.Ytimabgaobhfiaaa
