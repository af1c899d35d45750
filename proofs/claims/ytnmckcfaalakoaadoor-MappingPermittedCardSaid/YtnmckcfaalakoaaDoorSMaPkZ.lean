/-
  decompose: plain mathematics: what a code point and a list are expanded to; canonical order of parts.
  decompose: plain mathematics: NFD, its errors, equivalence.
  Rows of ints that a chain of calls appends to: where the new row lies. slices.Clone, table.Decomp: new slices.
  decompose: appendFull, by recursion over the depth of decompositions.
  decompose: slices.Equal, One, NFD, IsNFD, Equivalent.
-/
import Derived.Test.YtnmckcfaalakoaaDoorSMaPkE
import Derived.Test.YtnmckcfaalakoaaDoorSMaPkY
import Derived.Test.YtnmckcfaalakoaaDoorSMaPkR
import Derived.Test.YtnmckcfaalakoaaDoorSMaTblR
import Derived.Test.YtnmckcfaalakoaaDoorSMaPkT
set_option linter.unusedSimpArgs false
set_option linter.unusedVariables false
namespace Go.Proofs.YtnmckcfaalakoaaDoor
set_option linter.unusedVariables false

/-- What a code point is expanded to, and a list. -/
def expT (T : Tb) (c : Int) : List Int := if decS c = [] then ful T.dec c else decS c
def flatT (T : Tb) (l : List Int) : List Int := l.flatMap (expT T)

theorem check_rules {T : Tb} (h : checkT T = 0) : r1 T = true ∧ r2 T = true ∧ r3 T = true ∧ r4 T = true ∧ r6 T = true := by
  unfold checkT at h
  split at h
  · omega
  split at h
  · omega
  split at h
  · omega
  split at h
  · omega
  split at h
  · omega
  split at h
  · omega
  rename_i h1 h2 h3 h4 h5 h6
  exact ⟨by simpa using h1, by simpa using h2, by simpa using h3, by simpa using h4, by simpa using h6⟩

theorem findM_mem {l : List Mp} {c : Int} (h : findM l c ≠ []) : (c, findM l c) ∈ l := by
  cases hb : hasM l c with
  | false => exact absurd (findM_nil hb) h
  | true => exact findM_has hb

theorem all_append (T : Tb) (a b : List Int) : flatT T (a ++ b) = flatT T a ++ flatT T b := by simp [flatT]
theorem all_cons (T : Tb) (c : Int) (b : List Int) : flatT T (c :: b) = expT T c ++ flatT T b := by simp [flatT]

end Go.Proofs.YtnmckcfaalakoaaDoor

namespace Go.Proofs.YtnmckcfaalakoaaDoor
set_option linter.unusedVariables false

end Go.Proofs.YtnmckcfaalakoaaDoor

namespace Go.Proofs.YtnmckcfaalakoaaDoor
open Go.RowKit
set_option linter.unusedVariables false

theorem wp_append_ints_at {w : World} {o : Oper} {a : Act} {K : Act → World → Prop} {Q : Exit → Act → World → Prop} (s x : Operand)
    (ho : o.op = .call { callee := .builtin .append, args := #[s, x], argTypes := #[22, 22] })
    (base : Nat) (v : Value) (xs : List Int) (hs : a.eval s = v) (hown : Ints w base v xs)
    (p : Option Addr) (m c : Nat) (ys : List Int) (hm : ys.length = m) (hx : a.eval x = .slice p m c) (hin : IntsIn w p ys)
    (hlen : xs.length + ys.length ≤ 17592186043904) (hbase : base ≤ w.heap.size)
    (h : ∀ v' w', Ints w' base v' (xs ++ ys) → w.grownBy w' v.ownBlock → (v'.ownBlock = v.ownBlock ∨ v'.ownBlock = some w.heap.size) → K (a.put o.dst v') w') : o.wp Tryd.prog a w K Q := by
  subst hm
  obtain ⟨i0, hi, hz0, hz1, hz2⟩ := info_parts Tryd.info3
  cases p with
  | none =>
    have hy : ys = [] := by
      cases ys with
      | nil => rfl
      | cons y r => obtain ⟨_, _, e, _⟩ := hin 0 (by simp); cases e
    subst hy
    have hr := run_append_nil (P := Tryd.prog) base 22 o.type 3 i0 1 Tryd.underlying22 hi v xs.length _ c hown
    unfold Oper.wp execOp
    simp only [ho, resolve, invoke, builtin, Sem.run_bind, Sem.run_pure, Result.andThen_ok, List.map_toArray, List.map_cons, List.map_nil, hs, hx, List.length_nil, hr]
    exact h v w (by simpa using hown) (grownBy_refl _ _) (.inl rfl)
  | some ad =>
    have hcells : ∀ j u, (ys.map (Value.int .i64))[j]? = some u → w.cell? (ad.add j) = some u := by
      intro j u hu
      rw [List.getElem?_map] at hu
      cases hj : ys[j]? with
      | none => rw [hj] at hu; cases hu
      | some y =>
        rw [hj] at hu
        simp only [Option.map_some, Option.some.injEq] at hu
        obtain ⟨hjl, hje⟩ := List.getElem?_eq_some_iff.1 hj
        obtain ⟨b, off, e, hc⟩ := hin j hjl
        simp only [Option.some.injEq] at e
        subst e
        rw [Addr.add_lit, hc, ← hu]
        simp [List.getD, hj]
    have hone : ∀ u ∈ ys.map (Value.int .i64), u.oneCell' = true := by
      intro u hu
      obtain ⟨y, _, rfl⟩ := List.mem_map.1 hu
      rfl
    obtain ⟨v', w', hrun, h2, h3, _, h5⟩ := run_append_own_at (P := Tryd.prog) w base 22 o.type 3 i0 _ 1 8 Tryd.underlying22 hi hz0 hz1 hz2 rfl (by decide) v xs.length _ hown
      ad ys.length c (ys.map (Value.int .i64)) (by simp) hcells hone (by unfold maxLen; omega) (by omega) hbase
    unfold Oper.wp execOp
    simp only [ho, resolve, invoke, builtin, Sem.run_bind, Sem.run_pure, Result.andThen_ok, List.map_toArray, List.map_cons, List.map_nil, hs, hx, hrun]
    exact h v' w' (by unfold Ints; simpa using h2) h3 h5

theorem wpList_append_ints_at {w : World} {ops : Array Oper} {rest : List Oper} {o : Oper} {a : Act} {Q : Exit → Act → World → Prop} (s x : Operand)
    (ho : o.op = .call { callee := .builtin .append, args := #[s, x], argTypes := #[22, 22] })
    (hw : Region.wanted o (yielded ops a.tmps) = true)
    (base : Nat) (v : Value) (xs : List Int) (hs : a.eval s = v) (hown : Ints w base v xs)
    (p : Option Addr) (m c : Nat) (ys : List Int) (hm : ys.length = m) (hx : a.eval x = .slice p m c) (hin : IntsIn w p ys)
    (hlen : xs.length + ys.length ≤ 17592186043904) (hbase : base ≤ w.heap.size)
    (h : ∀ v' w', Ints w' base v' (xs ++ ys) → w.grownBy w' v.ownBlock → (v'.ownBlock = v.ownBlock ∨ v'.ownBlock = some w.heap.size) → wpList Tryd.prog ops Q rest (a.put o.dst v') w') : wpList Tryd.prog ops Q (o :: rest) a w := by
  unfold wpList
  rw [if_pos hw]
  exact .inl (wp_append_ints_at s x ho base v xs hs hown p m c ys hm hx hin hlen hbase h)

/-- A row u that began as v in the world w1. -/
structure Chn (B : Nat) (w1 : World) (v u : Value) (ys : List Int) (wr : World) : Prop where
  row : Ints wr B u ys
  grown : w1.grownBy wr v.ownBlock
  off : ∀ b, b < w1.heap.size → v.ownBlock ≠ some b → u.ownBlock ≠ some b

theorem Chn.start {B : Nat} {w1 : World} {v : Value} {xs : List Int} (h : Ints w1 B v xs) : Chn B w1 v v xs w1 := ⟨h, grownBy_refl _ _, fun _ _ h => h⟩

theorem Chn.step {B : Nat} {w1 wr w' : World} {v u : Value} {ys : List Int} (h : Chn B w1 v u ys wr) (hb : Below wr.heap.size wr w') : Chn B w1 v u ys w' :=
  ⟨h.row.below hb, grownBy_of_below h.grown hb, h.off⟩

theorem BoxT.off {w w' : World} {g : Nat} {x : TV} {row : Option Nat} (h : BoxT w g x) (hg : w.grownBy w' row) (hr : row ≠ some g) : BoxT w' g x := by
  obtain ⟨⟨h0, h1, h2, h3, h4, h5⟩, ⟨h6, h7, h8, h9, h10, h11⟩⟩ := h
  have key : ∀ i v, w.cell? ⟨g, i, none⟩ = some v → w'.cell? ⟨g, i, none⟩ = some v := fun i v hc => hg.cell hc (fun e => hr e.symm)
  exact ⟨⟨key _ _ h0, key _ _ h1, key _ _ h2, key _ _ h3, key _ _ h4, key _ _ h5⟩, ⟨key _ _ h6, key _ _ h7, key _ _ h8, key _ _ h9, key _ _ h10, key _ _ h11⟩⟩

theorem Chn.box {B g : Nat} {w1 wr : World} {v u : Value} {ys : List Int} {x : TV} (h : Chn B w1 v u ys wr) (hx : BoxT w1 g x) (hne : v.ownBlock ≠ some g) : BoxT wr g x := hx.off h.grown hne
theorem Chn.bel {w0 w1 wr : World} {v u : Value} {xs ys : List Int} (h : Chn w0.heap.size w1 v u ys wr) (hv : Ints w1 w0.heap.size v xs) (hb : Below w0.heap.size w0 w1) : Below w0.heap.size w0 wr := hb.grown h.grown hb.size hv.base
theorem Chn.kept {B C : Nat} {w1 wr : World} {v u q : Value} {ys fl : List Int} (h : Chn B w1 v u ys wr) (hq : Ints w1 C q fl) (hne : ∀ b, q.ownBlock = some b → v.ownBlock ≠ some b) : Ints wr C q fl := by
  refine World.ownsRow.kept hq h.grown ?_
  cases hb : q.ownBlock with
  | none => exact .inl rfl
  | some b => exact .inr fun e => hne b hb e.symm

/-- The end of the call. -/
theorem Chn.post {B : Nat} {w w1 wr : World} {v u : Value} {ys : List Int} (h : Chn B w1 v u ys wr) (hb : Below w.heap.size w w1) : w.grownBy wr v.ownBlock ∧ ∀ b, b < w.heap.size → v.ownBlock ≠ some b → u.ownBlock ≠ some b :=
  ⟨grownBy_trans (below_grownBy hb _) h.grown, fun b hlt => h.off b (Nat.lt_of_lt_of_le hlt hb.size)⟩

theorem NRet.step {L : List Int} {w w1 w2 : World} {e : Ending} (hb : Below w.heap.size w w1) (h : NRet L w1 e w2) : NRet L w e w2 := by
  obtain ⟨v, e1, ho, hb2⟩ := h
  exact ⟨v, e1, ho.mono hb.size, hb.trans (hb2.mono hb.size)⟩

end Go.Proofs.YtnmckcfaalakoaaDoor

namespace Go.Proofs.YtnmckcfaalakoaaDoor
open Go.RowKit
set_option linter.unusedVariables false

theorem Ints.cells_in {w : World} {B n c : Nat} {p : Option Addr} {xs : List Int} (h : Ints w B (.slice p n c) xs) : IntsIn w p xs := by
  obtain ⟨p', c', e, hi⟩ := h.inn
  injection e with e1 _ _
  subst e1
  exact hi

end Go.Proofs.YtnmckcfaalakoaaDoor

namespace Go.Proofs.YtnmckcfaalakoaaDoor
open Go.RowKit
set_option linter.unusedVariables false

set_option maxHeartbeats 1000000 in
theorem equal_at (v u : Value) (xs ys : List Int) (B : Bool) (w : World) (hv : InV w v xs) (hu : InV w u ys) (hB : Hid ((xs == ys) = B)) :
    Calls Tryd.prog 31 #[v, u] w (Gives (.bool B) w) := by
  obtain ⟨p, c, rfl, hx, hxl⟩ := hv
  obtain ⟨q, d, rfl, hy, hyl⟩ := hu
  by_cases hl : xs.length = ys.length
  · have hne : ((xs.length : Int) != (ys.length : Int)) = false := by simp [hl]
    have HX := Lib.hid hx
    have HY := Lib.hid hy
    have HL := Lib.hid hl
    clear hl hx hy
    go_enter Tryd.func31, Tryd.ntmps31
    go_wp2
    go_loopw [5, 13] (fun _ i wr => ∃ k : Nat, k ≤ xs.length ∧ i = .int .i64 k ∧ Hid (xs.take k = ys.take k) ∧ Below w.heap.size w wr) (fun _ i _ => xs.length - (intOf i).toNat)
    case atStart => exact ⟨0, Nat.zero_le _, rfl, rfl, Below.refl _ _⟩
    case round =>
      obtain ⟨k, hk, rfl, ht, hbel⟩ := hrel
      by_cases hlt : k < xs.length
      · obtain ⟨b1, o1, rfl, hc1⟩ := (HX.out.below hbel) k hlt
        obtain ⟨b2, o2, rfl, hc2⟩ := (HY.out.below hbel) k (by rw [← HL.out]; exact hlt)
        have hlt2 : k < ys.length := by rw [← HL.out]; exact hlt
        obtain ⟨x, hxx⟩ : ∃ x, xs.getD k 0 = x := ⟨_, rfl⟩
        obtain ⟨y, hyy⟩ : ∃ y, ys.getD k 0 = y := ⟨_, rfl⟩
        rw [hxx] at hc1
        rw [hyy] at hc2
        by_cases hxy : x = y
        · have hb : (x != y) = false := by simp [hxy]
          have HS : Hid (xs.take (k + 1) = ys.take (k + 1)) := beq_take_snoc xs ys k hlt hlt2 ht.out (by rw [hxx, hyy, hxy])
          clear hxx hyy hxy
          go_wp2
          go_quiet (fail)
          go_wp2
          go_roundw
          case rel => exact ⟨k + 1, by omega, by go_num, HS, below_drewN hbel _⟩
          case measure => simp [intOf]; omega
        · have hb : (x != y) = true := by simp [hxy]
          have HS : Hid (B = false) := by unfold Hid; rw [← hB.out]; exact ne_of_getD xs ys k (by rw [hxx, hyy]; exact hxy)
          clear hxx hyy hxy
          go_wp2
          go_quiet (fail)
          go_wp2
          go_ret
          rw [HS.out]
          exact ⟨rfl, below_drewN hbel _⟩
      · obtain rfl : k = xs.length := by omega
        have HS : Hid (B = true) := by
          have := ht.out
          rw [List.take_length, HL.out, List.take_length] at this
          unfold Hid; rw [← hB.out]; simp [this]
        go_wp2
        go_ret
        rw [HS.out]
        exact ⟨rfl, hbel⟩
  · have hne : ((xs.length : Int) != (ys.length : Int)) = true := by simp; omega
    have HS : Hid (B = false) := by
      unfold Hid; rw [← hB.out]
      simp only [beq_eq_false_iff_ne, ne_eq]
      rintro rfl
      exact hl rfl
    clear hl hx hy
    go_enter Tryd.func31, Tryd.ntmps31
    go_wp2
    go_ret
    rw [HS.out]
    exact ⟨rfl, Below.refl _ _⟩

end Go.Proofs.YtnmckcfaalakoaaDoor
