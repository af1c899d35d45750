/-
  ranges: uncovered.
-/
import Derived.Test.YtkapjihjbflliaaRanB
import Derived.Test.YtkapjihjbflliaaRanSpec2
import Derived.Maps.AppendAt
import Derived.Deep.RegionHeld3
import Derived.Deep.AppendLies
import Derived.OwnWalk
import Derived.WalkSpells
namespace Go.Proofs.Ytkapjihjbflliaa
open Go.RowKit

theorem wp_append_spans_at {w : World} {o : Oper} {a : Act} {K : Act → World → Prop} {Q : Exit → Act → World → Prop} (s x : Operand)
    (ho : o.op = .call { callee := .builtin .append, args := #[s, x], argTypes := #[22, 22] })
    (base : Nat) (v : Value) (xs : List Sp) (hs : a.eval s = v) (hown : Spans w base v xs)
    (ad : Addr) (m c : Nat) (ys : List Sp) (hm : ys.length = m) (hx : a.eval x = .slice (some ad) m c) (hin : SpIn w (some ad) ys)
    (hlen : xs.length + ys.length ≤ 1099511627776) (hbase : base ≤ w.heap.size)
    (h : ∀ v' w', Spans w' base v' (xs ++ ys) → w.grownBy w' v.ownBlock → (∀ b, b < w.heap.size → v.ownBlock ≠ some b → v'.ownBlock ≠ some b) → K (a.put o.dst v') w') : o.wp Try.prog a w K Q := by
  subst hm
  obtain ⟨i0, hi, hz0, hz1, hz2⟩ := info_parts Try.infoSpan
  obtain ⟨v', w', hrun, h2, h3, _, h5⟩ := run_append_own_at (P := Try.prog) w base 22 o.type 42 i0 _ 3 24 Try.underlying22 hi hz0 hz1 hz2 rfl (by decide) v xs.length _ hown
    ad ys.length c (cellsS ys) (cellsS_length _) hin.cells (cells_one ys) (by unfold maxLen; omega) (by omega) hbase
  unfold Oper.wp execOp
  simp only [ho, resolve, invoke, builtin, Sem.run_bind, Sem.run_pure, Result.andThen_ok, List.map_toArray, List.map_cons, List.map_nil, hs, hx, hrun]
  refine h v' w' (by unfold Spans; rw [List.length_append, cellsS_append]; exact h2) h3 ?_
  intro b hb hne
  rcases h5 with e | e
  · rw [e]; exact hne
  · rw [e]; simp; omega

theorem step_append_spans_at {w : World} {ops : Array Oper} {o : Oper} {a : Act} {K : Act → World → Prop} {Q : Exit → Act → World → Prop} {E : Prop} (hgd : o.guard = none) (s x : Operand)
    (ho : o.op = .call { callee := .builtin .append, args := #[s, x], argTypes := #[22, 22] })
    (base : Nat) (v : Value) (xs : List Sp) (hs : a.eval s = v) (hown : Spans w base v xs)
    (ad : Addr) (m c : Nat) (ys : List Sp) (hm : ys.length = m) (hx : a.eval x = .slice (some ad) m c) (hin : SpIn w (some ad) ys)
    (hlen : xs.length + ys.length ≤ 1099511627776) (hbase : base ≤ w.heap.size)
    (h : ∀ v' w', Spans w' base v' (xs ++ ys) → w.grownBy w' v.ownBlock → (∀ b, b < w.heap.size → v.ownBlock ≠ some b → v'.ownBlock ≠ some b) → K (a.put o.dst v') w') :
    if Region.wanted o (yielded ops a.tmps) = true then Oper.wp Try.prog o a w K Q else E := by
  have hw : Region.wanted o (yielded ops a.tmps) = true := by simp [Region.wanted, hgd]
  rw [if_pos hw]
  exact wp_append_spans_at s x ho base v xs hs hown ad m c ys hm hx hin hlen hbase h

theorem wp_append_span_at {W : World} {o : Oper} {a : Act} {K : Act → World → Prop} {Q : Exit → Act → World → Prop} (s x : Operand)
    (ho : o.op = .call { callee := .builtin .append, args := #[s, x], argTypes := #[22, 22] })
    (base : Nat) (v : Value) (xs : List Sp) (hs : a.eval s = v) (hown : Spans W base v xs)
    (y : Sp) (c g : Nat) (hx : a.eval x = .slice (some ⟨g, 0, none⟩) 1 c) (hg : g = W.heap.size)
    (hlen : xs.length ≤ 1099511627775) (hbase : base ≤ W.heap.size)
    (h : ∀ v' w', Spans w' base v' (xs ++ [y]) → W.grownBy w' v.ownBlock → (∀ b, b < W.heap.size → v.ownBlock ≠ some b → v'.ownBlock ≠ some b) → K (a.put o.dst v') w') : o.wp Try.prog a (W.alloc (.cells #[.int .i64 y.1, .int .i64 y.2.1, .int .i64 y.2.2] 42)) K Q := by
  subst hg
  refine wp_append_spans_at s x ho base v xs hs (World.ownsRow.alloc hown _) _ 1 c [y] rfl hx (one_new W y.1 y.2.1 y.2.2 _) (by simp; omega) (by simp; omega) ?_
  intro v' w' h1 h3 h4
  have hA := World.grownBy_alloc W (.cells #[.int .i64 y.1, .int .i64 y.2.1, .int .i64 y.2.2] 42) v.ownBlock
  exact h v' w' h1 ⟨h3.os.trans hA.os, h3.tape.trans hA.tape, h3.output.trans hA.output, Nat.le_trans hA.size h3.size, fun i hi hne => (h3.block i (Nat.lt_of_lt_of_le hi hA.size) hne).trans (hA.block i hi hne)⟩ fun b hb => h4 b (by simp; omega)

theorem wpList_append_span_at {W : World} {ops : Array Oper} {rest : List Oper} {o : Oper} {a : Act} {Q : Exit → Act → World → Prop} (s x : Operand)
    (ho : o.op = .call { callee := .builtin .append, args := #[s, x], argTypes := #[22, 22] })
    (hw : Region.wanted o (yielded ops a.tmps) = true)
    (base : Nat) (v : Value) (xs : List Sp) (hs : a.eval s = v) (hown : Spans W base v xs)
    (y : Sp) (c g : Nat) (hx : a.eval x = .slice (some ⟨g, 0, none⟩) 1 c) (hg : g = W.heap.size)
    (hlen : xs.length ≤ 1099511627775) (hbase : base ≤ W.heap.size)
    (h : ∀ v' w', Spans w' base v' (xs ++ [y]) → W.grownBy w' v.ownBlock → (∀ b, b < W.heap.size → v.ownBlock ≠ some b → v'.ownBlock ≠ some b) → wpList Try.prog ops Q rest (a.put o.dst v') w') : wpList Try.prog ops Q (o :: rest) a (W.alloc (.cells #[.int .i64 y.1, .int .i64 y.2.1, .int .i64 y.2.2] 42)) := by
  unfold wpList
  rw [if_pos hw]
  exact .inl (wp_append_span_at s x ho base v xs hs hown y c g hx hg hlen hbase h)

/-- Block g holds one span, a variable of the call's own. -/
def Cur (w : World) (g : Nat) (f t v : Int) : Prop :=
  w.cell? ⟨g, 0, none⟩ = some (.int .i64 f) ∧ w.cell? ⟨g, 1, none⟩ = some (.int .i64 t) ∧ w.cell? ⟨g, 2, none⟩ = some (.int .i64 v) ∧ w.frozen? ⟨g, 0, none⟩ = false ∧ g < w.heap.size

theorem Cur.new (w : World) (f t v : Int) (ty : TypeId) : Cur (w.alloc (.cells #[.int .i64 f, .int .i64 t, .int .i64 v] ty)) w.heap.size f t v := by
  refine ⟨?_, ?_, ?_, ?_, ?_⟩ <;> simp [World.cell?_alloc_new]

theorem Cur.drewN {w : World} {g : Nat} {f t v : Int} (h : Cur w g f t v) (n : Nat) : Cur (w.drewN n) g f t v := h

theorem Cur.grown {w w' : World} {g : Nat} {f t v : Int} {row : Option Nat} (h : Cur w g f t v) (hg : w.grownBy w' row) (hne : row ≠ some g) : Cur w' g f t v := by
  obtain ⟨h1, h2, h3, h4, h5⟩ := h
  exact ⟨hg.cell h1 (Ne.symm hne), hg.cell h2 (Ne.symm hne), hg.cell h3 (Ne.symm hne), (World.frozen?_of_block (hg.block g h5 (Ne.symm hne))).trans h4, Nat.lt_of_lt_of_le h5 hg.size⟩

theorem Cur.set {w : World} {g : Nat} {f t v : Int} (h : Cur w g f t v) (x : Int) : Cur (w.setCell ⟨g, 0, none⟩ (.int .i64 x)) g x t v := by
  obtain ⟨h1, h2, h3, h4, h5⟩ := h
  exact ⟨World.cell?_setCell_same _ _ _ h1, (World.cell?_setCell_other _ _ _ _ (by simp)).trans h2, (World.cell?_setCell_other _ _ _ _ (by simp)).trans h3, (World.frozen?_setCell _ _ _ _).trans h4, by simpa [World.setCell] using h5⟩

theorem sp_grownBy_store (w : World) (g o : Nat) (v : Value) : w.grownBy (w.setCell ⟨g, o, none⟩ v) (some g) :=
  ⟨rfl, rfl, rfl, by simp, fun k _ hne => heap_setCell_other w ⟨g, o, none⟩ k v (fun e => hne (by simp [e]))⟩

theorem Spans.store {w : World} {B g : Nat} {v : Value} {l : List Sp} (h : Spans w B v l) (hne : v.ownBlock ≠ some g) (o : Nat) (u : Value) : Spans (w.setCell ⟨g, o, none⟩ u) B v l :=
  World.ownsRow.kept h (sp_grownBy_store w g o u) (.inr hne)

theorem unc_skip {a b : List Sp} {k nx : Nat} (hk : k < a.length) (hn : nx < b.length) (h : (b.getD nx sp0).2.1 < (a.getD k sp0).1) : uncovS (a.drop k) (b.drop nx) = uncovS (a.drop k) (b.drop (nx + 1)) := by
  rw [drop_cons_sp a k hk, drop_cons_sp b nx hn]; simp only [uncovS, skip_step h]

theorem unc_stop {a b : List Sp} {k nx : Nat} (hk : k < a.length) (hn : nx ≤ b.length) (h : nx < b.length → (a.getD k sp0).1 ≤ (b.getD nx sp0).2.1) :
    uncovS (a.drop k) (b.drop nx) = cutS (a.getD k sp0) (b.drop nx) ++ uncovS (a.drop (k + 1)) (b.drop nx) := by
  rw [drop_cons_sp a k hk]
  simp only [uncovS]
  rw [skip_stop]
  intro x r e
  by_cases hlt : nx < b.length
  · rw [drop_cons_sp b nx hlt] at e
    injection e with e1 _
    subst e1
    exact h hlt
  · rw [List.drop_of_length_le (by omega)] at e; cases e

theorem cut_step {b : List Sp} {i : Nat} {f t v : Int} (hi : i < b.length) (h : (b.getD i sp0).1 ≤ t) :
    cutS (f, t, v) (b.drop i) = (if f < (b.getD i sp0).1 then [(f, (b.getD i sp0).1 - 1, v)] else []) ++ cutS ((b.getD i sp0).2.1 + 1, t, v) (b.drop (i + 1)) := by
  rw [drop_cons_sp b i hi]; simp only [cutS]; rw [if_pos h]

theorem cut_end {b : List Sp} {i : Nat} {f t v : Int} (h : i < b.length → t < (b.getD i sp0).1) : cutS (f, t, v) (b.drop i) = if f ≤ t then [(f, t, v)] else [] := by
  by_cases hi : i < b.length
  · rw [drop_cons_sp b i hi]; simp only [cutS]; rw [if_neg (by have := h hi; omega)]
  · rw [List.drop_of_length_le (by omega)]; rfl

theorem len_of_app {P X U : List Sp} {N : Nat} (h : P ++ X = U) (hU : U.length ≤ N) : P.length ≤ N := by
  rw [← h, List.length_append] at hU; omega

set_option maxRecDepth 100000 in
set_option maxHeartbeats 4000000 in
theorem uncovered_any (p q : Option Addr) (n m c d : Nat) (a b : List Sp) (w : World) (hl : a.length = n) (hm : b.length = m) (hin : SpIn w p a) (hin2 : SpIn w q b) (ha : ascB 0 a = true) (hb : ascB 0 b = true) :
    Calls Try.prog 36 #[.slice p n c, .slice q m d] w (OwnPost (uncovS a b) w) := by
  have hn : n ≤ 1114112 := by rw [← hl]; exact asc_length ha
  have hmm : m ≤ 1114112 := by rw [← hm]; exact asc_length hb
  have hmk := run_make_spans (n + m) (by omega)
  simp only [Int.natCast_add] at hmk
  have hU : (uncovS a b).length ≤ 1114112 := asc_length (uncov_facts a b 0 0 ha hb (by omega)).1
  obtain ⟨U, hUe⟩ : ∃ U, uncovS a b = U := ⟨_, rfl⟩
  rw [hUe] at hU ⊢
  have HU := Lib.hid hU
  have HE : Hid ([] ++ uncovS (a.drop 0) (b.drop 0) = U) := hUe
  have HI := Lib.hid hin
  have HJ := Lib.hid hin2
  have HL := Lib.hid hl
  have HM := Lib.hid hm
  have HA := Lib.hid ha
  have HB := Lib.hid hb
  clear hin hin2 hl hm ha hb hU hUe
  go_enter Try.func36, Try.ntmps36
  go_wp2
  go_loopw [5, 6, 18] (fun v nxv i wr => ∃ (k nx : Nat) (P : List Sp), k ≤ n ∧ nx ≤ m ∧ i = .int .i64 k ∧ nxv = .int .i64 nx ∧ Hid (Spans wr w.heap.size v P) ∧ Hid (P ++ uncovS (a.drop k) (b.drop nx) = U) ∧ Hid (Below w.heap.size w wr)) (fun _ _ i _ => n - (intOf i).toNat)
  case atStart => exact ⟨0, 0, [], Nat.zero_le _, Nat.zero_le _, rfl, rfl, Spans.made w _ _ (Nat.le_refl _) (by omega), HE, (Below.refl _ _).alloc (Nat.le_refl _) _⟩
  case round =>
    obtain ⟨k, nx0, P, hk, hnx0, rfl, rfl, ho, hEq, hbel⟩ := hrel
    obtain ⟨wo, rfl⟩ : ∃ wo : World, wo = wr := ⟨_, rfl⟩
    by_cases hlt : k < n
    · have hkl : k < a.length := by rw [HL.out]; exact hlt
      obtain ⟨b1, off, rfl, hc1, hc2, hc3⟩ := (HI.out.below hbel.out) k hkl
      obtain ⟨a1, a2, a3⟩ := asc_getD HA.out k hkl
      obtain ⟨⟨f0, t, v⟩, hs⟩ : ∃ s, a.getD k sp0 = s := ⟨_, rfl⟩
      rw [hs] at hc1 hc2 hc3 a1 a2 a3
      simp only at hc1 hc2 hc3 a1 a2 a3
      have HS := Lib.hid hs
      clear hs
      go_wp2
      have hC := Cur.new wo f0 t v 42
      have hO := ho.out.alloc (.cells #[.int .i64 f0, .int .i64 t, .int .i64 v] 42)
      have hBl := hbel.out.alloc hbel.out.size (.cells #[.int .i64 f0, .int .i64 t, .int .i64 v] 42)
      have hgw : w.heap.size ≤ wo.heap.size := hbel.out.size
      have HNE : Hid (Value.ownBlock u5 ≠ some wo.heap.size) := fun e => Nat.lt_irrefl _ (World.ownsRow.lt ho.out _ e).2
      generalize wo.alloc (.cells #[.int .i64 f0, .int .i64 t, .int .i64 v] 42) = W0 at hC hO hBl ⊢
      generalize wo.heap.size = g at hC HNE hgw ⊢
      have HC := Lib.hid hC
      have HO := Lib.hid hO
      have HBl := Lib.hid hBl
      have HG := Lib.hid hgw
      clear hC hO hBl hgw hc1 hc2 hc3 ho hbel
      go_loopw [6] (fun nxv wr => ∃ (nx : Nat), nx ≤ m ∧ nxv = .int .i64 nx ∧ Hid (Spans wr w.heap.size u5 P) ∧ Hid (P ++ uncovS (a.drop k) (b.drop nx) = U) ∧ Hid (Below w.heap.size w wr) ∧ Hid (Cur wr g f0 t v)) (fun nxv _ => m - (intOf nxv).toNat)
      case atStart => exact ⟨nx0, hnx0, rfl, HO, hEq, HBl, HC⟩
      case round =>
        clear HO HBl HC hEq hnx0
        obtain ⟨nx, hnx, rfl, ho, hEq, hbel, hcur⟩ := hrel
        go_upto_region 6 with (fail)
        go_cut [35] (fun cc wx => ∃ B : Bool, cc = .bool B ∧ Hid (B = true ↔ nx < m ∧ (b.getD nx sp0).2.1 < f0) ∧ Hid (Spans wx w.heap.size u5 P) ∧ Hid (Below w.heap.size w wx) ∧ Hid (Cur wx g f0 t v))
        case first =>
          obtain ⟨k0, k1, k2, kf, kz⟩ := hcur.out
          by_cases hnm : nx < m
          · have hnb : nx < b.length := by rw [HM.out]; exact hnm
            obtain ⟨b2, off2, rfl, d1, d2, d3⟩ := (HJ.out.below hbel.out) nx hnb
            obtain ⟨⟨xf, xt, xv⟩, hx⟩ : ∃ s, b.getD nx sp0 = s := ⟨_, rfl⟩
            rw [hx] at d1 d2 d3
            simp only at d1 d2 d3
            have HX := Lib.hid hx
            clear hx kf
            by_cases hto : xt < f0
            · go_quiet (fail)
              go_wp2_with fail
              go_meet
              exact ⟨true, rfl, by unfold Hid; rw [HX.out]; simp [hnm, hto], ho, below_drewN_sp hbel.out _, hcur.out.drewN _⟩
            · have hd : decide (xt < f0) = false := decide_eq_false hto
              go_quiet (fail)
              go_wp2_with fail
              go_meet
              exact ⟨false, rfl, by unfold Hid; rw [HX.out]; simp [hto], ho, below_drewN_sp hbel.out _, hcur.out.drewN _⟩
          · have hd : decide (nx < m) = false := decide_eq_false hnm
            go_quiet (fail)
            go_wp2_with fail
            go_meet
            exact ⟨false, rfl, by unfold Hid; simp [hnm], ho, below_drewN_sp hbel.out _, hcur.out.drewN _⟩
        case rest =>
          clear ho hbel hcur
          obtain ⟨B, rfl, hBB, ho, hbel, hcur⟩ := hcut
          cases B
          · have hcont : ¬ (nx < m ∧ (b.getD nx sp0).2.1 < f0) := fun h => by have := hBB.out.2 h; cases this
            have HE2 : Hid (P ++ (cutS (f0, t, v) (b.drop nx) ++ uncovS (a.drop (k + 1)) (b.drop nx)) = U) := by
              unfold Hid; rw [← hEq.out, unc_stop hkl (by rw [HM.out]; exact hnx) (fun h => by rw [HS.out]; simp only; rw [HM.out] at h; omega), HS.out]
            clear hcont hEq hBB
            go_wp2
            generalize wc = wq at ho hbel hcur ⊢
            go_loopw [5, 9] (fun vv iv wr => ∃ (i : Nat) (f : Int) (Q : List Sp), i ≤ m ∧ 0 ≤ f ∧ f ≤ 1114112 ∧ iv = .int .i64 i ∧ Hid (Spans wr w.heap.size vv Q) ∧ Hid (Q ++ (cutS (f, t, v) (b.drop i) ++ uncovS (a.drop (k + 1)) (b.drop nx)) = U) ∧ Hid (Below w.heap.size w wr) ∧ Hid (Cur wr g f t v) ∧ Hid (Value.ownBlock vv ≠ some g)) (fun _ iv _ => m - (intOf iv).toNat)
            case atStart => exact ⟨nx, f0, P, hnx, a1, by omega, rfl, ho, HE2, hbel, hcur, HNE⟩
            case round =>
              clear ho hbel hcur HE2 HNE
              obtain ⟨i, f, Q, hi, hf0, hf1, rfl, ho, hEq, hbel, hcur, hne⟩ := hrel
              go_upto_region 9 with (fail)
              go_cut [52] (fun cc wx => ∃ B : Bool, cc = .bool B ∧ Hid (B = true ↔ i < m ∧ (b.getD i sp0).1 ≤ t) ∧ Hid (Spans wx w.heap.size u5 Q) ∧ Hid (Below w.heap.size w wx) ∧ Hid (Cur wx g f t v))
              case first =>
                obtain ⟨k0, k1, k2, kf, kz⟩ := hcur.out
                by_cases hnm : i < m
                · have hnb : i < b.length := by rw [HM.out]; exact hnm
                  obtain ⟨b2, off2, rfl, d1, d2, d3⟩ := (HJ.out.below hbel.out) i hnb
                  obtain ⟨⟨xf, xt, xv⟩, hx⟩ : ∃ s, b.getD i sp0 = s := ⟨_, rfl⟩
                  rw [hx] at d1 d2 d3
                  simp only at d1 d2 d3
                  have HX := Lib.hid hx
                  clear hx kf
                  by_cases hto : xf ≤ t
                  · go_quiet (fail)
                    go_wp2_with fail
                    go_meet
                    exact ⟨true, rfl, by unfold Hid; rw [HX.out]; simp [hnm, hto], ho, below_drewN_sp hbel.out _, hcur.out.drewN _⟩
                  · have hd : decide (xf ≤ t) = false := decide_eq_false hto
                    go_quiet (fail)
                    go_wp2_with fail
                    go_meet
                    exact ⟨false, rfl, by unfold Hid; rw [HX.out]; simp [hto], ho, below_drewN_sp hbel.out _, hcur.out.drewN _⟩
                · have hd : decide (i < m) = false := decide_eq_false hnm
                  go_quiet (fail)
                  go_wp2_with fail
                  go_meet
                  exact ⟨false, rfl, by unfold Hid; simp [hnm], ho, below_drewN_sp hbel.out _, hcur.out.drewN _⟩
              case rest =>
                clear ho hbel hcur
                obtain ⟨B, rfl, hBB, ho, hbel, hcur⟩ := hcut
                generalize wc = wz at ho hbel hcur ⊢
                cases B
                · have hcont : ¬ (i < m ∧ (b.getD i sp0).1 ≤ t) := fun h => by have := hBB.out.2 h; cases this
                  have hend : i < b.length → t < (b.getD i sp0).1 := by rw [HM.out]; omega
                  have HE3 : Hid (Q ++ ((if f ≤ t then [(f, t, v)] else []) ++ uncovS (a.drop (k + 1)) (b.drop nx)) = U) := by
                    unfold Hid; rw [← hEq.out, cut_end hend]
                  clear hcont hend
                  have HL2 : Hid (Q.length ≤ 1114112) := len_of_app hEq.out HU.out
                  obtain ⟨k0, k1, k2, kf, kz⟩ := hcur.out
                  by_cases hft : f ≤ t
                  · have HE4 : Hid ((Q ++ [(f, t, v)]) ++ uncovS (a.drop (k + 1)) (b.drop nx) = U) := by
                      unfold Hid; rw [← HE3.out, if_pos hft]; simp
                    clear hEq HE3 hBB
                    go_wp2_with (at_builtin; refine wpList_append_span (.tmp 89) (.tmp 91) rfl rfl w.heap.size u5 Q rfl ho.out (f, t, v) 1 _ rfl (by simp) (by have := HL2.out; omega) (by have := hbel.out.size; omega) ?_; intro v1 w1 ho1 hg1)
                    have HO := Lib.hid ho1
                    have HB5 := Lib.hid (hbel.out.grown hg1 hbel.out.size ho.out.base)
                    clear ho1 hg1
                    go_wp2
                    go_roundw
                    case rel => exact ⟨k + 1, nx, Q ++ [(f, t, v)], by omega, hnx, by go_num, rfl, HO, HE4, HB5⟩
                    case measure => simp [intOf]; omega
                  · have HE4 : Hid (Q ++ uncovS (a.drop (k + 1)) (b.drop nx) = U) := by
                      unfold Hid; rw [← HE3.out, if_neg hft]; simp
                    clear hEq HE3 hBB
                    go_wp2
                    go_roundw
                    case rel => exact ⟨k + 1, nx, Q, by omega, hnx, by go_num, rfl, ho, HE4, hbel⟩
                    case measure => simp [intOf]; omega
                · obtain ⟨him, hto⟩ := hBB.out.1 rfl
                  have hib : i < b.length := by rw [HM.out]; exact him
                  obtain ⟨b3, off3, rfl, d1, d2, d3⟩ := (HJ.out.below hbel.out) i hib
                  obtain ⟨x1, x2, x3⟩ := asc_getD HB.out i hib
                  have hstep := cut_step (f := f) (t := t) (v := v) hib hto
                  obtain ⟨⟨xf, xt, xv⟩, hx⟩ : ∃ s, b.getD i sp0 = s := ⟨_, rfl⟩
                  rw [hx] at d1 d2 d3 hto x1 x2 x3 hstep
                  simp only at d1 d2 d3 hto x1 x2 x3 hstep
                  obtain ⟨k0, k1, k2, kf, kz⟩ := hcur.out
                  clear hx hBB
                  by_cases hfx : f < xf
                  · rw [if_pos hfx] at hstep
                    have HE3 : Hid ((Q ++ [(f, xf - 1, v)]) ++ (cutS (xt + 1, t, v) (b.drop (i + 1)) ++ uncovS (a.drop (k + 1)) (b.drop nx)) = U) := by
                      unfold Hid; rw [← hEq.out, hstep]; simp
                    have HL2 : Hid (Q.length ≤ 1114112) := len_of_app hEq.out HU.out
                    clear hstep hEq
                    go_wp2
                    go_quiet (fail)
                    go_wp2
                    generalize hwy : World.drewN wz _ = wy
                    have d1z : wy.cell? ⟨b3, off3 + i * 3, none⟩ = some (.int .i64 xf) := by rw [← hwy]; exact d1
                    have d2z : wy.cell? ⟨b3, off3 + i * 3 + 1, none⟩ = some (.int .i64 xt) := by rw [← hwy]; exact d2
                    have k0z : wy.cell? ⟨g, 0, none⟩ = some (.int .i64 f) := by rw [← hwy]; exact k0
                    have k2z : wy.cell? ⟨g, 2, none⟩ = some (.int .i64 v) := by rw [← hwy]; exact k2
                    have ho2 : Spans wy w.heap.size u5 Q := by rw [← hwy]; exact ho.out
                    have hb2 : Below w.heap.size w wy := by rw [← hwy]; exact below_drewN_sp hbel.out _
                    have hc2 : Cur wy g f t v := by rw [← hwy]; exact hcur.out
                    have HO2 := Lib.hid ho2
                    have HB2 := Lib.hid hb2
                    have HC2 := Lib.hid hc2
                    clear d1 d2 d3 k0 k1 k2 kf kz ho hbel hcur ho2 hb2 hc2 hwy
                    have hb3 : b3 < w.heap.size := by
                      obtain ⟨b4, off4, e4, h4, _⟩ := HJ.out i hib
                      injection e4 with e4
                      injection e4 with e41
                      subst e41
                      exact World.block_lt_of_cell? w _ h4
                    have hne3 : some b3 ≠ Value.ownBlock u5 := fun e => by have := HO2.out.base _ e.symm; omega
                    have hneg : some g ≠ Value.ownBlock u5 := Ne.symm hne.out
                    have hlb := World.block_lt_of_cell? wy _ d1z
                    have hlg := World.block_lt_of_cell? wy _ k0z
                    simp only at hlb hlg
                    have hwr : IntKind.i64.wrap (xf - 1) = xf - 1 := IntWalk.i64_in _ (by omega)
                    go_region_held3 (fun w' => w'.cell? ⟨g, 0, none⟩ = some (.int .i64 f) ∧ w'.cell? ⟨b3, off3 + i * 3, none⟩ = some (.int .i64 xf) ∧ w'.cell? ⟨g, 2, none⟩ = some (.int .i64 v))
                      (first
                        | go_keep
                        | (go_split_ands
                           refine ⟨?_, ?_, ?_⟩
                           · (rw [hg1.cell_far _ (by simp; omega) hneg]; assumption)
                           · (rw [hg1.cell_far _ (by simp; omega) hne3]; assumption)
                           · (rw [hg1.cell_far _ (by simp; omega) hneg]; assumption)))
                      ((refine step_append_spans_at (by rfl) _ _ (by rfl) w.heap.size u5 Q (by rfl) (HO2.out.alloc _) ⟨wy.heap.size, 0, none⟩ 1 1 [(f, xf - 1, v)] rfl (by rfl) (one_new wy f (xf - 1) v 42) (by have := HL2.out; simp; omega) (by have := HB2.out.size; show _ ≤ (wy.alloc _).heap.size; simp; omega) ?_; intro v1 w1 ho1 hg1 hn1))
                    have hsz1 : wy.heap.size < w1.heap.size := by have := hg1.size; simp at this; omega
                    have hc3 : Cur w1 g f t v := Cur.grown (w := wy.alloc (.cells #[.int .i64 f, .int .i64 (xf - 1), .int .i64 v] 42)) (Cur.grown HC2.out (World.grownBy_alloc wy _ none) (by simp)) ⟨hg1.os, hg1.tape, hg1.output, hg1.size, hg1.block⟩ hne.out
                    have d2w : w1.cell? ⟨b3, off3 + i * 3 + 1, none⟩ = some (.int .i64 xt) := by
                      rw [hg1.cell_far _ (by simp; omega) hne3]; simp [World.cell?_alloc_lt, hlb, d2z]
                    have hb4 : Below w.heap.size w w1 := (HB2.out.alloc HB2.out.size (.cells #[.int .i64 f, .int .i64 (xf - 1), .int .i64 v] 42)).grown ⟨hg1.os, hg1.tape, hg1.output, hg1.size, hg1.block⟩ (by have := HB2.out.size; simp; omega) HO2.out.base
                    have hne4 := hn1 g (by simp; omega) hne.out
                    have HO5 := Lib.hid (ho1.store hne4 0 (.int .i64 (xt + 1)))
                    have HC5 := Lib.hid (hc3.set (xt + 1))
                    have HB5 := Lib.hid (hb4.setCell (p := ⟨g, 0, none⟩) HG.out (.int .i64 (xt + 1)))
                    have HN5 := Lib.hid hne4
                    obtain ⟨k0w, _, _, kfw, _⟩ := hc3
                    clear ho1 hg1 hn1 hb4 hne4 hne3 hneg d1z d2z k0z k2z hwr hlb hlg hsz1
                    go_wp2
                    go_roundw
                    case rel => exact ⟨i + 1, xt + 1, Q ++ [(f, xf - 1, v)], by omega, by omega, by omega, by go_num, HO5, HE3, HB5, HC5, HN5⟩
                    case measure => simp [intOf]; omega
                  · rw [if_neg hfx, List.nil_append] at hstep
                    have HE3 : Hid (Q ++ (cutS (xt + 1, t, v) (b.drop (i + 1)) ++ uncovS (a.drop (k + 1)) (b.drop nx)) = U) := by
                      unfold Hid; rw [← hEq.out, hstep]
                    clear hstep hEq
                    have hfd : decide (f < xf) = false := by simp; omega
                    go_wp2
                    go_quiet (fail)
                    go_wp2
                    go_roundw
                    case rel => exact ⟨i + 1, xt + 1, Q, by omega, by omega, by omega, by go_num, (ho.out.drewN _).store hne.out 0 _, HE3, (below_drewN_sp hbel.out _).setCell (p := ⟨g, 0, none⟩) HG.out _, (hcur.out.drewN _).set _, hne⟩
                    case measure => simp [intOf]; omega
          · obtain ⟨hnm, hto⟩ := hBB.out.1 rfl
            have hnb : nx < b.length := by rw [HM.out]; exact hnm
            have HE2 : Hid (P ++ uncovS (a.drop k) (b.drop (nx + 1)) = U) := by
              unfold Hid; rw [← unc_skip hkl hnb (by rw [HS.out]; exact hto)]; exact hEq.out
            clear hto hBB hEq
            go_wp2
            go_roundw
            case rel => exact ⟨nx + 1, by omega, by go_num, ho, HE2, hbel, hcur⟩
            case measure => simp [intOf]; omega
    · obtain rfl : k = n := by omega
      have HU2 : Hid (P = U) := by
        unfold Hid; rw [← hEq.out, List.drop_of_length_le (Nat.le_of_eq HL.out)]; simp [uncovS]
      go_wp2
      go_ret
      exact ⟨_, rfl, by rw [← HU2.out]; exact ho.out, hbel.out⟩

end Go.Proofs.Ytkapjihjbflliaa
