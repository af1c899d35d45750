/-
  keep.SameMappings and keep.SameTables, at any tables (genSU.py).
-/
import Derived.Test.YtnnhcgflmhjakaaGreatDoorQSameT
import Derived.Test.YtnnhcgflmhjakaaGreatDoorPkF
set_option linter.unusedSimpArgs false
set_option linter.unusedVariables false
namespace Go.Proofs.YtnnhcgflmhjakaaGreatDoor
open Go Go.RowKit
set_option linter.unusedVariables false

theorem sameIU_at (v u : Value) (xs ys : List Int) (B : Bool) (w : World) (hv : InV w v xs) (hu : InV w u ys) (hB : Hid (decide (xs = ys) = B)) : Calls Tryz.prog 37 #[v, u] w (Gives (.bool B) w) := by
  obtain ⟨p, c, rfl, h1, h2⟩ := hv
  obtain ⟨q, d, rfl, h3, h4⟩ := hu
  refine (same_any p q c d xs ys w h1 h3 (by unfold maxLen; omega) (by unfold maxLen; omega)).mono ?_
  rintro e w' ⟨rfl, h⟩
  refine ⟨?_, h⟩
  rw [← hB.out]
  rw [Bool.eq_iff_iff.2 (by simp : (xs == ys) = true ↔ decide (xs = ys) = true)]
theorem sameSU_at (v u : Value) (xs ys : List Sp) (B : Bool) (w : World) (hv : SpV w v xs) (hu : SpV w u ys) (hB : Hid (decide (xs = ys) = B)) : Calls Tryz.prog 43 #[v, u] w (Gives (.bool B) w) := by
  obtain ⟨p, c, rfl, h1, h2⟩ := hv
  obtain ⟨q, d, rfl, h3, h4⟩ := hu
  refine (sameS_any p q c d _ _ xs ys w h1 h3 rfl rfl (by unfold maxLen; omega) (by unfold maxLen; omega)).mono ?_
  rintro e w' ⟨rfl, h⟩
  refine ⟨?_, h⟩
  rw [hB.out]

theorem mp_ne {l m : List Mp} {k : Nat} (h : l.getD k mp0 ≠ m.getD k mp0) : l ≠ m := fun e => h (by rw [e])

set_option maxRecDepth 100000 in
set_option maxHeartbeats 4000000 in
theorem sameMU_at (v u : Value) (l m : List Mp) (B : Bool) (w : World) (hv : MpV w v l) (hu : MpV w u m) (hB : Hid (decide (l = m) = B)) : Calls Tryz.prog 44 #[v, u] w (Gives (.bool B) w) := by
  obtain ⟨p, c, rfl, h1, h2⟩ := hv
  obtain ⟨q, d, rfl, h3, h4⟩ := hu
  by_cases hl : l.length = m.length
  · obtain ⟨n, hn⟩ : ∃ n, l.length = n := ⟨_, rfl⟩
    have hm : m.length = n := by rw [← hl]; exact hn
    rw [hn] at h2 ⊢
    rw [hm]
    have HX := Lib.hid h1
    have HY := Lib.hid h3
    have HL := Lib.hid hn
    have HM := Lib.hid hm
    have hne : ((n : Int) != (n : Int)) = false := by simp
    clear h1 h3 h4 hn hm hl
    go_enter Tryz.func44, Tryz.ntmps44
    go_wp2
    go_loopw [13] (fun i wr => ∃ k : Nat, k ≤ n ∧ i = .int .i64 k ∧ Hid (l.take k = m.take k) ∧ Hid (Below w.heap.size w wr)) (fun i _ => n - (intOf i).toNat)
    case atStart => exact ⟨0, Nat.zero_le _, rfl, rfl, Below.refl _ _⟩
    case round =>
      obtain ⟨k, hk, rfl, htk, hbel⟩ := hrel
      by_cases hlt : k < n
      · have hkl : k < l.length := by rw [HL.out]; exact hlt
        have hkm : k < m.length := by rw [HM.out]; exact hlt
        obtain ⟨b1, o1, v1, rfl, c1, c2, hv1⟩ := (HX.out.below hbel.out) k hkl
        obtain ⟨b2, o2, v2, rfl, d1, d2, hv2⟩ := (HY.out.below hbel.out) k hkm
        have t1 := take_snoc_mp l k hkl
        have t2 := take_snoc_mp m k hkm
        have hne2 := @mp_ne l m k
        obtain ⟨⟨f, tl⟩, hs⟩ : ∃ s, l.getD k mp0 = s := ⟨_, rfl⟩
        obtain ⟨⟨f', tl'⟩, hs'⟩ : ∃ s, m.getD k mp0 = s := ⟨_, rfl⟩
        rw [hs] at c1 hv1 t1 hne2
        rw [hs'] at d1 hv2 t2 hne2
        simp only at c1 d1 hv1 hv2
        have HV1 := Lib.hid hv1
        have HV2 := Lib.hid hv2
        have HT1 := Lib.hid t1
        have HT2 := Lib.hid t2
        have HNE := Lib.hid hne2
        have k1 := fun p => layB_cell c1 p
        have k2 := fun p => layB_cell c2 p
        have k3 := fun p => layB_cell d1 p
        have k4 := fun p => layB_cell d2 p
        obtain ⟨S, hS⟩ : ∃ S, Hid (decide (tl = tl') = S) := ⟨_, rfl⟩
        have cc := fun p => layB_call (w := wr) (p := p) fun W2 hW2 => sameIU_at v1 v2 tl tl' S W2 (HV1.out.below hW2) (HV2.out.below hW2) hS
        have C1 := Lib.hid cc
        have i1 : (k : Int) < (n : Int) := by omega
        clear hs hs' hv1 hv2 t1 t2 hne2 cc c1 c2 d1 d2 hkl hkm
        by_cases hf : f = f'
        · have hff : (f != f') = false := by simp [hf]
          go_upto_region 6 with (fail)
          refine wp_region_layB (by kernel_rfl) (by kernel_rfl) ?_
          repeat (go_big_quiet_step (first
            | (go_at_call 37; with_reducible exact C1.out _)))
          refine wpQuiet_nil ?_
          intro _ hw'
          obtain ⟨pq, hw''⟩ := hw'
          subst hw''
          have hbq := layB_below wr pq
          have HB5 := Lib.hid (hbel.out.trans (hbq.mono hbel.out.size))
          generalize layB wr pq = w5 at hbq HB5 ⊢
          clear hbq k1 k2 k3 k4 C1
          cases S with
          | false =>
            have HBF : Hid (B = false) := by
              unfold Hid; rw [← hB.out]
              refine decide_eq_false (HNE.out (fun e => ?_))
              injection e with _ e2
              exact of_decide_eq_false hS.out e2
            go_wp2
            go_ret
            exact ⟨by rw [HBF.out]; rfl, HB5.out⟩
          | true =>
            have HTK : Hid (l.take (k + 1) = m.take (k + 1)) := by
              unfold Hid; rw [HT1.out, HT2.out, htk.out, hf, of_decide_eq_true hS.out]
            go_wp2
            go_roundw
            case rel => exact ⟨k + 1, by omega, by go_num, HTK, HB5⟩
            case measure => simp [intOf]; omega
        · have hff : (f != f') = true := by simp [hf]
          have HBF : Hid (B = false) := by
            unfold Hid; rw [← hB.out]
            exact decide_eq_false (HNE.out (fun e => hf (by injection e)))
          clear hf
          go_upto_region 6 with (fail)
          refine wp_region_layB (by kernel_rfl) (by kernel_rfl) ?_
          repeat (go_big_quiet_step (first
            | (go_at_call 37; with_reducible exact C1.out _)))
          refine wpQuiet_nil ?_
          intro _ hw'
          obtain ⟨pq, hw''⟩ := hw'
          subst hw''
          have hbq := layB_below wr pq
          have HB5 := Lib.hid (hbel.out.trans (hbq.mono hbel.out.size))
          generalize layB wr pq = w5 at hbq HB5 ⊢
          clear hbq k1 k2 k3 k4 C1
          go_wp2
          go_ret
          exact ⟨by rw [HBF.out]; rfl, HB5.out⟩
      · obtain rfl : k = n := by omega
        have HBT : Hid (B = true) := by
          unfold Hid; rw [← hB.out]
          refine decide_eq_true ?_
          have := htk.out
          rwa [List.take_of_length_le (Nat.le_of_eq HL.out), List.take_of_length_le (Nat.le_of_eq HM.out)] at this
        go_wp2
        go_ret
        exact ⟨by rw [HBT.out]; rfl, hbel.out⟩
  · have hne : ((l.length : Int) != (m.length : Int)) = true := by simp; omega
    have HBF : Hid (B = false) := by
      unfold Hid; rw [← hB.out]
      exact decide_eq_false (fun e => hl (by rw [e]))
    clear hl h1 h3
    go_enter Tryz.func44, Tryz.ntmps44
    go_wp2
    go_ret
    exact ⟨by rw [HBF.out]; rfl, Below.refl _ _⟩

structure SU (w0 : World) (x y : TV) (T U : Tb) (w : World) : Prop where
  tx : TabV w x T
  ty : TabV w y U
  bx : BoxT w w0.heap.size x
  by' : BoxT w (w0.heap.size + 1) y
  bel : Below w0.heap.size w0 w

theorem SU.step {w0 w w' : World} {x y : TV} {T U : Tb} (h : SU w0 x y T U w) (hb : Below w.heap.size w w') : SU w0 x y T U w' :=
  ⟨h.tx.below hb, h.ty.below hb, h.bx.below hb, h.by'.below hb, h.bel.trans (hb.mono h.bel.size)⟩

theorem SU.new {w : World} {x y : TV} {T U : Tb} (hx : TabV w x T) (hy : TabV w y U) (t : TypeId) : SU w x y T U ((w.alloc (.cells (tabCells x) t)).alloc (.cells (tabCells y) t)) := by
  have ha : Below w.heap.size w (w.alloc (.cells (tabCells x) t)) := (Below.refl _ _).alloc (Nat.le_refl _) _
  have hb : Below (w.alloc (.cells (tabCells x) t)).heap.size (w.alloc (.cells (tabCells x) t)) ((w.alloc (.cells (tabCells x) t)).alloc (.cells (tabCells y) t)) := (Below.refl _ _).alloc (Nat.le_refl _) _
  refine ⟨(hx.below ha).below hb, (hy.below ha).below hb, (BoxT.new w x t).below hb, ?_, ha.trans (hb.mono ha.size)⟩
  have := BoxT.new (w.alloc (.cells (tabCells x) t)) y t
  simpa using this

theorem tb_eq {T U : Tb} (h0 : T.cat = U.cat) (h1 : T.cls = U.cls) (h2 : T.joi = U.joi) (h3 : T.bid = U.bid) (h4 : T.scr = U.scr) (h5 : T.sta = U.sta) (h6 : T.ign = U.ign) (h7 : T.ext = U.ext) (h8 : T.map = U.map) (h9 : T.dec = U.dec) (h11 : T.pro = U.pro) (h10 : T.exc = U.exc) : T = U := by
  cases T; cases U; simp only at *; subst h0 h1 h2 h3 h4 h5 h6 h7 h8 h9 h11 h10; rfl

/-- keep.SameTables: true just at equal tables. -/
def SamePost (T U : Tb) (w : World) (e : Ending) (w' : World) : Prop := ∃ B : Bool, e = .returned (.bool B) ∧ (B = true ↔ T = U) ∧ Below w.heap.size w w'

set_option maxRecDepth 100000 in
set_option maxHeartbeats 8000000 in
theorem sameTables_any (x y : TV) (T U : Tb) (w : World) (hx : TabV w x T) (hy : TabV w y U) : Calls Tryz.prog 16 #[x.agg, y.agg] w (SamePost T U w) := by
  have HS := Lib.hid (SU.new hx hy 29)
  clear hx hy
  simp only [TV.agg]
  simp only [tabCells] at HS
  go_enter Tryz.func16, Tryz.ntmps16
  obtain ⟨⟨k0, k1, k2, k3, k4, k5⟩, ⟨k6, k7, k8, k9, k10, k11⟩⟩ := HS.out.bx
  obtain ⟨⟨l0, l1, l2, l3, l4, l5⟩, ⟨l6, l7, l8, l9, l10, l11⟩⟩ := HS.out.by'
  clear k1 l1
  clear k2 l2
  clear k3 l3
  clear k4 l4
  clear k5 l5
  clear k6 l6
  clear k7 l7
  clear k8 l8
  clear k9 l9
  clear k10 l10
  clear k11 l11
  obtain ⟨B0, hB0⟩ : ∃ B, Hid (decide (T.cat = U.cat) = B) := ⟨_, rfl⟩
  go_wp2_with fail
  refine (sameSU_at x.a0 y.a0 T.cat U.cat B0 _ HS.out.tx.cat HS.out.ty.cat hB0).mono ?_
  rintro e u0 ⟨rfl, hb⟩
  replace HS := Lib.hid (HS.out.step hb)
  clear hb k0 l0
  cases B0 with
  | false =>
    go_wp2
    go_ret
    exact ⟨false, rfl, ⟨(fun h => by cases h), fun h => absurd (congrArg Tb.cat h) (of_decide_eq_false hB0.out)⟩, HS.out.bel⟩
  | true =>
  have H0 := Lib.hid (of_decide_eq_true hB0.out)
  obtain ⟨⟨k0, k1, k2, k3, k4, k5⟩, ⟨k6, k7, k8, k9, k10, k11⟩⟩ := HS.out.bx
  obtain ⟨⟨l0, l1, l2, l3, l4, l5⟩, ⟨l6, l7, l8, l9, l10, l11⟩⟩ := HS.out.by'
  clear k0 l0
  clear k2 l2
  clear k3 l3
  clear k4 l4
  clear k5 l5
  clear k6 l6
  clear k7 l7
  clear k8 l8
  clear k9 l9
  clear k10 l10
  clear k11 l11
  obtain ⟨B1, hB1⟩ : ∃ B, Hid (decide (T.cls = U.cls) = B) := ⟨_, rfl⟩
  go_wp2_with fail
  refine (sameSU_at x.a1 y.a1 T.cls U.cls B1 _ HS.out.tx.cls HS.out.ty.cls hB1).mono ?_
  rintro e u1 ⟨rfl, hb⟩
  replace HS := Lib.hid (HS.out.step hb)
  clear hb k1 l1
  cases B1 with
  | false =>
    go_wp2
    go_ret
    exact ⟨false, rfl, ⟨(fun h => by cases h), fun h => absurd (congrArg Tb.cls h) (of_decide_eq_false hB1.out)⟩, HS.out.bel⟩
  | true =>
  have H1 := Lib.hid (of_decide_eq_true hB1.out)
  obtain ⟨⟨k0, k1, k2, k3, k4, k5⟩, ⟨k6, k7, k8, k9, k10, k11⟩⟩ := HS.out.bx
  obtain ⟨⟨l0, l1, l2, l3, l4, l5⟩, ⟨l6, l7, l8, l9, l10, l11⟩⟩ := HS.out.by'
  clear k0 l0
  clear k1 l1
  clear k3 l3
  clear k4 l4
  clear k5 l5
  clear k6 l6
  clear k7 l7
  clear k8 l8
  clear k9 l9
  clear k10 l10
  clear k11 l11
  obtain ⟨B2, hB2⟩ : ∃ B, Hid (decide (T.joi = U.joi) = B) := ⟨_, rfl⟩
  go_wp2_with fail
  refine (sameSU_at x.a2 y.a2 T.joi U.joi B2 _ HS.out.tx.joi HS.out.ty.joi hB2).mono ?_
  rintro e u2 ⟨rfl, hb⟩
  replace HS := Lib.hid (HS.out.step hb)
  clear hb k2 l2
  cases B2 with
  | false =>
    go_wp2
    go_ret
    exact ⟨false, rfl, ⟨(fun h => by cases h), fun h => absurd (congrArg Tb.joi h) (of_decide_eq_false hB2.out)⟩, HS.out.bel⟩
  | true =>
  have H2 := Lib.hid (of_decide_eq_true hB2.out)
  obtain ⟨⟨k0, k1, k2, k3, k4, k5⟩, ⟨k6, k7, k8, k9, k10, k11⟩⟩ := HS.out.bx
  obtain ⟨⟨l0, l1, l2, l3, l4, l5⟩, ⟨l6, l7, l8, l9, l10, l11⟩⟩ := HS.out.by'
  clear k0 l0
  clear k1 l1
  clear k2 l2
  clear k4 l4
  clear k5 l5
  clear k6 l6
  clear k7 l7
  clear k8 l8
  clear k9 l9
  clear k10 l10
  clear k11 l11
  obtain ⟨B3, hB3⟩ : ∃ B, Hid (decide (T.bid = U.bid) = B) := ⟨_, rfl⟩
  go_wp2_with fail
  refine (sameSU_at x.a3 y.a3 T.bid U.bid B3 _ HS.out.tx.bid HS.out.ty.bid hB3).mono ?_
  rintro e u3 ⟨rfl, hb⟩
  replace HS := Lib.hid (HS.out.step hb)
  clear hb k3 l3
  cases B3 with
  | false =>
    go_wp2
    go_ret
    exact ⟨false, rfl, ⟨(fun h => by cases h), fun h => absurd (congrArg Tb.bid h) (of_decide_eq_false hB3.out)⟩, HS.out.bel⟩
  | true =>
  have H3 := Lib.hid (of_decide_eq_true hB3.out)
  obtain ⟨⟨k0, k1, k2, k3, k4, k5⟩, ⟨k6, k7, k8, k9, k10, k11⟩⟩ := HS.out.bx
  obtain ⟨⟨l0, l1, l2, l3, l4, l5⟩, ⟨l6, l7, l8, l9, l10, l11⟩⟩ := HS.out.by'
  clear k0 l0
  clear k1 l1
  clear k2 l2
  clear k3 l3
  clear k5 l5
  clear k6 l6
  clear k7 l7
  clear k8 l8
  clear k9 l9
  clear k10 l10
  clear k11 l11
  obtain ⟨B4, hB4⟩ : ∃ B, Hid (decide (T.scr = U.scr) = B) := ⟨_, rfl⟩
  go_wp2_with fail
  refine (sameSU_at x.a4 y.a4 T.scr U.scr B4 _ HS.out.tx.scr HS.out.ty.scr hB4).mono ?_
  rintro e u4 ⟨rfl, hb⟩
  replace HS := Lib.hid (HS.out.step hb)
  clear hb k4 l4
  cases B4 with
  | false =>
    go_wp2
    go_ret
    exact ⟨false, rfl, ⟨(fun h => by cases h), fun h => absurd (congrArg Tb.scr h) (of_decide_eq_false hB4.out)⟩, HS.out.bel⟩
  | true =>
  have H4 := Lib.hid (of_decide_eq_true hB4.out)
  obtain ⟨⟨k0, k1, k2, k3, k4, k5⟩, ⟨k6, k7, k8, k9, k10, k11⟩⟩ := HS.out.bx
  obtain ⟨⟨l0, l1, l2, l3, l4, l5⟩, ⟨l6, l7, l8, l9, l10, l11⟩⟩ := HS.out.by'
  clear k0 l0
  clear k1 l1
  clear k2 l2
  clear k3 l3
  clear k4 l4
  clear k6 l6
  clear k7 l7
  clear k8 l8
  clear k9 l9
  clear k10 l10
  clear k11 l11
  obtain ⟨B5, hB5⟩ : ∃ B, Hid (decide (T.sta = U.sta) = B) := ⟨_, rfl⟩
  go_wp2_with fail
  refine (sameSU_at x.a5 y.a5 T.sta U.sta B5 _ HS.out.tx.sta HS.out.ty.sta hB5).mono ?_
  rintro e u5 ⟨rfl, hb⟩
  replace HS := Lib.hid (HS.out.step hb)
  clear hb k5 l5
  cases B5 with
  | false =>
    go_wp2
    go_ret
    exact ⟨false, rfl, ⟨(fun h => by cases h), fun h => absurd (congrArg Tb.sta h) (of_decide_eq_false hB5.out)⟩, HS.out.bel⟩
  | true =>
  have H5 := Lib.hid (of_decide_eq_true hB5.out)
  obtain ⟨⟨k0, k1, k2, k3, k4, k5⟩, ⟨k6, k7, k8, k9, k10, k11⟩⟩ := HS.out.bx
  obtain ⟨⟨l0, l1, l2, l3, l4, l5⟩, ⟨l6, l7, l8, l9, l10, l11⟩⟩ := HS.out.by'
  clear k0 l0
  clear k1 l1
  clear k2 l2
  clear k3 l3
  clear k4 l4
  clear k5 l5
  clear k7 l7
  clear k8 l8
  clear k9 l9
  clear k10 l10
  clear k11 l11
  obtain ⟨B6, hB6⟩ : ∃ B, Hid (decide (T.ign = U.ign) = B) := ⟨_, rfl⟩
  go_wp2_with fail
  refine (sameSU_at x.a6 y.a6 T.ign U.ign B6 _ HS.out.tx.ign HS.out.ty.ign hB6).mono ?_
  rintro e u6 ⟨rfl, hb⟩
  replace HS := Lib.hid (HS.out.step hb)
  clear hb k6 l6
  cases B6 with
  | false =>
    go_wp2
    go_ret
    exact ⟨false, rfl, ⟨(fun h => by cases h), fun h => absurd (congrArg Tb.ign h) (of_decide_eq_false hB6.out)⟩, HS.out.bel⟩
  | true =>
  have H6 := Lib.hid (of_decide_eq_true hB6.out)
  obtain ⟨⟨k0, k1, k2, k3, k4, k5⟩, ⟨k6, k7, k8, k9, k10, k11⟩⟩ := HS.out.bx
  obtain ⟨⟨l0, l1, l2, l3, l4, l5⟩, ⟨l6, l7, l8, l9, l10, l11⟩⟩ := HS.out.by'
  clear k0 l0
  clear k1 l1
  clear k2 l2
  clear k3 l3
  clear k4 l4
  clear k5 l5
  clear k6 l6
  clear k8 l8
  clear k9 l9
  clear k10 l10
  clear k11 l11
  obtain ⟨B7, hB7⟩ : ∃ B, Hid (decide (T.ext = U.ext) = B) := ⟨_, rfl⟩
  go_wp2_with fail
  refine (sameMU_at x.a7 y.a7 T.ext U.ext B7 _ HS.out.tx.ext HS.out.ty.ext hB7).mono ?_
  rintro e u7 ⟨rfl, hb⟩
  replace HS := Lib.hid (HS.out.step hb)
  clear hb k7 l7
  cases B7 with
  | false =>
    go_wp2
    go_ret
    exact ⟨false, rfl, ⟨(fun h => by cases h), fun h => absurd (congrArg Tb.ext h) (of_decide_eq_false hB7.out)⟩, HS.out.bel⟩
  | true =>
  have H7 := Lib.hid (of_decide_eq_true hB7.out)
  obtain ⟨⟨k0, k1, k2, k3, k4, k5⟩, ⟨k6, k7, k8, k9, k10, k11⟩⟩ := HS.out.bx
  obtain ⟨⟨l0, l1, l2, l3, l4, l5⟩, ⟨l6, l7, l8, l9, l10, l11⟩⟩ := HS.out.by'
  clear k0 l0
  clear k1 l1
  clear k2 l2
  clear k3 l3
  clear k4 l4
  clear k5 l5
  clear k6 l6
  clear k7 l7
  clear k9 l9
  clear k10 l10
  clear k11 l11
  obtain ⟨B8, hB8⟩ : ∃ B, Hid (decide (T.map = U.map) = B) := ⟨_, rfl⟩
  go_wp2_with fail
  refine (sameMU_at x.a8 y.a8 T.map U.map B8 _ HS.out.tx.map HS.out.ty.map hB8).mono ?_
  rintro e u8 ⟨rfl, hb⟩
  replace HS := Lib.hid (HS.out.step hb)
  clear hb k8 l8
  cases B8 with
  | false =>
    go_wp2
    go_ret
    exact ⟨false, rfl, ⟨(fun h => by cases h), fun h => absurd (congrArg Tb.map h) (of_decide_eq_false hB8.out)⟩, HS.out.bel⟩
  | true =>
  have H8 := Lib.hid (of_decide_eq_true hB8.out)
  obtain ⟨⟨k0, k1, k2, k3, k4, k5⟩, ⟨k6, k7, k8, k9, k10, k11⟩⟩ := HS.out.bx
  obtain ⟨⟨l0, l1, l2, l3, l4, l5⟩, ⟨l6, l7, l8, l9, l10, l11⟩⟩ := HS.out.by'
  clear k0 l0
  clear k1 l1
  clear k2 l2
  clear k3 l3
  clear k4 l4
  clear k5 l5
  clear k6 l6
  clear k7 l7
  clear k8 l8
  clear k10 l10
  clear k11 l11
  obtain ⟨B9, hB9⟩ : ∃ B, Hid (decide (T.dec = U.dec) = B) := ⟨_, rfl⟩
  go_wp2_with fail
  refine (sameMU_at x.a9 y.a9 T.dec U.dec B9 _ HS.out.tx.dec HS.out.ty.dec hB9).mono ?_
  rintro e u9 ⟨rfl, hb⟩
  replace HS := Lib.hid (HS.out.step hb)
  clear hb k9 l9
  cases B9 with
  | false =>
    go_wp2
    go_ret
    exact ⟨false, rfl, ⟨(fun h => by cases h), fun h => absurd (congrArg Tb.dec h) (of_decide_eq_false hB9.out)⟩, HS.out.bel⟩
  | true =>
  have H9 := Lib.hid (of_decide_eq_true hB9.out)
  obtain ⟨⟨k0, k1, k2, k3, k4, k5⟩, ⟨k6, k7, k8, k9, k10, k11⟩⟩ := HS.out.bx
  obtain ⟨⟨l0, l1, l2, l3, l4, l5⟩, ⟨l6, l7, l8, l9, l10, l11⟩⟩ := HS.out.by'
  clear k0 l0
  clear k1 l1
  clear k2 l2
  clear k3 l3
  clear k4 l4
  clear k5 l5
  clear k6 l6
  clear k7 l7
  clear k8 l8
  clear k9 l9
  clear k10 l10
  obtain ⟨B11, hB11⟩ : ∃ B, Hid (decide (T.pro = U.pro) = B) := ⟨_, rfl⟩
  go_wp2_with fail
  refine (sameMU_at x.a11 y.a11 T.pro U.pro B11 _ HS.out.tx.pro HS.out.ty.pro hB11).mono ?_
  rintro e u10 ⟨rfl, hb⟩
  replace HS := Lib.hid (HS.out.step hb)
  clear hb k11 l11
  cases B11 with
  | false =>
    go_wp2
    go_ret
    exact ⟨false, rfl, ⟨(fun h => by cases h), fun h => absurd (congrArg Tb.pro h) (of_decide_eq_false hB11.out)⟩, HS.out.bel⟩
  | true =>
  have H11 := Lib.hid (of_decide_eq_true hB11.out)
  obtain ⟨⟨k0, k1, k2, k3, k4, k5⟩, ⟨k6, k7, k8, k9, k10, k11⟩⟩ := HS.out.bx
  obtain ⟨⟨l0, l1, l2, l3, l4, l5⟩, ⟨l6, l7, l8, l9, l10, l11⟩⟩ := HS.out.by'
  clear k0 l0
  clear k1 l1
  clear k2 l2
  clear k3 l3
  clear k4 l4
  clear k5 l5
  clear k6 l6
  clear k7 l7
  clear k8 l8
  clear k9 l9
  clear k11 l11
  obtain ⟨B10, hB10⟩ : ∃ B, Hid (decide (T.exc = U.exc) = B) := ⟨_, rfl⟩
  go_wp2_with fail
  refine (sameIU_at x.a10 y.a10 T.exc U.exc B10 _ HS.out.tx.exc HS.out.ty.exc hB10).mono ?_
  rintro e u11 ⟨rfl, hb⟩
  replace HS := Lib.hid (HS.out.step hb)
  clear hb k10 l10
  cases B10 with
  | false =>
    go_wp2
    go_ret
    exact ⟨false, rfl, ⟨(fun h => by cases h), fun h => absurd (congrArg Tb.exc h) (of_decide_eq_false hB10.out)⟩, HS.out.bel⟩
  | true =>
  have H10 := Lib.hid (of_decide_eq_true hB10.out)
  go_wp2
  go_ret
  exact ⟨true, rfl, ⟨fun _ => tb_eq H0.out H1.out H2.out H3.out H4.out H5.out H6.out H7.out H8.out H9.out H11.out H10.out, fun _ => rfl⟩, HS.out.bel⟩

end Go.Proofs.YtnnhcgflmhjakaaGreatDoor
