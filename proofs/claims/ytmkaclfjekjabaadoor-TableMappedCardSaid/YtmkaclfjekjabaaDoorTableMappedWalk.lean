/-
  The walk of TableMapped.
-/
import Derived.Test.YtmkaclfjekjabaaDoorTblQ
namespace Go.Proofs.YtmkaclfjekjabaaDoor
open Go.RowKit
set_option linter.unusedVariables false

/-- Tables in a box, and a list of numbers. -/
structure MEnv (w0 : World) (g : Nat) (x : TV) (T : Tb) (p : Option Addr) (l : List Int) (w : World) : Prop where
  tab : TabV w x T
  box : BoxT w g x
  ints : IntsIn w p l
  bel : Below w0.heap.size w0 w
theorem MEnv.step {w0 w w' : World} {g : Nat} {x : TV} {T : Tb} {p : Option Addr} {l : List Int} (h : MEnv w0 g x T p l w) (hb : Below w.heap.size w w') : MEnv w0 g x T p l w' :=
  ⟨h.tab.below hb, h.box.below hb, h.ints.below hb, h.bel.trans (hb.mono h.bel.size)⟩

set_option maxRecDepth 100000 in
set_option maxHeartbeats 8000000 in
theorem tableMapped_walk (p : Option Addr) (cap : Nat) (zs : List Int) (c : Int) (w : World) (hin : IntsIn w p zs) (hl : zs.length ≤ 17592186043904) (hr : Rsv w) :
    Calls Tryd.prog 4 #[.slice p zs.length cap, .int .i64 c] w (Gives (.bool true) w) := by
  have HI := Lib.hid hin
  have HL := Lib.hid hl
  have HR := Lib.hid hr
  obtain ⟨pk, hpk⟩ : ∃ k, pickS c 1280 = k := ⟨_, rfl⟩
  have hpick := fun W => pick_any c 1280 W (by omega) (by omega)
  rw [hpk] at hpick
  have HPK := Lib.hid hpick
  clear hin hl hr hpick hpk
  go_enter Tryd.func4, Tryd.ntmps4
  go_wp2_with fail
  refine (tables_any p cap zs _ HI.out HL.out).mono ?_
  rintro e w1 ⟨⟨a0, a1, a2, a3, a4, a5, a6, a7, a8, a9, a10, a11⟩, T, rfl, htv, hm, _, hb1⟩
  obtain ⟨p0, n0, q0, hsl0⟩ : Slc a0 := htv.cat.slc
  subst hsl0
  obtain ⟨p1, n1, q1, hsl1⟩ : Slc a1 := htv.cls.slc
  subst hsl1
  obtain ⟨p2, n2, q2, hsl2⟩ : Slc a2 := htv.joi.slc
  subst hsl2
  obtain ⟨p3, n3, q3, hsl3⟩ : Slc a3 := htv.bid.slc
  subst hsl3
  obtain ⟨p4, n4, q4, hsl4⟩ : Slc a4 := htv.scr.slc
  subst hsl4
  obtain ⟨p5, n5, q5, hsl5⟩ : Slc a5 := htv.sta.slc
  subst hsl5
  obtain ⟨p6, n6, q6, hsl6⟩ : Slc a6 := htv.ign.slc
  subst hsl6
  obtain ⟨p7, n7, q7, hsl7⟩ : Slc a7 := htv.ext.slc
  subst hsl7
  obtain ⟨p8, n8, q8, hsl8⟩ : Slc a8 := htv.map.slc
  subst hsl8
  obtain ⟨p9, n9, q9, hsl9⟩ : Slc a9 := htv.dec.slc
  subst hsl9
  obtain ⟨p10, n10, q10, hsl10⟩ : Slc a10 := htv.exc.slc
  subst hsl10
  obtain ⟨p11, n11, q11, hsl11⟩ : Slc a11 := htv.pro.slc
  subst hsl11
  obtain ⟨x, hx⟩ : ∃ x : TV, x = ⟨.slice p0 n0 q0, .slice p1 n1 q1, .slice p2 n2 q2, .slice p3 n3 q3, .slice p4 n4 q4, .slice p5 n5 q5, .slice p6 n6 q6, .slice p7 n7 q7, .slice p8 n8 q8, .slice p9 n9 q9, .slice p10 n10 q10, .slice p11 n11 q11⟩ := ⟨_, rfl⟩
  have hb2 := (Below.refl w1.heap.size w1).alloc (Nat.le_refl _) (.cells (tabCells ⟨.slice p0 n0 q0, .slice p1 n1 q1, .slice p2 n2 q2, .slice p3 n3 q3, .slice p4 n4 q4, .slice p5 n5 q5, .slice p6 n6 q6, .slice p7 n7 q7, .slice p8 n8 q8, .slice p9 n9 q9, .slice p10 n10 q10, .slice p11 n11 q11⟩) 26)
  have HT2 : Hid (TabV (w1.alloc (.cells (tabCells ⟨.slice p0 n0 q0, .slice p1 n1 q1, .slice p2 n2 q2, .slice p3 n3 q3, .slice p4 n4 q4, .slice p5 n5 q5, .slice p6 n6 q6, .slice p7 n7 q7, .slice p8 n8 q8, .slice p9 n9 q9, .slice p10 n10 q10, .slice p11 n11 q11⟩) 26)) x T) := by unfold Hid; rw [hx]; exact htv.below hb2
  have HX2 : Hid (BoxT (w1.alloc (.cells (tabCells ⟨.slice p0 n0 q0, .slice p1 n1 q1, .slice p2 n2 q2, .slice p3 n3 q3, .slice p4 n4 q4, .slice p5 n5 q5, .slice p6 n6 q6, .slice p7 n7 q7, .slice p8 n8 q8, .slice p9 n9 q9, .slice p10 n10 q10, .slice p11 n11 q11⟩) 26)) w1.heap.size x) := by unfold Hid; rw [hx]; exact BoxT.new w1 _ _
  have HB2 := Lib.hid (hb1.trans (hb2.mono hb1.size))
  have HI2 := Lib.hid (HI.out.below (hb1.trans (hb2.mono hb1.size)))
  have HM := Lib.hid hm
  clear htv hm hb1 hb2
  simp only [tabCells] at HT2 HX2 HB2 HI2
  have HBP := Lib.hid HB2.out.size
  go_wp2_with fail
  refine (points_any p cap zs _ HI2.out HL.out).mono ?_
  rintro e w3 ⟨xs, v, rfl, hxl, _, hown, hb3⟩
  have HO3 := Lib.hid hown
  have HB3 := Lib.hid hb3
  clear HI2 hb3 hown
  go_wp2_with fail
  refine (HPK.out _).mono ?_
  rintro e w4 ⟨rfl, rfl⟩
  have HOA := Lib.hid (Ints.alloc HO3.out (.cells #[.int .i64 pk] 3))
  have HOB := Lib.hid HB3.out.size
  go_wp2_with (at_builtin; refine wpList_append_one _ _ rfl rfl _ v xs (by rfl) (by exact HOA.out) _ 1 pk (by rfl) (by simp [World.cell?_alloc_new]) (by omega) (Nat.le_trans HOB.out (by simp)) ?_; intro v5 w5 ho5 hg5 _; have hlow := fun b hb => World.ownsRow.lt HO3.out b hb; have hb5 := (HB3.out.alloc HB3.out.size (.cells #[.int .i64 pk] 3)).grown hg5 (Nat.le_trans HB3.out.size (by simp)) (fun k hk => (hlow k hk).1); obtain ⟨pv, cv, N, hN, hv5, hin5⟩ : ∃ p c N, (xs ++ [pk]).length = N ∧ v5 = .slice p N c ∧ IntsIn w5 p (xs ++ [pk]) := (by obtain ⟨p, c, e, hin⟩ := ho5.inn; exact ⟨p, c, _, rfl, e, hin⟩); subst hv5)
  obtain ⟨g, hg⟩ : ∃ g, w1.heap.size = g := ⟨_, rfl⟩
  have HE5 : Hid (MEnv w g x T pv (xs ++ [pk]) w5) := ⟨HT2.out.below hb5, by rw [← hg]; exact HX2.out.below hb5, hin5, HB2.out.trans (hb5.mono HB2.out.size)⟩
  rw [hg]
  have hNl : N ≤ 1000 := by rw [← hN]; simp; omega
  generalize xs ++ [pk] = ys at hN HE5
  have HN := Lib.hid hN
  clear ho5 hg5 hlow hb5 hin5 HT2 HX2 HB2 HB3 HO3 HOA HOB HBP hN hg hx
  go_wp2
  go_loopw [23] (fun iv wr => ∃ j : Nat, j ≤ N ∧ iv = .int .i64 j ∧ Hid (MEnv w g x T pv ys wr)) (fun iv _ => N - (intOf iv).toNat)
  case atStart => exact ⟨0, Nat.zero_le _, rfl, HE5⟩
  case round =>
    obtain ⟨j, hj, rfl, henv⟩ := hrel
    clear HE5
    by_cases hjN : j < N
    · obtain ⟨b, off, rfl, hc⟩ := henv.out.ints j (by rw [HN.out]; exact hjN)
      obtain ⟨y, hy⟩ : ∃ y, ys.getD j 0 = y := ⟨_, rfl⟩
      rw [hy] at hc
      obtain ⟨ms, hms⟩ : ∃ ms, Hid (mapsT T y = ms) := ⟨_, rfl⟩
      obtain ⟨z, hz⟩ : ∃ z, Hid (staT T y = z) := ⟨_, rfl⟩
      have hmm := HM.out.maps y
      rw [hms.out, hz.out] at hmm
      have HMM := Lib.hid hmm
      obtain ⟨⟨k0, k1, k2, k3, k4, k5⟩, ⟨k6, k7, k8, k9, k10, k11⟩⟩ := henv.out.box.load
      clear hy hmm
      go_wp2_with fail
      refine (tmaps_at x T y ms _ henv.out.tab HM.out.map.asc hms).mono ?_
      rintro e w6 ⟨p2, n2, c2, rfl, hl2, hn2, hin2, hb6⟩
      have HE6 := Lib.hid (henv.out.step hb6)
      have HI6 := Lib.hid hin2
      have HL2 := Lib.hid hl2
      clear hb6 hin2 hl2 k0 k1 k2 k3 k4 k5 k6 k7 k8 k9 k10 k11 hc henv
      obtain ⟨⟨k0, k1, k2, k3, k4, k5⟩, ⟨k6, k7, k8, k9, k10, k11⟩⟩ := HE6.out.box.load
      go_wp2_with fail
      refine (status_at x T y z _ HE6.out.tab HM.out.map.sp.asc hz).mono ?_
      rintro e w7 ⟨rfl, hb7⟩
      have HE7 := Lib.hid (HE6.out.step hb7)
      have HI7 := Lib.hid (HI6.out.below hb7)
      clear hb7 HE6 HI6 k0 k1 k2 k3 k4 k5 k6 k7 k8 k9 k10 k11
      have hiff : 0 < n2 ↔ z = 3 := by
        have h := HMM.out.1
        have hl := HL2.out
        constructor
        · intro h0
          apply Classical.byContradiction
          intro h3
          have he := h.2 h3
          rw [he, List.length_nil] at hl
          omega
        · intro h3
          have hne : ms ≠ [] := fun e => h.1 e h3
          have := List.length_pos_iff.2 hne
          omega
      obtain ⟨B, h1, h1', h2⟩ : ∃ B : Bool, decide (0 < (n2 : Int)) = B ∧ decide (0 < n2) = B ∧ (z == 3) = B := by
        refine ⟨z == 3, ?_, ?_, rfl⟩
        · rw [Bool.eq_iff_iff, decide_eq_true_eq, beq_iff_eq]
          exact ⟨fun h => hiff.1 (by omega), fun h => by have := hiff.2 h; omega⟩
        · rw [Bool.eq_iff_iff, decide_eq_true_eq, beq_iff_eq]
          exact hiff
      clear hiff
      go_wp2
      go_loopw [40] (fun iv wr => ∃ i : Nat, i ≤ n2 ∧ iv = .int .i64 i ∧ Hid (MEnv w g x T (some ⟨b, off, none⟩) ys wr) ∧ Hid (IntsIn wr p2 ms)) (fun iv _ => n2 - (intOf iv).toNat)
      case atStart => exact ⟨0, Nat.zero_le _, rfl, HE7, HI7⟩
      case round =>
        obtain ⟨i, hi, rfl, henv, hims⟩ := hrel
        clear HE7 HI7
        by_cases hin2 : i < n2
        · obtain ⟨b2, off2, rfl, hc2⟩ := hims.out i (by rw [HL2.out]; exact hin2)
          obtain ⟨y2, hy2⟩ : ∃ y, ms.getD i 0 = y := ⟨_, rfl⟩
          rw [hy2] at hc2
          obtain ⟨z2, hz2⟩ : ∃ z, Hid (staT T y2 = z) := ⟨_, rfl⟩
          have hzz : z2 = 1 ∨ z2 = 4 := by
            rw [← hz2.out]
            exact HMM.out.2 y2 (by rw [← hy2]; exact getD_mem_int _ _ (by rw [HL2.out]; exact hin2))
          have HZZ := Lib.hid hzz
          obtain ⟨⟨k0, k1, k2, k3, k4, k5⟩, ⟨k6, k7, k8, k9, k10, k11⟩⟩ := henv.out.box.load
          clear hy2 hzz
          go_wp2_with fail
          refine (status_at x T y2 z2 _ henv.out.tab HM.out.map.sp.asc hz2).mono ?_
          rintro e w8 ⟨rfl, hb8⟩
          have HE8 := Lib.hid (henv.out.step hb8)
          have HI8 := Lib.hid (hims.out.below hb8)
          clear hb8 henv hims k0 k1 k2 k3 k4 k5 k6 k7 k8 k9 k10 k11 hc2
          rcases HZZ.out with hq | hq
          · have e1 : (z2 != 1) = false := by simp [hq]
            clear hq
            go_wp2
            go_roundw
            case rel => exact ⟨i + 1, by omega, by go_num, HE8, HI8⟩
            case measure => simp [intOf]; omega
          · have e1 : (z2 != 1) = true := by simp [hq]
            have e2 : (z2 != 4) = false := by simp [hq]
            clear hq
            go_wp2
            go_roundw
            case rel => exact ⟨i + 1, by omega, by go_num, HE8, HI8⟩
            case measure => simp [intOf]; omega
        · obtain rfl : i = n2 := by omega
          go_wp2
          go_roundw
          case rel => exact ⟨j + 1, by omega, by go_num, henv⟩
          case measure => simp [intOf]; omega
    · obtain rfl : j = N := by omega
      go_wp2_with fail
      refine (awake_any _ (HR.out.below henv.out.bel)).mono ?_
      rintro e w9 ⟨rfl, hb9⟩
      have hbe := henv.out.bel.trans (hb9.mono henv.out.bel.size)
      have HBE := Lib.hid hbe
      clear hb9 hbe
      go_wp2
      go_ret
      exact ⟨rfl, HBE.out⟩

end Go.Proofs.YtmkaclfjekjabaaDoor
