/-
  The walk of TableProperties, for whoever knows the contract of properties.
-/
import Derived.Test.YtmkaclfjekjabaaGreatDoorQTblS
import Derived.Test.YtmkaclfjekjabaaGreatDoorPkH
import Derived.Test.YtmkaclfjekjabaaGreatDoorPkF
set_option linter.unusedSimpArgs false
set_option linter.unusedVariables false
namespace Go.Proofs.YtmkaclfjekjabaaGreatDoor
open Go.RowKit
set_option linter.unusedVariables false

/-- Tables in a box, and a list of numbers. -/
structure MEnv (w0 : World) (g : Nat) (x : TV) (T : Tb) (p : Option Addr) (l : List Int) (w : World) : Prop where
  tab : TabV w x T
  box : BoxT w g x
  ints : IntsIn w p l
  bel : Below w0.heap.size w0 w
theorem MEnv.step {w0 w w' : World} {g : Nat} {x : TV} {T : Tb} {p : Option Addr} {l : List Int} (h : MEnv w0 g x T p l w) (hb : Below w.heap.size w w') : MEnv w0 g x T p l w' :=
  ⟨h.tab.below hb, h.box.below hb, h.ints.below hb, h.bel.trans (hb.mono h.bel.size)⟩

/-- The contract of properties. -/
abbrev PropOk : Prop := ∀ (x : TV) (T : Tb) (c : Int) (w : World), TabV w x T → checkT T = 0 → Calls Tryz.prog 16 #[x.agg, .int .i64 c] w (Gives (.bool true) w)

set_option maxRecDepth 100000 in
set_option maxHeartbeats 8000000 in
theorem tableProperties_of (hprop : PropOk) (p : Option Addr) (cap : Nat) (zs : List Int) (c sh : Int) (w : World) (hin : IntsIn w p zs) (hl : zs.length ≤ 17592186043904) (hr : Rsv w) :
    Calls Tryz.prog 4 #[.slice p zs.length cap, .int .i64 c, .int .i64 sh] w (Gives (.bool true) w) := by
  have HPR := Lib.hid hprop
  clear hprop
  have HI := Lib.hid hin
  have HL := Lib.hid hl
  have HR := Lib.hid hr
  clear hin hl hr
  go_enter Tryz.func4, Tryz.ntmps4
  go_wp2_with fail
  refine (tables_any p cap zs _ HI.out HL.out).mono ?_
  rintro e w1 ⟨⟨a0, a1, a2, a3, a4, a5, a6, a7, a8, a9, a10, a11⟩, T, rfl, htv, hm, _, hb1⟩
  obtain ⟨p0, n0, q0, hsl0⟩ : Slc a0 := htv.cat.slc
  subst hsl0
  obtain ⟨p1, n1, q1, hsl1⟩ : Slc a1 := htv.cls.slc
  subst hsl1
  obtain ⟨p2, n2, q2, hsl2⟩ : Slc a2 := htv.joi.slc
  subst hsl2
  obtain ⟨p3, n3, q3, hsl3⟩ : Slc a3 := htv.bid.slc
  subst hsl3
  obtain ⟨p4, n4, q4, hsl4⟩ : Slc a4 := htv.scr.slc
  subst hsl4
  obtain ⟨p5, n5, q5, hsl5⟩ : Slc a5 := htv.sta.slc
  subst hsl5
  obtain ⟨p6, n6, q6, hsl6⟩ : Slc a6 := htv.ign.slc
  subst hsl6
  obtain ⟨p7, n7, q7, hsl7⟩ : Slc a7 := htv.ext.slc
  subst hsl7
  obtain ⟨p8, n8, q8, hsl8⟩ : Slc a8 := htv.map.slc
  subst hsl8
  obtain ⟨p9, n9, q9, hsl9⟩ : Slc a9 := htv.dec.slc
  subst hsl9
  obtain ⟨p10, n10, q10, hsl10⟩ : Slc a10 := htv.exc.slc
  subst hsl10
  obtain ⟨p11, n11, q11, hsl11⟩ : Slc a11 := htv.pro.slc
  subst hsl11
  obtain ⟨x, hx⟩ : ∃ x : TV, x = ⟨.slice p0 n0 q0, .slice p1 n1 q1, .slice p2 n2 q2, .slice p3 n3 q3, .slice p4 n4 q4, .slice p5 n5 q5, .slice p6 n6 q6, .slice p7 n7 q7, .slice p8 n8 q8, .slice p9 n9 q9, .slice p10 n10 q10, .slice p11 n11 q11⟩ := ⟨_, rfl⟩
  have hb2 := (Below.refl w1.heap.size w1).alloc (Nat.le_refl _) (.cells (tabCells ⟨.slice p0 n0 q0, .slice p1 n1 q1, .slice p2 n2 q2, .slice p3 n3 q3, .slice p4 n4 q4, .slice p5 n5 q5, .slice p6 n6 q6, .slice p7 n7 q7, .slice p8 n8 q8, .slice p9 n9 q9, .slice p10 n10 q10, .slice p11 n11 q11⟩) 26)
  have HT2 : Hid (TabV (w1.alloc (.cells (tabCells ⟨.slice p0 n0 q0, .slice p1 n1 q1, .slice p2 n2 q2, .slice p3 n3 q3, .slice p4 n4 q4, .slice p5 n5 q5, .slice p6 n6 q6, .slice p7 n7 q7, .slice p8 n8 q8, .slice p9 n9 q9, .slice p10 n10 q10, .slice p11 n11 q11⟩) 26)) x T) := by unfold Hid; rw [hx]; exact htv.below hb2
  have HX2 : Hid (BoxT (w1.alloc (.cells (tabCells ⟨.slice p0 n0 q0, .slice p1 n1 q1, .slice p2 n2 q2, .slice p3 n3 q3, .slice p4 n4 q4, .slice p5 n5 q5, .slice p6 n6 q6, .slice p7 n7 q7, .slice p8 n8 q8, .slice p9 n9 q9, .slice p10 n10 q10, .slice p11 n11 q11⟩) 26)) w1.heap.size x) := by unfold Hid; rw [hx]; exact BoxT.new w1 _ _
  have HB2 := Lib.hid (hb1.trans (hb2.mono hb1.size))
  have HI2 := Lib.hid (HI.out.below (hb1.trans (hb2.mono hb1.size)))
  have HM := Lib.hid hm
  clear htv hm hb1 hb2
  simp only [tabCells] at HT2 HX2 HB2 HI2
  have HBP := Lib.hid HB2.out.size
  go_wp2_with fail
  refine (points_any p cap zs _ HI2.out HL.out).mono ?_
  rintro e w3 ⟨xs, v, rfl, hxl, _, hown, hb3⟩
  obtain ⟨pv, cv, N, hN, hv3, hin3⟩ : ∃ p c N, xs.length = N ∧ v = .slice p N c ∧ IntsIn w3 p xs := by obtain ⟨p, c, e, hin⟩ := hown.inn; exact ⟨p, c, _, rfl, e, hin⟩
  subst hv3
  obtain ⟨g, hg⟩ : ∃ g, w1.heap.size = g := ⟨_, rfl⟩
  have HE5 : Hid (MEnv w g x T pv xs w3) := ⟨HT2.out.below hb3, by rw [← hg]; exact HX2.out.below hb3, hin3, HB2.out.trans (hb3.mono HB2.out.size)⟩
  rw [hg]
  have hNl : N ≤ 1000 := by rw [← hN]; omega
  have HN := Lib.hid hN
  have HCK : Hid (checkT T = 0) := HM.out.check
  clear hb3 hown hin3 HT2 HX2 HB2 HBP HI2 hN hg hx hxl HM
  go_wp2
  go_loopw [17] (fun iv wr => ∃ j : Nat, j ≤ N ∧ iv = .int .i64 j ∧ Hid (MEnv w g x T pv xs wr)) (fun iv _ => N - (intOf iv).toNat)
  case atStart => exact ⟨0, Nat.zero_le _, rfl, HE5⟩
  case round =>
    obtain ⟨j, hj, rfl, henv⟩ := hrel
    clear HE5
    by_cases hjN : j < N
    · obtain ⟨b, off, rfl, hc⟩ := henv.out.ints j (by rw [HN.out]; exact hjN)
      obtain ⟨y, hy⟩ : ∃ y, xs.getD j 0 = y := ⟨_, rfl⟩
      rw [hy] at hc
      obtain ⟨⟨k0, k1, k2, k3, k4, k5⟩, ⟨k6, k7, k8, k9, k10, k11⟩⟩ := henv.out.box.load
      clear hy
      go_wp2_with fail
      refine (HPR.out x T y _ henv.out.tab HCK.out).mono ?_
      rintro e w6 ⟨rfl, hb6⟩
      have HE6 := Lib.hid (henv.out.step hb6)
      clear hb6 k0 k1 k2 k3 k4 k5 k6 k7 k8 k9 k10 k11 hc henv
      obtain ⟨⟨k0, k1, k2, k3, k4, k5⟩, ⟨k6, k7, k8, k9, k10, k11⟩⟩ := HE6.out.box.load
      go_wp2_with fail
      refine (HPR.out x T _ _ HE6.out.tab HCK.out).mono ?_
      rintro e w7 ⟨rfl, hb7⟩
      have HE7 := Lib.hid (HE6.out.step hb7)
      clear hb7 HE6 k0 k1 k2 k3 k4 k5 k6 k7 k8 k9 k10 k11
      go_wp2
      go_roundw
      case rel => exact ⟨j + 1, by omega, by go_num, HE7⟩
      case measure => simp [intOf]; omega
    · obtain rfl : j = N := by omega
      obtain ⟨q, HQ, q0, q1⟩ := pick_nm sh 64 (by omega)
      have hwq : IntKind.u64.wrap q = q := IntWalk.u64_in _ (by omega)
      go_upto_region 9 with (fail)
      obtain ⟨⟨k0, k1, k2, k3, k4, k5⟩, ⟨k6, k7, k8, k9, k10, k11⟩⟩ := henv.out.box.load
      have K0 := fun p => layB_cell k0 p
      have K1 := fun p => layB_cell k1 p
      have K2 := fun p => layB_cell k2 p
      have K3 := fun p => layB_cell k3 p
      have K4 := fun p => layB_cell k4 p
      have K5 := fun p => layB_cell k5 p
      have K6 := fun p => layB_cell k6 p
      have K7 := fun p => layB_cell k7 p
      have K8 := fun p => layB_cell k8 p
      have K9 := fun p => layB_cell k9 p
      have K10 := fun p => layB_cell k10 p
      have K11 := fun p => layB_cell k11 p
      clear k0 k1 k2 k3 k4 k5 k6 k7 k8 k9 k10 k11
      have HRW := Lib.hid (HR.out.below henv.out.bel)
      have c1 := fun p => layB_call (w := wr) (p := p) fun W2 hW2 => awake_any W2 (HRW.out.below hW2)
      have c2 := fun (c' : Int) p => layB_call (w := wr) (p := p) fun W2 hW2 => HPR.out x T c' W2 (henv.out.tab.below hW2) HCK.out
      have c3 := fun p => layB_call (w := wr) (p := p) fun W2 hW2 => (pick_at sh 64 q W2 (by omega) (by omega) HQ).mono fun _ _ h => (⟨h.1, h.2 ▸ Below.refl _ _⟩ : Gives (.int .i64 q) W2 _ _)
      simp only [TV.agg] at c2
      have C1 := Lib.hid c1
      have C2 := Lib.hid c2
      have C3 := Lib.hid c3
      clear c1 c2 c3
      refine wp_region_layB (by kernel_rfl) (by kernel_rfl) ?_
      repeat (go_big_quiet_step (first
        | (go_at_call 12; with_reducible exact C1.out _)
        | (go_at_call 16; with_reducible exact C2.out _ _)
        | (go_at_call 17; with_reducible exact C3.out _)))
      refine wpQuiet_nil ?_
      intro _ hw'
      obtain ⟨pq, hw''⟩ := hw'
      subst hw''
      have HEq := Lib.hid (henv.out.bel.trans ((layB_below wr pq).mono henv.out.bel.size))
      generalize layB wr pq = wq at HEq ⊢
      go_wp2
      go_ret
      exact ⟨by simp, HEq.out⟩

end Go.Proofs.YtmkaclfjekjabaaGreatDoor
