/-
  Reserved code points: no list speaks of them. The walk of TableFixed, for whoever knows the contract of properties.
-/
import Derived.Test.YtmkaclfjekjabaaGreatDoorQTblS
import Derived.Test.YtmkaclfjekjabaaGreatDoorPkH
import Derived.Test.YtmkaclfjekjabaaGreatDoorPkF
import Derived.Test.YtmkaclfjekjabaaGreatDoorQTabPropW
set_option linter.unusedSimpArgs false
set_option linter.unusedVariables false
namespace Go.Proofs.YtmkaclfjekjabaaGreatDoor
open Go.RowKit
set_option linter.unusedVariables false

theorem check0 {T : Tb} (h : checkT T = 0) : r1 T = true ∧ r2 T = true ∧ r3 T = true ∧ r4 T = true ∧ r5 T = true ∧ r6 T = true ∧ r7 T = true ∧ r8 T = true ∧ r9 T = true := by
  unfold checkT at h
  cases h1 : r1 T <;> cases h2 : r2 T <;> cases h3 : r3 T <;> cases h4 : r4 T <;> cases h5 : r5 T <;> cases h6 : r6 T <;> cases h7 : r7 T <;> cases h8 : r8 T <;> cases h9 : r9 T <;> simp [h1, h2, h3, h4, h5, h6, h7, h8, h9] at h <;> simp

theorem val_rsv {l : List Sp} {c : Int} (h : spOk l = true) (hc : resB c = true) : val l c = none := by
  have h2 : (l.all fun s => !resF s.1 s.2.1) = true := by unfold spOk at h; rw [Bool.and_eq_true] at h; exact h.2
  clear h
  induction l with
  | nil => rfl
  | cons s r ih =>
    rw [List.all_cons, Bool.and_eq_true, Bool.not_eq_true'] at h2
    have hno : ¬ (s.1 ≤ c ∧ c ≤ s.2.1) := by
      rintro ⟨h3, h4⟩
      have : resF s.1 s.2.1 = true := by
        rw [resB_iff] at hc
        rw [resF_iff]
        omega
      rw [this] at h2
      cases h2.1
    rw [val, if_neg hno]
    exact ih h2.2

theorem has_res {l : List Mp} {c : Int} (h : keyOk (froms l) = true) (hc : resB c = true) : hasM l c = false := by
  cases hh : hasM l c with
  | false => rfl
  | true =>
    obtain ⟨m, hm, e⟩ := hasM_iff.1 hh
    unfold keyOk at h
    rw [Bool.and_eq_true, List.all_eq_true] at h
    have := h.2 m.1 (List.mem_map.2 ⟨m, hm, rfl⟩)
    rw [e, hc] at this
    cases this

/-- What well-formed tables say of a reserved code point. -/
structure FixOk (T : Tb) (c : Int) : Prop where
  cat : catT T c = catT noT c
  cls : clsT T c = 0
  joi : joiT T c = 0
  bid : bidT T c = bidT noT c
  scr : scrT T c = scrT noT c
  sta : staT T c = staT noT c
  ign : ignT T c = false
  dec : hasM T.dec c = false

theorem fix_ok {T : Tb} {c : Int} (h : r2 T = true) (hc : resB c = true) : FixOk T c := by
  simp only [r2, spansT, Bool.and_eq_true, List.all_cons, List.all_nil] at h
  obtain ⟨⟨h0, h1, h2, h3, h4, h5, h6, _⟩, _, _, h7, _⟩ := h
  refine ⟨?_, ?_, ?_, ?_, ?_, ?_, ?_, has_res h7 hc⟩
  · unfold catT; rw [val_rsv h0 hc]; rfl
  · unfold clsT; rw [val_rsv h1 hc]; rfl
  · unfold joiT; rw [val_rsv h2 hc]; rfl
  · unfold bidT; rw [val_rsv h3 hc]; rfl
  · unfold scrT; rw [val_rsv h4 hc]; rfl
  · unfold staT; rw [val_rsv h5 hc]; rfl
  · unfold ignT; rw [val_rsv h6 hc]; rfl

set_option maxHeartbeats 2000000 in
theorem seqNil_at (v : Value) (l : List Mp) (c : Int) (w : World) (hv : MpV w v l) (ha : ascI 0 1114111 (froms l) = true) (hh : Hid (hasM l c = false)) :
    Calls Tryz.prog 81 #[v, .int .i64 c] w (Gives (.slice none 0 0) w) := by
  obtain ⟨p, cp, rfl, hin, hn⟩ := hv
  have HI := Lib.hid hin
  have HA := Lib.hid ha
  clear hin ha
  go_enter Tryz.func81, Tryz.ntmps81
  go_wp2_with fail
  refine (findMp_any _ l c _ ⟨p, cp, rfl, HI.out, hn⟩ HA.out).mono ?_
  rintro e w1 ⟨i, rfl, hi, hf, hb⟩
  rw [hh.out]
  have HB := Lib.hid hb
  clear hb hf
  go_wp2
  go_ret
  exact ⟨rfl, HB.out⟩

set_option maxHeartbeats 2000000 in
theorem decNil_at (x : TV) (T : Tb) (c : Int) (w : World) (hx : TabV w x T) (ha : ascI 0 1114111 (froms T.dec) = true) (hh : Hid (hasM T.dec c = false)) :
    Calls Tryz.prog 25 #[x.agg, .int .i64 c] w (Gives (.slice none 0 0) w) := by
  have HE := Lib.hid (Env.new hx)
  have k := HE.out.at9
  have HA := Lib.hid ha
  clear ha hx
  simp only [TV.agg]
  go_enter Tryz.func25, Tryz.ntmps25
  go_wp2_with fail
  refine (seqNil_at x.a9 T.dec c _ HE.out.tab.dec HA.out hh).mono ?_
  rintro e w1 ⟨rfl, hb⟩
  have HB := Lib.hid (HE.out.step hb)
  clear hb k
  go_wp2
  go_ret
  exact ⟨rfl, HB.out.bel⟩

/-- Tables in a box. -/
structure FEnv (w0 : World) (g : Nat) (x : TV) (T : Tb) (w : World) : Prop where
  tab : TabV w x T
  box : BoxT w g x
  bel : Below w0.heap.size w0 w
theorem FEnv.step {w0 w w' : World} {g : Nat} {x : TV} {T : Tb} (h : FEnv w0 g x T w) (hb : Below w.heap.size w w') : FEnv w0 g x T w' :=
  ⟨h.tab.below hb, h.box.below hb, h.bel.trans (hb.mono h.bel.size)⟩

theorem r2_noT : r2 noT = true := by decide

set_option maxRecDepth 100000 in
set_option maxHeartbeats 8000000 in
theorem tableFixed_of (hprop : PropOk) (p : Option Addr) (cap : Nat) (zs : List Int) (c : Int) (w : World) (hin : IntsIn w p zs) (hl : zs.length ≤ 17592186043904) (hr : Rsv w) :
    Calls Tryz.prog 5 #[.slice p zs.length cap, .int .i64 c] w (Gives (.bool true) w) := by
  have HI := Lib.hid hin
  have HL := Lib.hid hl
  have HR := Lib.hid hr
  have HPR := Lib.hid hprop
  obtain ⟨q0, HQ0, u0, w0⟩ := pick_nm c 128 (by omega)
  obtain ⟨q1, HQ1, u1, w1⟩ := pick_nm c 11172 (by omega)
  obtain ⟨q2, HQ2, u2, w2⟩ := pick_nm c 19 (by omega)
  obtain ⟨q3, HQ3, u3, w3⟩ := pick_nm c 21 (by omega)
  obtain ⟨q4, HQ4, u4, w4⟩ := pick_nm c 27 (by omega)
  obtain ⟨y1, hy1⟩ : ∃ y, 44032 + q1 = y := ⟨_, rfl⟩
  obtain ⟨y2, hy2⟩ : ∃ y, 4352 + q2 = y := ⟨_, rfl⟩
  obtain ⟨y3, hy3⟩ : ∃ y, 4449 + q3 = y := ⟨_, rfl⟩
  obtain ⟨y4, hy4⟩ : ∃ y, 4520 + q4 = y := ⟨_, rfl⟩
  have HRES : Hid (∀ y ∈ [q0, y1, y2, y3, y4], resB y = true) := by
    intro y hy
    simp only [List.mem_cons, List.not_mem_nil, or_false] at hy
    rw [resB_iff]
    omega
  have by1 : 0 ≤ y1 := by omega
  have bz1 : y1 ≤ 60000 := by omega
  have by2 : 0 ≤ y2 := by omega
  have bz2 : y2 ≤ 60000 := by omega
  have by3 : 0 ≤ y3 := by omega
  have bz3 : y3 ≤ 60000 := by omega
  have by4 : 0 ≤ y4 := by omega
  have bz4 : y4 ≤ 60000 := by omega
  clear u1 w1 u2 w2 u3 w3 u4 w4
  clear hin hl hr hprop
  go_enter Tryz.func5, Tryz.ntmps5
  go_wp2_with fail
  refine (tables_any p cap zs _ HI.out HL.out).mono ?_
  rintro e w1 ⟨⟨a0, a1, a2, a3, a4, a5, a6, a7, a8, a9, a10, a11⟩, T, rfl, htv, hm, _, hb1⟩
  obtain ⟨p0, n0, q0', hsl0⟩ : Slc a0 := htv.cat.slc
  subst hsl0
  obtain ⟨p1, n1, q1', hsl1⟩ : Slc a1 := htv.cls.slc
  subst hsl1
  obtain ⟨p2, n2, q2', hsl2⟩ : Slc a2 := htv.joi.slc
  subst hsl2
  obtain ⟨p3, n3, q3', hsl3⟩ : Slc a3 := htv.bid.slc
  subst hsl3
  obtain ⟨p4, n4, q4', hsl4⟩ : Slc a4 := htv.scr.slc
  subst hsl4
  obtain ⟨p5, n5, q5', hsl5⟩ : Slc a5 := htv.sta.slc
  subst hsl5
  obtain ⟨p6, n6, q6', hsl6⟩ : Slc a6 := htv.ign.slc
  subst hsl6
  obtain ⟨p7, n7, q7', hsl7⟩ : Slc a7 := htv.ext.slc
  subst hsl7
  obtain ⟨p8, n8, q8', hsl8⟩ : Slc a8 := htv.map.slc
  subst hsl8
  obtain ⟨p9, n9, q9', hsl9⟩ : Slc a9 := htv.dec.slc
  subst hsl9
  obtain ⟨p10, n10, q10', hsl10⟩ : Slc a10 := htv.exc.slc
  subst hsl10
  obtain ⟨p11, n11, q11', hsl11⟩ : Slc a11 := htv.pro.slc
  subst hsl11
  obtain ⟨x, hx⟩ : ∃ x : TV, x = ⟨.slice p0 n0 q0', .slice p1 n1 q1', .slice p2 n2 q2', .slice p3 n3 q3', .slice p4 n4 q4', .slice p5 n5 q5', .slice p6 n6 q6', .slice p7 n7 q7', .slice p8 n8 q8', .slice p9 n9 q9', .slice p10 n10 q10', .slice p11 n11 q11'⟩ := ⟨_, rfl⟩
  have hb2 := (Below.refl w1.heap.size w1).alloc (Nat.le_refl _) (.cells (tabCells ⟨.slice p0 n0 q0', .slice p1 n1 q1', .slice p2 n2 q2', .slice p3 n3 q3', .slice p4 n4 q4', .slice p5 n5 q5', .slice p6 n6 q6', .slice p7 n7 q7', .slice p8 n8 q8', .slice p9 n9 q9', .slice p10 n10 q10', .slice p11 n11 q11'⟩) 26)
  have HT2 : Hid (TabV (w1.alloc (.cells (tabCells ⟨.slice p0 n0 q0', .slice p1 n1 q1', .slice p2 n2 q2', .slice p3 n3 q3', .slice p4 n4 q4', .slice p5 n5 q5', .slice p6 n6 q6', .slice p7 n7 q7', .slice p8 n8 q8', .slice p9 n9 q9', .slice p10 n10 q10', .slice p11 n11 q11'⟩) 26)) x T) := by unfold Hid; rw [hx]; exact htv.below hb2
  have HX2 : Hid (BoxT (w1.alloc (.cells (tabCells ⟨.slice p0 n0 q0', .slice p1 n1 q1', .slice p2 n2 q2', .slice p3 n3 q3', .slice p4 n4 q4', .slice p5 n5 q5', .slice p6 n6 q6', .slice p7 n7 q7', .slice p8 n8 q8', .slice p9 n9 q9', .slice p10 n10 q10', .slice p11 n11 q11'⟩) 26)) w1.heap.size x) := by unfold Hid; rw [hx]; exact BoxT.new w1 _ _
  have HB2 := Lib.hid (hb1.trans (hb2.mono hb1.size))
  have HI2 := Lib.hid (HI.out.below (hb1.trans (hb2.mono hb1.size)))
  have HM := Lib.hid hm
  clear htv hm hb1 hb2
  simp only [tabCells] at HT2 HX2 HB2 HI2
  have HBP := Lib.hid HB2.out.size
  go_wp2_with fail
  refine (pick_at c 128 q0 _ (by omega) (by omega) HQ0).mono ?_
  rintro e w4 ⟨rfl, rfl⟩
  go_wp2_with fail
  refine (pick_at c 11172 q1 _ (by omega) (by omega) HQ1).mono ?_
  rintro e w4 ⟨rfl, rfl⟩
  go_wp2_with fail
  refine (pick_at c 19 q2 _ (by omega) (by omega) HQ2).mono ?_
  rintro e w4 ⟨rfl, rfl⟩
  go_wp2_with fail
  refine (pick_at c 21 q3 _ (by omega) (by omega) HQ3).mono ?_
  rintro e w4 ⟨rfl, rfl⟩
  go_wp2_with fail
  refine (pick_at c 27 q4 _ (by omega) (by omega) HQ4).mono ?_
  rintro e w4 ⟨rfl, rfl⟩
  obtain ⟨g, hg⟩ : ∃ g, w1.heap.size = g := ⟨_, rfl⟩
  have HE5 : Hid (FEnv w g x T (w1.alloc (.cells #[.slice p0 n0 q0', .slice p1 n1 q1', .slice p2 n2 q2', .slice p3 n3 q3', .slice p4 n4 q4', .slice p5 n5 q5', .slice p6 n6 q6', .slice p7 n7 q7', .slice p8 n8 q8', .slice p9 n9 q9', .slice p10 n10 q10', .slice p11 n11 q11'] 26))) := ⟨HT2.out, by rw [← hg]; exact HX2.out, HB2.out⟩
  rw [hg]
  generalize (w1.alloc (.cells #[.slice p0 n0 q0', .slice p1 n1 q1', .slice p2 n2 q2', .slice p3 n3 q3', .slice p4 n4 q4', .slice p5 n5 q5', .slice p6 n6 q6', .slice p7 n7 q7', .slice p8 n8 q8', .slice p9 n9 q9', .slice p10 n10 q10', .slice p11 n11 q11'] 26)) = W at HE5 ⊢
  have HCK : Hid (checkT T = 0) := HM.out.check
  have HR2 : Hid (r2 T = true) := (check0 HCK.out).2.1
  clear HT2 HX2 HB2 HBP HI2 hg hx HM
  go_wp2
  go_loopw [26] (fun iv wr => ∃ j : Nat, j ≤ 5 ∧ iv = .int .i64 j ∧ Hid (FEnv w g x T wr)) (fun iv _ => 5 - (intOf iv).toNat)
  case atStart => exact ⟨0, Nat.zero_le _, rfl, HE5⟩
  case round =>
    obtain ⟨j, hj, rfl, henv⟩ := hrel
    clear HE5
    by_cases hjN : j < 5
    · have hjs : j = 0 ∨ j = 1 ∨ j = 2 ∨ j = 3 ∨ j = 4 := by omega
      obtain ⟨y, hym, hix⟩ : ∃ y, y ∈ [q0, y1, y2, y3, y4] ∧ ∀ wq, (Instr.index 37 (.agg #[.int .i64 q0, .int .i64 y1, .int .i64 y2, .int .i64 y3, .int .i64 y4]) (.int .i64 j)).run Tryz.prog wq = .ok (.int .i64 y) wq := by
        rcases hjs with rfl | rfl | rfl | rfl | rfl
        · exact ⟨q0, by simp, fun wq => (show (Instr.index 37 (.agg #[.int .i64 q0, .int .i64 y1, .int .i64 y2, .int .i64 y3, .int .i64 y4]) (.int .i64 0)).run Tryz.prog wq = .ok (.int .i64 q0) wq by kernel_rfl)⟩
        · exact ⟨y1, by simp, fun wq => (show (Instr.index 37 (.agg #[.int .i64 q0, .int .i64 y1, .int .i64 y2, .int .i64 y3, .int .i64 y4]) (.int .i64 1)).run Tryz.prog wq = .ok (.int .i64 y1) wq by kernel_rfl)⟩
        · exact ⟨y2, by simp, fun wq => (show (Instr.index 37 (.agg #[.int .i64 q0, .int .i64 y1, .int .i64 y2, .int .i64 y3, .int .i64 y4]) (.int .i64 2)).run Tryz.prog wq = .ok (.int .i64 y2) wq by kernel_rfl)⟩
        · exact ⟨y3, by simp, fun wq => (show (Instr.index 37 (.agg #[.int .i64 q0, .int .i64 y1, .int .i64 y2, .int .i64 y3, .int .i64 y4]) (.int .i64 3)).run Tryz.prog wq = .ok (.int .i64 y3) wq by kernel_rfl)⟩
        · exact ⟨y4, by simp, fun wq => (show (Instr.index 37 (.agg #[.int .i64 q0, .int .i64 y1, .int .i64 y2, .int .i64 y3, .int .i64 y4]) (.int .i64 4)).run Tryz.prog wq = .ok (.int .i64 y4) wq by kernel_rfl)⟩
      clear hjs
      have HFX := Lib.hid (fix_ok HR2.out (HRES.out y hym))
      clear hym
      obtain ⟨z0, hz0⟩ : ∃ z, Hid (catT noT y = z) := ⟨_, rfl⟩
      obtain ⟨z3, hz3⟩ : ∃ z, Hid (bidT noT y = z) := ⟨_, rfl⟩
      obtain ⟨z4, hz4⟩ : ∃ z, Hid (scrT noT y = z) := ⟨_, rfl⟩
      obtain ⟨z5, hz5⟩ : ∃ z, Hid (staT noT y = z) := ⟨_, rfl⟩
      have hz0' : Hid (catT T y = z0) := HFX.out.cat.trans hz0.out
      have hz1' : Hid (clsT T y = 0) := HFX.out.cls
      have hz2' : Hid (joiT T y = 0) := HFX.out.joi
      have hz3' : Hid (bidT T y = z3) := HFX.out.bid.trans hz3.out
      have hz4' : Hid (scrT T y = z4) := HFX.out.scr.trans hz4.out
      have hz5' : Hid (staT T y = z5) := HFX.out.sta.trans hz5.out
      have hz6' : Hid (ignT T y = false) := HFX.out.ign
      have hz9' : Hid (hasM T.dec y = false) := HFX.out.dec
      have HSP := Lib.hid (r2_sp HR2.out)
      have HKY := Lib.hid (r2_key HR2.out)
      have HSN := Lib.hid (r2_sp r2_noT)
      go_upto_region 6 with (fail)
      obtain ⟨W2, hW2⟩ : ∃ W2 : World, W2 = wr.alloc (.cells (tabCells noX) 26) := ⟨_, rfl⟩
      obtain ⟨g2, hg2⟩ : ∃ g2, g2 = wr.heap.size := ⟨_, rfl⟩
      have hb2 : Below wr.heap.size wr W2 := by rw [hW2]; exact (Below.refl _ _).alloc (Nat.le_refl _) _
      have hxe : BoxT W2 g2 noX := by rw [hW2, hg2]; exact BoxT.new _ _ _
      have HE6 := Lib.hid (henv.out.step hb2)
      simp only [tabCells, noX] at hW2
      rw [← hW2, ← hg2]
      clear hW2 hg2 hb2 henv
      obtain ⟨⟨k0, k1, k2, k3, k4, k5⟩, ⟨k6, k7, k8, k9, k10, k11⟩⟩ := HE6.out.box.load
      have K0 := fun p => layB_cell k0 p
      have K1 := fun p => layB_cell k1 p
      have K2 := fun p => layB_cell k2 p
      have K3 := fun p => layB_cell k3 p
      have K4 := fun p => layB_cell k4 p
      have K5 := fun p => layB_cell k5 p
      have K6 := fun p => layB_cell k6 p
      have K7 := fun p => layB_cell k7 p
      have K8 := fun p => layB_cell k8 p
      have K9 := fun p => layB_cell k9 p
      have K10 := fun p => layB_cell k10 p
      have K11 := fun p => layB_cell k11 p
      clear k0 k1 k2 k3 k4 k5 k6 k7 k8 k9 k10 k11
      obtain ⟨⟨k0, k1, k2, k3, k4, k5⟩, ⟨k6, k7, k8, k9, k10, k11⟩⟩ := hxe.load
      simp only [noX] at k0 k1 k2 k3 k4 k5 k6 k7 k8 k9 k10 k11
      have E0 := fun p => layB_cell k0 p
      have E1 := fun p => layB_cell k1 p
      have E2 := fun p => layB_cell k2 p
      have E3 := fun p => layB_cell k3 p
      have E4 := fun p => layB_cell k4 p
      have E5 := fun p => layB_cell k5 p
      have E6 := fun p => layB_cell k6 p
      have E7 := fun p => layB_cell k7 p
      have E8 := fun p => layB_cell k8 p
      have E9 := fun p => layB_cell k9 p
      have E10 := fun p => layB_cell k10 p
      have E11 := fun p => layB_cell k11 p
      clear k0 k1 k2 k3 k4 k5 k6 k7 k8 k9 k10 k11 hxe
      have c0 := fun p => layB_call (w := W2) (p := p) fun W3 hW3 => category_at x T y z0 W3 (HE6.out.tab.below hW3) HSP.out.1 hz0'
      have d0 := fun p => layB_call (w := W2) (p := p) fun W3 hW3 => category_at noX noT y z0 W3 (noV W3) HSN.out.1 hz0
      have c1 := fun p => layB_call (w := W2) (p := p) fun W3 hW3 => class_at x T y 0 W3 (HE6.out.tab.below hW3) HSP.out.2.1 hz1'
      have c2 := fun p => layB_call (w := W2) (p := p) fun W3 hW3 => joining_at x T y 0 W3 (HE6.out.tab.below hW3) HSP.out.2.2.1 hz2'
      have c3 := fun p => layB_call (w := W2) (p := p) fun W3 hW3 => bidi_at x T y z3 W3 (HE6.out.tab.below hW3) HSP.out.2.2.2.1 hz3'
      have d3 := fun p => layB_call (w := W2) (p := p) fun W3 hW3 => bidi_at noX noT y z3 W3 (noV W3) HSN.out.2.2.2.1 hz3
      have c4 := fun p => layB_call (w := W2) (p := p) fun W3 hW3 => script_at x T y z4 W3 (HE6.out.tab.below hW3) HSP.out.2.2.2.2.1 hz4'
      have d4 := fun p => layB_call (w := W2) (p := p) fun W3 hW3 => script_at noX noT y z4 W3 (noV W3) HSN.out.2.2.2.2.1 hz4
      have c5 := fun p => layB_call (w := W2) (p := p) fun W3 hW3 => status_at x T y z5 W3 (HE6.out.tab.below hW3) HSP.out.2.2.2.2.2.1 hz5'
      have d5 := fun p => layB_call (w := W2) (p := p) fun W3 hW3 => status_at noX noT y z5 W3 (noV W3) HSN.out.2.2.2.2.2.1 hz5
      have c6 := fun p => layB_call (w := W2) (p := p) fun W3 hW3 => ignorable_at x T y false W3 (HE6.out.tab.below hW3) HSP.out.2.2.2.2.2.2 hz6'
      have c7 := fun p => layB_call (w := W2) (p := p) fun W3 hW3 => decNil_at x T y W3 (HE6.out.tab.below hW3) HKY.out.2.2.1 hz9'
      have d8 := fun p => layB_call (w := W2) (p := p) fun W3 hW3 => HPR.out noX noT y W3 (noV W3) no_check
      simp only [TV.agg, noX] at c0 d0 c1 c2 c3 d3 c4 d4 c5 d5 c6 c7 d8
      have Hc0 := Lib.hid c0
      have Hd0 := Lib.hid d0
      have Hc1 := Lib.hid c1
      have Hc2 := Lib.hid c2
      have Hc3 := Lib.hid c3
      have Hd3 := Lib.hid d3
      have Hc4 := Lib.hid c4
      have Hd4 := Lib.hid d4
      have Hc5 := Lib.hid c5
      have Hd5 := Lib.hid d5
      have Hc6 := Lib.hid c6
      have Hc7 := Lib.hid c7
      have Hd8 := Lib.hid d8
      clear c0 d0 c1 c2 c3 d3 c4 d4 c5 d5 c6 c7 d8
      refine wp_region_layB (by kernel_rfl) (by kernel_rfl) ?_
      repeat (go_big_quiet_step (first
        | (go_at_call 18; with_reducible exact Hc0.out _)
        | (go_at_call 18; with_reducible exact Hd0.out _)
        | (go_at_call 19; with_reducible exact Hc1.out _)
        | (go_at_call 20; with_reducible exact Hc2.out _)
        | (go_at_call 21; with_reducible exact Hc3.out _)
        | (go_at_call 21; with_reducible exact Hd3.out _)
        | (go_at_call 22; with_reducible exact Hc4.out _)
        | (go_at_call 22; with_reducible exact Hd4.out _)
        | (go_at_call 23; with_reducible exact Hc5.out _)
        | (go_at_call 23; with_reducible exact Hd5.out _)
        | (go_at_call 24; with_reducible exact Hc6.out _)
        | (go_at_call 25; with_reducible exact Hc7.out _)
        | (go_at_call 16; with_reducible exact Hd8.out _)))
      refine wpQuiet_nil ?_
      intro _ hw'
      obtain ⟨pq, hw''⟩ := hw'
      subst hw''
      have HEq := Lib.hid (HE6.out.step (layB_below W2 pq))
      generalize layB W2 pq = wq at HEq ⊢
      clear K0 K1 K2 K3 K4 K5 K6 K7 K8 K9 K10 K11 E0 E1 E2 E3 E4 E5 E6 E7 E8 E9 E10 E11 HE6 Hc0 Hd0 Hc1 Hc2 Hc3 Hd3 Hc4 Hd4 Hc5 Hd5 Hc6 Hc7 Hd8 hix
      go_wp2
      go_roundw
      case rel => exact ⟨j + 1, by omega, by go_num, HEq⟩
      case measure => simp [intOf]; omega
    · obtain rfl : j = 5 := by omega
      go_wp2_with fail
      refine (awake_any _ (HR.out.below henv.out.bel)).mono ?_
      rintro e w9 ⟨rfl, hb9⟩
      have hbe := henv.out.bel.trans (hb9.mono henv.out.bel.size)
      have HBE := Lib.hid hbe
      clear hb9 hbe
      go_wp2
      go_ret
      exact ⟨rfl, HBE.out⟩

end Go.Proofs.YtmkaclfjekjabaaGreatDoor
