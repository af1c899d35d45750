/-
  table: rules 7 and 9.
-/
import Derived.Test.YtmkaclfjekjabaaDoorTabP
namespace Go.Proofs.YtmkaclfjekjabaaDoor
open Go.RowKit

def notHas (T : Tb) (c : Int) : Bool := !hasM T.dec c

theorem exc1_any (c : Int) (g : Nat) (x : TV) (T : Tb) (w : World) (hb : BoxT w g x) (hx : TabV w x T) (ha : ascI 0 1114111 (froms T.dec) = true) :
    Calls Tryd.prog 69 #[.int .i64 c, .pointer (some ⟨g, 0, none⟩)] w (Gives (.bool (notHas T c)) w) := by
  obtain ⟨B, hB⟩ : ∃ B, Hid (hasM T.dec c = B) := ⟨_, rfl⟩
  have HN : Hid (notHas T c = !B) := by unfold Hid notHas; rw [hB.out]
  have HX := Lib.hid hx
  have HA := Lib.hid ha
  obtain ⟨⟨k0, k1, k2, k3, k4, k5⟩, ⟨k6, k7, k8, k9, k10, k11⟩⟩ := hb
  clear hx ha
  go_enter Tryd.func69, Tryd.ntmps69
  go_wp2_with fail
  refine (hasDecomp_at x T c B _ HX.out HA.out hB).mono ?_
  rintro e w1 ⟨rfl, hb1⟩
  have HB1 := Lib.hid hb1
  clear hb1
  go_wp2
  go_ret
  exact ⟨by rw [HN.out]; rfl, HB1.out⟩

theorem testExc (g : Nat) (x : TV) (T : Tb) (w : World) (hb : BoxT w g x) (hx : TabV w x T) (ha : ascI 0 1114111 (froms T.dec) = true) : TestI 69 #[.pointer (some ⟨g, 0, none⟩)] (notHas T) w :=
  fun c W hW => exc1_any c g x T W (hb.below hW) (hx.below hW) ha
theorem entersExc : ∀ args w, (callFunc 69 args).run Tryd.prog w = .ok (.enter 69 args) w := enters_of Tryd.func69 (by kernel_rfl) rfl

theorem exclDecomps_any (x : TV) (T : Tb) (w : World) (hx : TabV w x T) (ha : ascI 0 1114111 (froms T.dec) = true) :
    Calls Tryd.prog 22 #[x.agg] w (Gives (.bool (r7 T)) w) := by
  have HE := Lib.hid (Env.new hx)
  have HA := Lib.hid ha
  obtain ⟨B, hB⟩ : ∃ B, Hid (T.exc.any (notHas T) = B) := ⟨_, rfl⟩
  have HR : Hid (r7 T = !B) := by
    unfold Hid; rw [← not_any hB.out, r7]; congr 1; funext c; simp [notHas]
  clear hx ha
  simp only [TV.agg]
  go_enter Tryd.func22, Tryd.ntmps22
  go_wp2_with fail
  refine (conI_any x.a10 T.exc _ _ (notHas T) B _ HE.out.tab.exc (testExc w.heap.size x T _ HE.out.box HE.out.tab HA.out) entersExc hB).mono ?_
  rintro e w1 ⟨rfl, hb⟩
  have HE1 := Lib.hid (HE.out.step hb)
  clear hb
  go_wp2
  go_ret
  exact ⟨by rw [HR.out]; rfl, HE1.out.bel⟩

/-- Ignorable. -/
theorem ignorable_at (x : TV) (T : Tb) (c : Int) (B : Bool) (w : World) (hx : TabV w x T) (ha : ascB 0 T.ign = true) (hB : Hid (ignT T c = B)) :
    Calls Tryd.prog 101 #[x.agg, .int .i64 c] w (Gives (.bool B) w) := by
  have HE := Lib.hid (Env.new hx)
  have HA := Lib.hid ha
  clear hx ha
  simp only [TV.agg]
  go_enter Tryd.func101, Tryd.ntmps101
  go_wp2_with fail
  refine (findSpan_any x.a6 T.ign c _ HE.out.tab.ign HA.out).mono ?_
  rintro e w1 ⟨i, rfl, hi, _, hb⟩
  have HE1 := Lib.hid (HE.out.step hb)
  clear hb
  go_wp2
  go_ret
  exact ⟨by rw [← hB.out]; rfl, HE1.out.bel⟩

set_option maxHeartbeats 1000000 in
theorem plain_at (x : TV) (T : Tb) (c : Int) (B : Bool) (w : World) (hx : TabV w x T) (ha : ascI 0 1114111 (froms T.dec) = true) (hi : ascB 0 T.ign = true) (hB : Hid (plain T c = B)) :
    Calls Tryd.prog 72 #[x.agg, .int .i64 c] w (Gives (.bool B) w) := by
  have HE := Lib.hid (Env.new hx)
  have HA := Lib.hid ha
  have HI := Lib.hid hi
  obtain ⟨B1, hB1⟩ : ∃ B, Hid (hasM T.dec c = B) := ⟨_, rfl⟩
  obtain ⟨B2, hB2⟩ : ∃ B, Hid (ignT T c = B) := ⟨_, rfl⟩
  have HBB : Hid (B = (!B1 && !B2)) := by unfold Hid; rw [← hB.out, plain, hB1.out, hB2.out]
  clear hx ha hi
  simp only [TV.agg]
  go_enter Tryd.func72, Tryd.ntmps72
  go_wp2_with fail
  refine (hasDecomp_at x T c B1 _ HE.out.tab HA.out hB1).mono ?_
  rintro e w1 ⟨rfl, hb⟩
  have HE1 := Lib.hid (HE.out.step hb)
  clear hb
  cases B1 with
  | true =>
    go_wp2
    go_ret
    exact ⟨by rw [HBB.out]; rfl, HE1.out.bel⟩
  | false =>
    obtain ⟨⟨k0, k1, k2, k3, k4, k5⟩, ⟨k6, k7, k8, k9, k10, k11⟩⟩ := HE1.out.box
    go_wp2_with fail
    refine (ignorable_at x T c B2 _ HE1.out.tab HI.out hB2).mono ?_
    rintro e w2 ⟨rfl, hb⟩
    have HE2 := Lib.hid (HE1.out.step hb)
    clear hb k0 k1 k2 k3 k4 k5 k6 k7 k8 k9 k10 k11
    go_wp2
    go_ret
    exact ⟨by rw [HBB.out]; rfl, HE2.out.bel⟩

def proC (T : Tb) (c : Int) : Bool := !hasM T.pro c && (!sylB c && plain T c)
theorem proOk_parts {T : Tb} {f : Int} {y : List Int} : proOk T (f, y) = (plain T f && y.all (proC T)) := rfl

set_option maxRecDepth 100000 in
set_option maxHeartbeats 8000000 in
theorem protos_any (x : TV) (T : Tb) (w : World) (hx : TabV w x T) (hd : ascI 0 1114111 (froms T.dec) = true) (hp : ascI 0 1114111 (froms T.pro) = true) (ha : ascB 0 T.ign = true) :
    Calls Tryd.prog 24 #[x.agg] w (Gives (.bool (r9 T)) w) := by
  obtain ⟨a0, a1, a2, a3, a4, a5, a6, a7, a8, a9, a10, a11⟩ := x
  obtain ⟨pm, cm, hm, hmin, hml⟩ := hx.pro
  obtain ⟨n, hn⟩ : ∃ n, T.pro.length = n := ⟨_, rfl⟩
  rw [hn] at hm hml
  simp only at hm
  subst hm
  have HE := Lib.hid (Env.new hx)
  have HA := Lib.hid ha
  have HD := Lib.hid hd
  have HP := Lib.hid hp
  have HN := Lib.hid hn
  have HMI := Lib.hid hmin
  clear hx ha hd hp hn hmin
  simp only [TV.agg]
  go_enter Tryd.func24, Tryd.ntmps24
  go_wp2
  go_loopw [12] (fun i wr => ∃ k : Nat, k ≤ n ∧ i = .int .i64 k ∧ Hid ((T.pro.take k).all (proOk T) = true) ∧ Hid (Env w ⟨a0, a1, a2, a3, a4, a5, a6, a7, a8, a9, a10, .slice pm n cm⟩ T wr)) (fun i _ => n - (intOf i).toNat)
  case atStart => exact ⟨0, Nat.zero_le _, rfl, by simp [Hid], HE⟩
  case round =>
    obtain ⟨k, hk, rfl, hall, he⟩ := hrel
    by_cases hlt : k < n
    · have hkl : k < T.pro.length := by rw [HN.out]; exact hlt
      obtain ⟨b, off, v, rfl, hc1, hc2, qa, cq, rfl, hi2, hm2⟩ := (HMI.out.below he.out.bel) k hkl
      have hsn := all_take_snoc (proOk T) T.pro k mp0 hkl
      rw [hall.out, Bool.true_and] at hsn
      have hno : proOk T (T.pro.getD k mp0) = false → r9 T = false := fun h => all_of_take _ T.pro (k + 1) (by rw [hsn, h])
      obtain ⟨⟨f, y⟩, hs⟩ : ∃ s, T.pro.getD k mp0 = s := ⟨_, rfl⟩
      rw [hs] at hc1 hc2 hsn hno hi2 hm2
      simp only at hc1 hc2 hsn hno hi2 hm2
      rw [proOk_parts] at hsn hno
      obtain ⟨m, hm3⟩ : ∃ m, y.length = m := ⟨_, rfl⟩
      rw [hm3] at hc2 hm2
      have HSN := Lib.hid hsn
      have HNO := Lib.hid hno
      have HYL := Lib.hid hm3
      have hb0 : Below wr.heap.size wr (wr.alloc (.cells #[.int .i64 f, .slice qa m cq] 39)) := (Below.refl _ _).alloc (Nat.le_refl _) _
      have HEb := Lib.hid (he.out.step hb0)
      have HBM := Lib.hid (BoxM.new wr f (.slice qa m cq) 39)
      have HY1 := Lib.hid (RowIn.alloc hi2 (.cells #[.int .i64 f, .slice qa m cq] 39))
      obtain ⟨z, hz⟩ : ∃ z, Hid (plain T f = z) := ⟨_, rfl⟩
      clear hs hsn hno hi2 hm3 hb0
      have hbx := HEb.out.box
      simp only [BoxT] at hbx
      obtain ⟨⟨k0, k1, k2, k3, k4, k5⟩, ⟨k6, k7, k8, k9, k10, k11⟩⟩ := hbx
      go_wp2_with fail
      refine (plain_at _ T f z _ HEb.out.tab HD.out HA.out hz).mono ?_
      rintro e w2 ⟨rfl, hb2⟩
      have HE2 := Lib.hid (HEb.out.step hb2)
      have HBM2 := Lib.hid (HBM.out.below hb2)
      have HY2 := Lib.hid (HY1.out.below hb2)
      clear hb2 k0 k1 k2 k3 k4 k5 k6 k7 k8 k9 k10 k11 hc1 hc2
      cases z with
      | false =>
        have HFF : Hid (r9 T = false) := HNO.out (by rw [hz.out]; rfl)
        go_wp2
        go_ret
        rw [HFF.out]
        exact ⟨rfl, HE2.out.bel⟩
      | true =>
        have hbm := HBM2.out
        simp only [BoxM] at hbm
        obtain ⟨c1, c2⟩ := hbm
        go_wp2
        obtain ⟨wo, rfl⟩ : ∃ wo : World, wo = w2 := ⟨_, rfl⟩
        go_loopw [24] (fun i wr2 => ∃ j : Nat, j ≤ m ∧ i = .int .i64 j ∧ Hid ((y.take j).all (proC T) = true) ∧ Hid (Env w ⟨a0, a1, a2, a3, a4, a5, a6, a7, a8, a9, a10, .slice (some ⟨b, off, none⟩) n cm⟩ T wr2) ∧ Hid (IntsIn wr2 qa y)) (fun i _ => m - (intOf i).toNat)
        case atStart => exact ⟨0, Nat.zero_le _, rfl, by simp [Hid], HE2, HY2⟩
        case round =>
          obtain ⟨j, hj, rfl, hall2, he2, hy2⟩ := hrel
          clear c1 c2
          by_cases hlt2 : j < m
          · have hjl : j < y.length := by rw [HYL.out]; exact hlt2
            obtain ⟨b3, off3, rfl, hc3⟩ := hy2.out j hjl
            have hs2 := all_take_snoc (proC T) y j 0 hjl
            rw [hall2.out, Bool.true_and] at hs2
            obtain ⟨c, hcc⟩ : ∃ c, y.getD j 0 = c := ⟨_, rfl⟩
            rw [hcc] at hc3 hs2
            obtain ⟨B1, hB1⟩ : ∃ B, Hid (hasM T.pro c = B) := ⟨_, rfl⟩
            obtain ⟨B2, hB2⟩ : ∃ B, Hid (sylB c = B) := ⟨_, rfl⟩
            obtain ⟨B3, hB3⟩ : ∃ B, Hid (plain T c = B) := ⟨_, rfl⟩
            rw [proC, hB1.out, hB2.out, hB3.out] at hs2
            have HS2 := Lib.hid hs2
            have HNOC : Hid ((!B1 && (!B2 && B3)) = false → r9 T = false) := fun h => HNO.out (by
              rw [all_of_take (proC T) y (j + 1) (by rw [HS2.out, h]), Bool.and_false])
            have hbx := he2.out.box
            simp only [BoxT] at hbx
            obtain ⟨_, ⟨_, _, _, _, _, k11⟩⟩ := hbx
            clear hcc hs2
            go_wp2_with fail
            refine (findMp_any _ T.pro c _ he2.out.tab.pro HP.out).mono ?_
            rintro e w3 ⟨i3, rfl, _, _, hb3⟩
            have HE3 := Lib.hid (he2.out.step hb3)
            have HY3 := Lib.hid (hy2.out.below hb3)
            rw [hB1.out]
            clear hb3 k11 hc3
            cases B1 with
            | true =>
              have HFF := Lib.hid (HNOC.out rfl)
              go_wp2
              go_ret
              rw [HFF.out]
              exact ⟨rfl, HE3.out.bel⟩
            | false =>
              have hsy := syl_any c w3
              rw [hB2.out] at hsy
              have HSY := Lib.hid hsy
              clear hsy
              cases B2 with
              | true =>
                have HFF := Lib.hid (HNOC.out rfl)
                go_wp2_with (go_at_call 74; refine HSY.out.mono ?_; rintro e w' ⟨rfl, rfl⟩)
                go_ret
                rw [HFF.out]
                exact ⟨rfl, HE3.out.bel⟩
              | false =>
                have hbx := HE3.out.box
                simp only [BoxT] at hbx
                obtain ⟨⟨k0, k1, k2, k3, k4, k5⟩, ⟨k6, k7, k8, k9, k10, k11⟩⟩ := hbx
                go_wp2_with (go_at_call 74; refine HSY.out.mono ?_; rintro e w' ⟨rfl, rfl⟩)
                refine (plain_at _ T c B3 _ HE3.out.tab HD.out HA.out hB3).mono ?_
                rintro e w4 ⟨rfl, hb4⟩
                have HE4 := Lib.hid (HE3.out.step hb4)
                have HY4 := Lib.hid (HY3.out.below hb4)
                clear hb4 k0 k1 k2 k3 k4 k5 k6 k7 k8 k9 k10 k11
                cases B3 with
                | false =>
                  have HFF := Lib.hid (HNOC.out rfl)
                  go_wp2
                  go_ret
                  rw [HFF.out]
                  exact ⟨rfl, HE4.out.bel⟩
                | true =>
                  have HT : Hid ((y.take (j + 1)).all (proC T) = true) := HS2.out
                  go_wp2
                  go_roundw
                  case rel => exact ⟨j + 1, by omega, by go_num, HT, HE4, HY4⟩
                  case measure => simp [intOf]; omega
          · obtain rfl : j = m := by omega
            have HT : Hid ((T.pro.take (k + 1)).all (proOk T) = true) := by
              have h := hall2.out
              rw [List.take_of_length_le (Nat.le_of_eq HYL.out)] at h
              unfold Hid; rw [HSN.out, hz.out, h]; rfl
            go_wp2
            go_roundw
            case rel => exact ⟨k + 1, by omega, by go_num, HT, he2⟩
            case measure => simp [intOf]; omega
    · obtain rfl : k = n := by omega
      have HT : Hid (r9 T = true) := by
        have := hall.out
        rwa [List.take_of_length_le (Nat.le_of_eq HN.out)] at this
      go_wp2
      go_ret
      rw [HT.out]
      exact ⟨rfl, he.out.bel⟩

end Go.Proofs.YtmkaclfjekjabaaDoor
