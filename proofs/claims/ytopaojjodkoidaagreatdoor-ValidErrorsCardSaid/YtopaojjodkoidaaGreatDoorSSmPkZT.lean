/- compose: hasDecomp, isComposable, firstOfFull, isBlocked, pa -/
import Derived.Test.YtopaojjodkoidaaGreatDoorSSmPkZS
import Derived.Test.YtopaojjodkoidaaGreatDoorSSmPkZ
import Derived.Test.YtopaojjodkoidaaGreatDoorSSmTabRM
import Derived.Deep.RegionHeld3
import Derived.StillTailTactics
import Derived.Test.YtopaojjodkoidaaGreatDoorSSmPkS
import Derived.BigQuiet
set_option linter.unusedSimpArgs false
set_option linter.unusedVariables false
namespace Go.Proofs.YtopaojjodkoidaaGreatDoor
open Go.RowKit
theorem cmpH0 {T : Tb} (h : checkT T = 0) : CmpH T := by
 obtain ⟨h1, h2, h3, h4, h6⟩ := check_rules h
 exact cmpH_of h1 h2 h3 h4 h6
set_option maxRecDepth 100000 in
set_option maxHeartbeats 2000000 in
theorem chas_at (x : TV) (T : Tb) (c : Int) (B : Bool) (w : World) (hx : TabV w x T) (ha : ascI 0 1114111 (froms T.dec) = true) (hB : Hid (decide (findM T.dec c ≠ []) = B)) :
 Calls Tryz.prog 143 #[x.agg, .int .i64 c] w (Gives (.bool B) w) := by
 obtain ⟨L, hL⟩ : ∃ L, Hid (findM T.dec c = L) := ⟨_, rfl⟩
 have HE := Lib.hid (Env.new hx)
 have HA := Lib.hid ha
 clear hx ha
 simp only [TV.agg]
 go_enter Tryz.func143, Tryz.ntmps143
 obtain ⟨⟨k0, k1, k2, k3, k4, k5⟩, ⟨k6, k7, k8, k9, k10, k11⟩⟩ := HE.out.box.load
 go_wp2_with fail
 refine (tdecomp_own x T c L _ HE.out.tab HA.out hL).mono ?_
 rintro e w1 ⟨v1, rfl, ho1, hb⟩
 obtain ⟨p1, c1, rfl, hi1⟩ := ho1.inn
 replace HE := Lib.hid (HE.out.step hb)
 obtain ⟨n, hn⟩ : ∃ n, L.length = n := ⟨_, rfl⟩
 rw [hn]
 have HN := Lib.hid hn
 clear ho1 hi1 hb hn k0 k1 k2 k3 k4 k5 k6 k7 k8 k9 k10 k11
 by_cases h0 : 0 < n
 ·have d0 : decide ((0 : Int) < (n : Int)) = true := decide_eq_true (by omega)
  have HBB : Hid (B = true) := by unfold Hid; rw [← hB.out, hL.out]; exact decide_eq_true (fun e => by have := HN.out; rw [e] at this; simp at this; omega)
  go_wp2
  go_ret
  rw [HBB.out]
  exact ⟨rfl, HE.out.bel⟩
 ·obtain rfl : n = 0 := by omega
  have HBB : Hid (B = false) := by unfold Hid; rw [← hB.out, hL.out, List.eq_nil_of_length_eq_zero HN.out]; rfl
  go_wp2
  go_ret
  rw [HBB.out]
  exact ⟨rfl, HE.out.bel⟩
set_option maxRecDepth 100000 in
set_option maxHeartbeats 8000000 in
theorem ccomp_short (x : TV) (T : Tb) (f : Int) (w : World) (hx : TabV w x T) (ha : ascI 0 1114111 (froms T.dec) = true) (hy : (findM T.dec f).length ≠ 2) :
 Calls Tryz.prog 115 #[x.agg, .int .i64 f] w (Gives (.bool (compT T f)) w) := by
 have HE := Lib.hid (Env.new hx)
 have HC : Hid (compT T f = false) := compT_not hy
 have HA := Lib.hid ha
 obtain ⟨L, hL⟩ : ∃ L, Hid (findM T.dec f = L) := ⟨_, rfl⟩
 rw [hL.out] at hy
 clear hx ha
 simp only [TV.agg]
 go_enter Tryz.func115, Tryz.ntmps115
 obtain ⟨⟨k0, k1, k2, k3, k4, k5⟩, ⟨k6, k7, k8, k9, k10, k11⟩⟩ := HE.out.box.load
 go_wp2_with fail
 refine (tdecomp_own x T f L _ HE.out.tab HA.out hL).mono ?_
 rintro e w1 ⟨v1, rfl, ho1, hb⟩
 obtain ⟨p1, c1, rfl, hi1⟩ := ho1.inn
 replace HE := Lib.hid (HE.out.step hb)
 obtain ⟨n, hn⟩ : ∃ n, L.length = n := ⟨_, rfl⟩
 rw [hn] at hy ⊢
 have hd : ((n : Int) != 2) = true := by simp; omega
 clear ho1 hi1 hb hn k0 k1 k2 k3 k4 k5 k6 k7 k8 k9 k10 k11
 go_wp2
 go_ret
 rw [HC.out]
 exact ⟨rfl, HE.out.bel⟩
set_option maxRecDepth 100000 in
set_option maxHeartbeats 16000000 in
theorem ccomp_any (T : Tb) (h : checkT T = 0) (k : Nat) : ∀ (x : TV) (f : Int) (w : World), Dp T.dec k f → TabV w x T →
 Calls Tryz.prog 115 #[x.agg, .int .i64 f] w (Gives (.bool (compT T f)) w) := by
 have HH := Lib.hid (cmpH0 h)
 have HV := Lib.hid h
 clear h
 induction k with
 | zero =>
  intro x f w hd hx
  exact ccomp_short x T f w hx HH.out.dec (by rw [show findM T.dec f = [] from hd]; simp)
 | succ k ih0 =>
  have IH := Lib.hid ih0
  clear ih0
  intro x f w hd hx
  by_cases hy : (findM T.dec f).length = 2
  ·obtain ⟨a, b, hf⟩ : ∃ a b, findM T.dec f = [a, b] := by
    match findM T.dec f, hy with
    | [a, b], _ => exact ⟨a, b, rfl⟩
   have hcomp := compT_two (HH.out.dp f) hf
   have hda : Dp T.dec k a := hd a (by rw [hf]; simp)
   obtain ⟨C, hC⟩ : ∃ C, compT T f = C := ⟨_, rfl⟩
   obtain ⟨BX, hBX⟩ : ∃ B, Hid (excT T f = B) := ⟨_, rfl⟩
   obtain ⟨zf, hzf⟩ : ∃ z, Hid (clsT T f = z) := ⟨_, rfl⟩
   obtain ⟨za, hza⟩ : ∃ z, Hid (clsT T a = z) := ⟨_, rfl⟩
   obtain ⟨zb, hzb⟩ : ∃ z, Hid (clsT T b = z) := ⟨_, rfl⟩
   obtain ⟨Bb, hBb⟩ : ∃ B, Hid (decide (findM T.dec b ≠ []) = B) := ⟨_, rfl⟩
   obtain ⟨Ba, hBa⟩ : ∃ B, Hid (decide (findM T.dec a ≠ []) = B) := ⟨_, rfl⟩
   obtain ⟨Ca, hCa⟩ : ∃ B, Hid (compT T a = B) := ⟨_, rfl⟩
   obtain ⟨zl, hzl⟩ : ∃ z, Hid (clsT T (lastF T.dec a) = z) := ⟨_, rfl⟩
   rw [hBX.out, hzf.out, hza.out, hzb.out, has_find HH.out b, has_find HH.out a, hBb.out, hBa.out, hCa.out, hzl.out, hC] at hcomp
   rw [hC]
   have hbp : 0 ≤ zb := by rw [← hzb.out]; exact HH.out.pos b
   have HCOMP := Lib.hid hcomp
   have HDA := Lib.hid hda
   have HF : Hid (findM T.dec f = [a, b]) := hf
   have HE := Lib.hid (Env.new hx)
   clear hcomp hC hda hd hx hf hy
   simp only [TV.agg]
   go_enter Tryz.func115, Tryz.ntmps115
   obtain ⟨⟨k0, k1, k2, k3, k4, k5⟩, ⟨k6, k7, k8, k9, k10, k11⟩⟩ := HE.out.box.load
   go_wp2_with fail
   refine (tdecomp_own x T f [a, b] _ HE.out.tab HH.out.dec HF).mono ?_
   rintro e w1 ⟨v1, rfl, ho1, hb⟩
   obtain ⟨p1, c1, rfl, hi1⟩ := ho1.inn
   obtain ⟨b3, off3, rfl, q0⟩ := hi1 0 (by simp)
   obtain ⟨b3', off3', e3, q1⟩ := hi1 1 (by simp)
   injection e3 with e3
   injection e3 with e4 e5
   subst e4; subst e5
   simp only [List.getD_cons_zero, List.getD_cons_succ, Nat.add_zero, List.length_cons, List.length_nil, Nat.zero_add] at q0 q1 ⊢
   replace HE := Lib.hid (HE.out.step hb)
   have HQ := Lib.hid (show w1.cell? ⟨b3, off3, none⟩ = some (.int .i64 a) ∧ w1.cell? ⟨b3, off3 + 1, none⟩ = some (.int .i64 b) from ⟨q0, q1⟩)
   clear ho1 hi1 hb q0 q1 k0 k1 k2 k3 k4 k5 k6 k7 k8 k9 k10 k11
   obtain ⟨⟨k0, k1, k2, k3, k4, k5⟩, ⟨k6, k7, k8, k9, k10, k11⟩⟩ := HE.out.box.load
   go_wp2_with fail
   refine (excluded_at _ T f BX _ HE.out.tab HH.out.exc hBX).mono ?_
   rintro e w2 ⟨rfl, hb⟩
   replace HE := Lib.hid (HE.out.step hb)
   replace HQ := Lib.hid (two_below HQ.out hb)
   clear hb k0 k1 k2 k3 k4 k5 k6 k7 k8 k9 k10 k11
   cases BX with
   | true =>
    go_wp2
    go_ret
    exact ⟨by rw [HCOMP.out]; rfl, HE.out.bel⟩
   | false =>
    obtain ⟨r0, r1⟩ := HQ.out
    go_wp2
    go_quiet (fail)
    generalize hwq : World.drewN w2 _ = w3
    have hq : Below w2.heap.size w2 w3 := by rw [← hwq]; exact drew_ref _ _
    replace HE := Lib.hid (HE.out.step hq)
    clear hwq hq r0 r1 HQ
    obtain ⟨⟨k0, k1, k2, k3, k4, k5⟩, ⟨k6, k7, k8, k9, k10, k11⟩⟩ := HE.out.box.load
    go_wp2_with fail
    refine (class_at _ T f zf _ HE.out.tab HH.out.cls hzf).mono ?_
    rintro e w4 ⟨rfl, hb⟩
    replace HE := Lib.hid (HE.out.step hb)
    clear hb k0 k1 k2 k3 k4 k5 k6 k7 k8 k9 k10 k11
    by_cases hz1 : zf = 0
    ·have d1 : (zf != 0) = false := by simp [hz1]
     have HZ1 := Lib.hid hz1
     clear hz1
     obtain ⟨⟨k0, k1, k2, k3, k4, k5⟩, ⟨k6, k7, k8, k9, k10, k11⟩⟩ := HE.out.box.load
     go_wp2_with fail
     refine (class_at _ T a za _ HE.out.tab HH.out.cls hza).mono ?_
     rintro e w5 ⟨rfl, hb⟩
     replace HE := Lib.hid (HE.out.step hb)
     clear hb k0 k1 k2 k3 k4 k5 k6 k7 k8 k9 k10 k11
     by_cases hz2 : za = 0
     ·have d2 : (za != 0) = false := by simp [hz2]
      have HZ2 := Lib.hid hz2
      clear hz2
      obtain ⟨⟨k0, k1, k2, k3, k4, k5⟩, ⟨k6, k7, k8, k9, k10, k11⟩⟩ := HE.out.box.load
      go_wp2_with fail
      refine (chas_at _ T b Bb _ HE.out.tab HH.out.dec hBb).mono ?_
      rintro e w6 ⟨rfl, hb⟩
      replace HE := Lib.hid (HE.out.step hb)
      clear hb k0 k1 k2 k3 k4 k5 k6 k7 k8 k9 k10 k11
      cases Bb with
      | true =>
       go_wp2
       go_ret
       exact ⟨by rw [HCOMP.out]; simp, HE.out.bel⟩
      | false =>
       obtain ⟨⟨k0, k1, k2, k3, k4, k5⟩, ⟨k6, k7, k8, k9, k10, k11⟩⟩ := HE.out.box.load
       go_wp2_with fail
       refine (chas_at _ T a Ba _ HE.out.tab HH.out.dec hBa).mono ?_
       rintro e w7 ⟨rfl, hb⟩
       replace HE := Lib.hid (HE.out.step hb)
       clear hb k0 k1 k2 k3 k4 k5 k6 k7 k8 k9 k10 k11
       cases Ba with
       | false =>
        have HCT : Hid (C = true) := by
         have hfa : findM T.dec a = [] := by
          have := hBa.out
          simp only [decide_eq_false_iff_not, ne_eq, Classical.not_not] at this
          exact this
         have hl : zl = za := by rw [← hzl.out, lastF_nil hfa, hza.out]
         unfold Hid
         rw [HCOMP.out, HZ1.out, HZ2.out, hl, HZ2.out]
         simp; omega
        go_wp2
        go_ret
        exact ⟨by rw [HCT.out]; rfl, HE.out.bel⟩
       | true =>
        obtain ⟨⟨k0, k1, k2, k3, k4, k5⟩, ⟨k6, k7, k8, k9, k10, k11⟩⟩ := HE.out.box.load
        go_wp2_with fail
        have hih := IH.out x a _ HDA.out HE.out.tab
        rw [hCa.out] at hih
        refine hih.mono ?_
        rintro e w8 ⟨rfl, hb⟩
        replace HE := Lib.hid (HE.out.step hb)
        clear hb hih k0 k1 k2 k3 k4 k5 k6 k7 k8 k9 k10 k11
        cases Ca with
        | false =>
         have HCT : Hid (C = false) := by unfold Hid; rw [HCOMP.out]; simp
         go_wp2
         go_ret
         exact ⟨by rw [HCT.out]; rfl, HE.out.bel⟩
        | true =>
         obtain ⟨e0, e1, hfa, _, _, he1, _⟩ := comp_two HV.out hCa.out
         have hlast := lastF_two (HH.out.dp a) hfa he1.2.1
         have HZL : Hid (clsT T e1 = zl) := by unfold Hid; rw [← hlast]; exact hzl.out
         have HFA : Hid (findM T.dec a = [e0, e1]) := hfa
         have HCX : Hid (C = (decide (zb = 0) || decide (zl ≤ zb))) := by
          unfold Hid; rw [HCOMP.out, HZ1.out, HZ2.out]; simp
         clear hfa he1 hlast
         go_upto_region 10 with (fail)
         go_cut [8, 9] (fun u v wx => u = .int .i64 e1 ∧ v = .int .i64 zb ∧ Hid (Env w x T wx))
         case first =>
          have hed := HE.out.step (drew_one w8)
          have HED := Lib.hid hed
          clear hed
          obtain ⟨⟨k0, k1, k2, k3, k4, k5⟩, ⟨k6, k7, k8, k9, k10, k11⟩⟩ := HED.out.box.load
          go_region_with (first
           | (go_at_call 139; (with_reducible refine (tdecomp_own x T a [e0, e1] _ HED.out.tab HH.out.dec HFA).mono ?_); rintro e w9 ⟨v9, rfl, ho9, hb3⟩; obtain ⟨p9, c9, e9, hi9⟩ := ho9.inn; subst e9; obtain ⟨b9, off9, e9, s9⟩ := hi9 1 (by simp); subst e9; simp only [List.getD_cons_zero, List.getD_cons_succ, List.length_cons, List.length_nil, Nat.zero_add] at s9 ⊢; obtain ⟨⟨m0, m1, m2, m3, m4, m5⟩, ⟨m6, m7, m8, m9, m10, m11⟩⟩ := (HED.out.step hb3).box.load)
           | (go_at_call 83; (with_reducible refine (class_at x T b zb _ HED.out.tab HH.out.cls hzb).mono ?_); rintro e w10 ⟨rfl, hb4⟩; obtain ⟨⟨m0, m1, m2, m3, m4, m5⟩, ⟨m6, m7, m8, m9, m10, m11⟩⟩ := (HED.out.step hb4).box.load)
           | (go_at_call 83; (with_reducible refine (class_at x T b zb _ (HED.out.step hb3).tab HH.out.cls hzb).mono ?_); rintro e w10 ⟨rfl, hb4⟩; have s10 := (hb4.cell (World.block_lt_of_cell? _ _ s9)).trans s9)
           | (go_at_call 139; (with_reducible refine (tdecomp_own x T a [e0, e1] _ (HED.out.step hb4).tab HH.out.dec HFA).mono ?_); rintro e w9 ⟨v9, rfl, ho9, hb3⟩; obtain ⟨p9, c9, e9, hi9⟩ := ho9.inn; subst e9; obtain ⟨b9, off9, e9, s9⟩ := hi9 1 (by simp); subst e9; simp only [List.getD_cons_zero, List.getD_cons_succ, List.length_cons, List.length_nil, Nat.zero_add] at s9 ⊢)
           | fail)
          all_goals
           first
            | (have hf := (HED.out.step hb3).step hb4
               try (go_wp2_with fail)
               go_meet
               exact ⟨rfl, rfl, hf⟩)
            | (have hf := (HED.out.step hb4).step hb3
               try (go_wp2_with fail)
               go_meet
               exact ⟨rfl, rfl, hf⟩)
            | fail
         case rest =>
          obtain ⟨rfl, rfl, HE⟩ := hcut
          generalize wc = w9 at HE ⊢
          by_cases hzb0 : zb = 0
          ·have d3 : (zb == 0) = true := by simp [hzb0]
           have HCT : Hid (C = true) := by unfold Hid; rw [HCX.out, hzb0]; simp
           clear hzb0
           go_wp2
           go_ret
           exact ⟨by rw [HCT.out]; rfl, HE.out.bel⟩
          ·have d3 : (zb == 0) = false := by simp [hzb0]
           have HCT : Hid (C = decide (zl ≤ zb)) := by unfold Hid; rw [HCX.out, decide_eq_false hzb0]; simp
           clear hzb0
           obtain ⟨⟨k0, k1, k2, k3, k4, k5⟩, ⟨k6, k7, k8, k9, k10, k11⟩⟩ := HE.out.box.load
           go_wp2_with fail
           refine (class_at _ T e1 zl _ HE.out.tab HH.out.cls HZL).mono ?_
           rintro e w11 ⟨rfl, hb⟩
           replace HE := Lib.hid (HE.out.step hb)
           clear hb k0 k1 k2 k3 k4 k5 k6 k7 k8 k9 k10 k11
           go_wp2
           go_ret
           exact ⟨by rw [HCT.out]; rfl, HE.out.bel⟩
     ·have d2 : (za != 0) = true := by simp [hz2]
      have HCT : Hid (C = false) := by unfold Hid; rw [HCOMP.out, decide_eq_false hz2]; simp
      clear hz2
      go_wp2
      go_ret
      exact ⟨by rw [HCT.out]; rfl, HE.out.bel⟩
    ·have d1 : (zf != 0) = true := by simp [hz1]
     have HCT : Hid (C = false) := by unfold Hid; rw [HCOMP.out, decide_eq_false hz1]; simp
     clear hz1
     go_wp2
     go_ret
     exact ⟨by rw [HCT.out]; rfl, HE.out.bel⟩
  ·exact ccomp_short x T f w hx HH.out.dec hy
theorem ccomp_at (x : TV) (T : Tb) (c : Int) (B : Bool) (w : World) (hx : TabV w x T) (h : checkT T = 0) (hB : Hid (compT T c = B)) :
 Calls Tryz.prog 115 #[x.agg, .int .i64 c] w (Gives (.bool B) w) := hB.out ▸ ccomp_any T h 256 x c w (dec_dp h c) hx
set_option maxRecDepth 100000 in
set_option maxHeartbeats 4000000 in
theorem blocked_at (x : TV) (T : Tb) (p : Option Addr) (n cap : Nat) (M : List Int) (z : Int) (B : Bool) (w : World) (hx : TabV w x T) (ha : ascB 0 T.cls = true) (hin : IntsIn w p M) (hl : Hid (M.length = n)) (hn : n ≤ 17592186043904)
 (hB : Hid (decide (M ≠ [] ∧ z ≤ clsT T (M.getD (M.length - 1) 0)) = B)) :
 Calls Tryz.prog 84 #[x.agg, .slice p n cap, .int .i64 z] w (Gives (.bool B) w) := by
 have HE := Lib.hid (Env.new hx)
 have HI := Lib.hid hin
 have HA := Lib.hid ha
 clear hx hin ha
 simp only [TV.agg]
 go_enter Tryz.func84, Tryz.ntmps84
 by_cases h0 : 0 < n
 ·have d0 : decide ((0 : Int) < (n : Int)) = true := decide_eq_true (by omega)
  obtain ⟨m, rfl⟩ : ∃ m, n = m + 1 := ⟨n - 1, by omega⟩
  obtain ⟨b3, off3, rfl, q0⟩ := (HI.out.below HE.out.bel) m (by rw [hl.out]; omega)
  obtain ⟨y, hy⟩ : ∃ y, M.getD m 0 = y := ⟨_, rfl⟩
  rw [hy] at q0
  obtain ⟨zy, hzy⟩ : ∃ z, Hid (clsT T y = z) := ⟨_, rfl⟩
  have HB2 : Hid (decide (z ≤ zy) = B) := by
   unfold Hid
   have hne : M ≠ [] := fun e => by have := hl.out; rw [e] at this; simp at this
   rw [← hB.out, hl.out, Nat.add_sub_cancel, hy, hzy.out]
   simp [hne]
  have hm1 : IntKind.i64.wrap (((m + 1 : Nat) : Int) - 1) = (m : Int) := by rw [IntWalk.i64_in _ (by omega)]; omega
  have hm2 : IntKind.i64.wrap (m : Int) = (m : Int) := IntWalk.i64_in _ (by omega)
  have hm3 : ((m + 1 : Nat) : Int) = (m : Int) + 1 := by omega
  have hm4 : (m : Int) + 1 - 1 = (m : Int) := by omega
  have hm5 : (0 : Int) ≤ (m : Int) := by omega
  have hm6 : (m : Int) < (m : Int) + 1 := by omega
  have HED := Lib.hid (HE.out.step (drew_one _))
  clear hy h0
  obtain ⟨⟨k0, k1, k2, k3, k4, k5⟩, ⟨k6, k7, k8, k9, k10, k11⟩⟩ := HE.out.box.load
  go_upto_region 4 with (fail)
  go_cut [6] (fun v wx => v = .bool B ∧ Hid (Below w.heap.size w wx))
  case first =>
   go_region_held3 (fun w' => w'.cell? ⟨b3, off3 + m, none⟩ = some (.int .i64 y) ∧ boxF w.heap.size x w')
    (first
     | exact ⟨q0, HED.out.box.flat⟩
     | exact ⟨(hb4.cell (p := ⟨b3, off3 + m, none⟩) (World.block_lt_of_cell? _ _ q0)).trans q0, (HED.out.step hb4).box.flat⟩)
    (first
     | (go_at_call 83; (with_reducible refine (class_at x T y zy _ HED.out.tab HA.out hzy).mono ?_); rintro e w10 ⟨rfl, hb4⟩)
     | fail)
   all_goals
    have hf := (HED.out.step hb4).bel
    try (go_wp2_with fail)
    go_meet
    exact ⟨by rw [HB2.out], hf⟩
  case rest =>
   obtain ⟨rfl, HB⟩ := hcut
   go_wp2
   go_ret
   exact ⟨rfl, HB.out⟩
 ·obtain rfl : n = 0 := by omega
  have HBB : Hid (B = false) := by unfold Hid; rw [← hB.out, List.eq_nil_of_length_eq_zero hl.out]; simp
  go_wp2
  go_quiet (fail)
  go_wp2
  go_ret
  rw [HBB.out]
  exact ⟨rfl, by first | exact HE.out.bel | exact (HE.out.step (drew_ref _ _)).bel⟩
theorem wholeV_han (T : Tb) {a b x : Int} (h : compS a b = (x, true)) : pairT0 T a b = (x, true) := by unfold pairT0; rw [pairO_han h]
theorem wholeV_map (T : Tb) {a b x : Int} (h : compS a b = (x, false)) : pairT0 T a b = wholeV T a b := by
 unfold pairT0 pairO wholeV
 rw [h]
 simp only [Bool.false_eq_true, if_false]
 cases T.dec.find? fun m => decide (m.2 = [a, b]) && compT T m.1 <;> rfl
set_option maxRecDepth 100000 in
set_option maxHeartbeats 4000000 in
theorem kpair_at (T : Tb) (B C : Nat) (a b p : Int) (o : Bool) (w : World) (hk : Known T B C w) (hc : checkT T = 0) (ha : wf64 a) (hb : wf64 b) (hp : Hid (pairT0 T a b = (p, o))) :
 Calls Tryz.prog 85 #[.agg #[.map (some B), .map (some C)], .int .i64 a, .int .i64 b] w (Gives (.tuple #[.int .i64 p, .bool o]) w) := by
 obtain ⟨⟨xh, oh⟩, hh⟩ : ∃ y, compS a b = y := ⟨_, rfl⟩
 have HK := Lib.hid (hk.below ((Below.refl _ _).alloc (Nat.le_refl _) (.cells #[.map (some B), .map (some C)] 95)))
 have HB := Lib.hid ((Below.refl w.heap.size w).alloc (Nat.le_refl _) (.cells #[.map (some B), .map (some C)] 95))
 clear hk
 go_enter Tryz.func85, Tryz.ntmps85
 go_wp2_with fail
 refine (hcomp_at a b xh oh _ hh).mono ?_
 rintro e w1 ⟨rfl, rfl⟩
 cases oh with
 | true =>
  have HP := hp.out
  rw [wholeV_han T hh] at HP
  simp only [Prod.mk.injEq] at HP
  obtain ⟨rfl, rfl⟩ := HP
  go_wp2
  go_ret2
  exact ⟨rfl, HB.out⟩
 | false =>
  have HP := hp.out
  rw [wholeV_map T hh] at HP
  have hlk := HK.out.look hc ha hb
  rw [HP] at hlk
  simp only at hlk
  clear HP hh
  go_wp2
  go_ret2
  exact ⟨rfl, HB.out⟩
open Go.RowKit Go.Maps
theorem owns_ne {P : Program} {k : TypeId} {R : Value → Option (DataW Unit × List MemPlace)} {w : World} {b n : Nat} {D : DataW Unit} {p : Addr} {v : Value} (h : w.ownsMap P k R b n D) (hc : w.cell? p = some v) : p.block ≠ b := by
 obtain ⟨es, clock, hb, _⟩ := h
 intro e
 unfold World.cell? at hc
 rw [e, hb] at hc
 simp at hc
structure KSt (w0 : World) (x : TV) (T : Tb) (k : Nat) (w : World) : Prop where
 env : Env w0 x T w
 m1 : w.ownsMap Tryz.prog 110 (plainElem Tryz.prog 3) (w0.heap.size + 2) k (wholeD T (T.dec.take k))
 m2 : w.ownsMap Tryz.prog 3 (plainElem Tryz.prog 4) (w0.heap.size + 3) k (secD T (T.dec.take k))
 kn : w.heap[w0.heap.size + 4]? = some (.cells #[.map (some (w0.heap.size + 2)), .map (some (w0.heap.size + 3))] 95 (0, 0))
 rs : w.heap[w0.heap.size + 1]? = some (.cells #[.map none, .map none] 95 (0, 0))
theorem KSt.step {w0 w w' : World} {x : TV} {T : Tb} {k : Nat} (h : KSt w0 x T k w) (hb : Below w.heap.size w w') : KSt w0 x T k w' := by
 have l1 := (Array.getElem?_eq_some_iff.1 h.kn).1
 have l2 := (Array.getElem?_eq_some_iff.1 h.rs).1
 exact ⟨h.env.step hb, owns_below h.m1 hb, owns_below h.m2 hb, (hb.block _ l1).trans h.kn, (hb.block _ l2).trans h.rs⟩
theorem KSt.cells {w0 w : World} {x : TV} {T : Tb} {k : Nat} (h : KSt w0 x T k w) :
 w.cell? ⟨w0.heap.size + 4, 0, none⟩ = some (.map (some (w0.heap.size + 2))) ∧ w.cell? ⟨w0.heap.size + 4, 1, none⟩ = some (.map (some (w0.heap.size + 3))) :=
 ⟨cell_of_row w _ 0 _ _ (0, 0) h.kn, cell_of_row w _ 1 _ _ (0, 0) h.kn⟩
structure KMid (w0 : World) (x : TV) (T : Tb) (k : Nat) (b : Bool) (w : World) : Prop where
 env : Env w0 x T w
 m1 : w.ownsMap Tryz.prog 110 (plainElem Tryz.prog 3) (w0.heap.size + 2) (k + 1) (wholeD T (T.dec.take (k + 1)))
 m2 : w.ownsMap Tryz.prog 3 (plainElem Tryz.prog 4) (w0.heap.size + 3) k (secD T (T.dec.take k))
 kn : w.heap[w0.heap.size + 4]? = some (.cells #[.map (some (w0.heap.size + 2)), .map (some (w0.heap.size + 3))] 95 (0, 0))
 rs : w.heap[w0.heap.size + 1]? = some (.cells #[.map none, .map none] 95 (0, 0))
theorem KSt.first {w0 w w' : World} {x : TV} {T : Tb} {k : Nat} (h : KSt w0 x T k w) (hx : TabV w0 x T) (ho : w'.ownsMap Tryz.prog 110 (plainElem Tryz.prog 3) (w0.heap.size + 2) (k + 1) (wholeD T (T.dec.take (k + 1)))) (hg : w.grownBy w' (some (w0.heap.size + 2))) : KMid w0 x T k true w' := by
 have l1 := (Array.getElem?_eq_some_iff.1 h.kn).1
 have l2 := (Array.getElem?_eq_some_iff.1 h.rs).1
 exact ⟨h.env.grown hx hg (by omega), ho, h.m2.kept hg (by simp), (hg.block _ l1 (by simp)).trans h.kn, (hg.block _ l2 (by simp)).trans h.rs⟩
theorem KMid.step {w0 w w' : World} {x : TV} {T : Tb} {k : Nat} {b : Bool} (h : KMid w0 x T k b w) (hb : Below w.heap.size w w') : KMid w0 x T k b w' := by
 have l1 := (Array.getElem?_eq_some_iff.1 h.kn).1
 have l2 := (Array.getElem?_eq_some_iff.1 h.rs).1
 exact ⟨h.env.step hb, owns_below h.m1 hb, owns_below h.m2 hb, (hb.block _ l1).trans h.kn, (hb.block _ l2).trans h.rs⟩
theorem KMid.second {w0 w w' : World} {x : TV} {T : Tb} {k : Nat} {b : Bool} (h : KMid w0 x T k b w) (hx : TabV w0 x T) (ho : w'.ownsMap Tryz.prog 3 (plainElem Tryz.prog 4) (w0.heap.size + 3) (k + 1) (secD T (T.dec.take (k + 1)))) (hg : w.grownBy w' (some (w0.heap.size + 3))) : KSt w0 x T (k + 1) w' := by
 have l1 := (Array.getElem?_eq_some_iff.1 h.kn).1
 have l2 := (Array.getElem?_eq_some_iff.1 h.rs).1
 exact ⟨h.env.grown hx hg (by omega), h.m1.kept hg (by simp), ho, (hg.block _ l1 (by simp)).trans h.kn, (hg.block _ l2 (by simp)).trans h.rs⟩
theorem KMid.cells {w0 w : World} {x : TV} {T : Tb} {k : Nat} {b : Bool} (h : KMid w0 x T k b w) :
 w.cell? ⟨w0.heap.size + 4, 0, none⟩ = some (.map (some (w0.heap.size + 2))) ∧ w.cell? ⟨w0.heap.size + 4, 1, none⟩ = some (.map (some (w0.heap.size + 3))) :=
 ⟨cell_of_row w _ 0 _ _ (0, 0) h.kn, cell_of_row w _ 1 _ _ (0, 0) h.kn⟩
theorem KSt.start (w : World) (x : TV) (T : Tb) (hx : TabV w x T) : KSt w x T 0 (((((w.alloc (.cells (tabCells x) 26)).alloc (.cells #[.map none, .map none] 95)).alloc (.map #[] 0)).alloc (.map #[] 0)).alloc (.cells #[.map (some (w.heap.size + 2)), .map (some (w.heap.size + 3))] 95)) := by
 generalize hw0 : w.alloc (.cells (tabCells x) 26) = W0
 have s0 : W0.heap.size = w.heap.size + 1 := by rw [← hw0]; simp
 have e0 : Env w x T W0 := by rw [← hw0]; exact Env.new hx
 generalize hw1 : W0.alloc (.cells #[.map none, .map none] 95) = W1
 have s1 : W1.heap.size = w.heap.size + 2 := by rw [← hw1]; simp [s0]
 have b1 : Below W0.heap.size W0 W1 := by rw [← hw1]; exact (Below.refl _ _).alloc (Nat.le_refl _) _
 have r1 : W1.heap[w.heap.size + 1]? = some (.cells #[.map none, .map none] 95 (0, 0)) := by rw [← hw1, ← s0]; exact heap_alloc_new _ _
 generalize hw2 : W1.alloc (.map #[] 0) = W2
 have s2 : W2.heap.size = w.heap.size + 3 := by rw [← hw2]; simp [s1]
 have b2 : Below W1.heap.size W1 W2 := by rw [← hw2]; exact (Below.refl _ _).alloc (Nat.le_refl _) _
 have o1 : W2.ownsMap Tryz.prog 110 (plainElem (H := Unit) Tryz.prog 3) (w.heap.size + 2) 0 (.map []) := by rw [← hw2, ← s1]; exact World.ownsMap_made _ _ _ _
 generalize hw3 : W2.alloc (.map #[] 0) = W3
 have s3 : W3.heap.size = w.heap.size + 4 := by rw [← hw3]; simp [s2]
 have b3 : Below W2.heap.size W2 W3 := by rw [← hw3]; exact (Below.refl _ _).alloc (Nat.le_refl _) _
 have o2 : W3.ownsMap Tryz.prog 3 (plainElem (H := Unit) Tryz.prog 4) (w.heap.size + 3) 0 (.map []) := by rw [← hw3, ← s2]; exact World.ownsMap_made _ _ _ _
 generalize hw4 : W3.alloc (.cells #[.map (some (w.heap.size + 2)), .map (some (w.heap.size + 3))] 95) = W4
 have b4 : Below W3.heap.size W3 W4 := by rw [← hw4]; exact (Below.refl _ _).alloc (Nat.le_refl _) _
 have r4 : W4.heap[w.heap.size + 4]? = some (.cells #[.map (some (w.heap.size + 2)), .map (some (w.heap.size + 3))] 95 (0, 0)) := by rw [← hw4, ← s3]; exact heap_alloc_new _ _
 have b14 := b2.trans ((b3.trans (b4.mono b3.size)).mono b2.size)
 have b24 := b3.trans (b4.mono b3.size)
 exact ⟨e0.step (b1.trans (b14.mono b1.size)), owns_below o1 b24, owns_below o2 b4, r4, (b14.block _ (by omega)).trans r1⟩
theorem row_two {w : World} {b : Nat} {x y u v : Value} {t : TypeId} (h : w.heap[b]? = some (.cells #[x, y] t (0, 0))) :
 ((w.setCell ⟨b, 0, none⟩ u).setCell ⟨b, 1, none⟩ v).heap[b]? = some (.cells #[u, v] t (0, 0)) := by
 have h1 := heap_setCell_same w b 0 #[x, y] t u h
 have h2 := heap_setCell_same _ b 1 _ t v h1
 simpa using h2
def KnownPost (T : Tb) (w : World) (e : Ending) (w' : World) : Prop := ∃ B C, e = .returned (.agg #[.map (some B), .map (some C)]) ∧ Known T B C w' ∧ Below w.heap.size w w'
set_option maxRecDepth 100000 in
set_option maxHeartbeats 8000000 in
theorem compsOf_at (x : TV) (T : Tb) (w : World) (hx : TabV w x T) (h : checkT T = 0) :
 Calls Tryz.prog 82 #[x.agg] w (KnownPost T w) := by
 obtain ⟨a0, a1, a2, a3, a4, a5, a6, a7, a8, a9, a10, a11⟩ := x
 obtain ⟨pm, cm, hm, hmin, hml⟩ := hx.dec
 obtain ⟨n, hn⟩ : ∃ n, T.dec.length = n := ⟨_, rfl⟩
 rw [hn] at hm hml
 simp only at hm
 subst hm
 have HS := Lib.hid (KSt.start w ⟨a0, a1, a2, a3, a4, a5, a6, a7, a8, .slice pm n cm, a10, a11⟩ T hx)
 have hnle : n ≤ 256 := by rw [← hn]; exact (cmpH0 h).len
 have HX := Lib.hid hx
 have HV := Lib.hid h
 have HN := Lib.hid hn
 have HMI := Lib.hid hmin
 have hmm := @run_makeMap Tryz.prog
 simp only [tabCells] at HS
 clear hx hn hmin h
 simp only [TV.agg]
 go_enter Tryz.func82, Tryz.ntmps82
 go_wp2
 clear hmm
 go_loopw [12] (fun i wr => ∃ k : Nat, k ≤ n ∧ i = .int .i64 k ∧ Hid (KSt w ⟨a0, a1, a2, a3, a4, a5, a6, a7, a8, .slice pm n cm, a10, a11⟩ T k wr)) (fun i _ => n - (intOf i).toNat)
 case atStart => exact ⟨0, Nat.zero_le _, rfl, HS⟩
 case round =>
  obtain ⟨k, hk, rfl, hs⟩ := hrel
  by_cases hlt : k < n
  ·have hkl : k < T.dec.length := by rw [HN.out]; exact hlt
   obtain ⟨b, off, v, rfl, hc1, hc2, qa, cq, rfl, hi2, hm2⟩ := (HMI.out.below hs.out.env.bel) k hkl
   have hsn := take_snoc_mp T.dec k hkl
   have hmem := mp_getD_mem T.dec k hkl
   obtain ⟨⟨f, y⟩, hfy⟩ : ∃ s, T.dec.getD k mp0 = s := ⟨_, rfl⟩
   rw [hfy] at hc1 hc2 hi2 hm2 hsn hmem
   simp only at hc1 hc2 hi2 hm2
   have hw1 := wholeD_snoc T (T.dec.take k) (f, y)
   have hw2 := secD_snoc T (T.dec.take k) (f, y)
   rw [← hsn] at hw1 hw2
   simp only at hw1 hw2
   have hpr := fun hc => comp_pair HV.out hmem hc
   have hdf := dec_from HV.out (c := f)
   have hdm := dec_find HV.out hmem
   simp only at hpr hdm
   obtain ⟨m, hm3⟩ : ∃ m, y.length = m := ⟨_, rfl⟩
   obtain ⟨C, hC⟩ : ∃ C, Hid (compT T f = C) := ⟨_, rfl⟩
   have hne : C = true → scaB f = true := fun hc => (hdf (comp_ne HV.out (hC.out.trans hc))).2.2
   rw [hC.out] at hw1 hw2 hpr
   have hb0 : Below wr.heap.size wr (wr.alloc (.cells #[.int .i64 f, .slice qa m cq] 47)) := (Below.refl _ _).alloc (Nat.le_refl _) _
   have HSb := Lib.hid (hs.out.step hb0)
   have HBM := Lib.hid (BoxM.new wr f (.slice qa m cq) 47)
   have HY1 := Lib.hid (RowIn.alloc hi2 (.cells #[.int .i64 f, .slice qa m cq] 47))
   rw [hm3] at hc2 hm2
   have HM3 := Lib.hid hm3
   have HW1 := Lib.hid hw1
   have HW2 := Lib.hid hw2
   have HPR := Lib.hid hpr
   have HNE := Lib.hid hne
   clear hfy hsn hmem hb0 hi2 hm3 hw1 hw2 hpr hdf hdm hne
   obtain ⟨⟨k0, k1, k2, k3, k4, k5⟩, ⟨k6, k7, k8, k9, k10, k11⟩⟩ := HSb.out.env.box.load
   go_wp2_with fail
   refine (ccomp_at _ T f C _ HSb.out.env.tab HV.out hC).mono ?_
   rintro e w2 ⟨rfl, hb2⟩
   have HS2 := Lib.hid (HSb.out.step hb2)
   have HBM2 := Lib.hid (HBM.out.below hb2)
   have HY2 := Lib.hid (HY1.out.below hb2)
   clear hb2 k0 k1 k2 k3 k4 k5 k6 k7 k8 k9 k10 k11 hc1 hc2
   cases C with
   | false =>
    have HS3 : Hid (KSt w ⟨a0, a1, a2, a3, a4, a5, a6, a7, a8, .slice (some ⟨b, off, none⟩) n cm, a10, a11⟩ T (k + 1) w2) := by
     have e1 := HW1.out
     have e2 := HW2.out
     simp only [Bool.false_eq_true, if_false] at e1 e2
     exact ⟨HS2.out.env, by rw [e1]; exact HS2.out.m1.mono (Nat.le_succ _), by rw [e2]; exact HS2.out.m2.mono (Nat.le_succ _), HS2.out.kn, HS2.out.rs⟩
    go_wp2
    go_roundw
    case rel => exact ⟨k + 1, by omega, by go_num, HS3⟩
    case measure => simp [intOf]; omega
   | true =>
    obtain ⟨a, b', rfl, hwa, hwb⟩ := HPR.out rfl
    obtain rfl : m = 2 := HM3.out.symm
    obtain ⟨be, offe, rfl, s0⟩ := HY2.out 0 (by simp)
    obtain ⟨be', offe', ee, s1⟩ := HY2.out 1 (by simp)
    injection ee with ee
    injection ee with ee1 ee2
    subst ee1; subst ee2
    simp only [List.getD_cons_zero, List.getD_cons_succ, Nat.add_zero] at s0 s1
    obtain ⟨m0, m1⟩ := HBM2.out
    obtain ⟨n0, n1⟩ := HS2.out.cells
    have HWA : Hid (wf64 a) := wf64_of hwa
    have HWB : Hid (wf64 b') := wf64_of hwb
    have HWF : Hid (wf64 f) := wf64_of (by have := scaB_iff.1 (HNE.out rfl); exact ⟨this.1, this.2.1⟩)
    have E1 : Hid (wholeD T (T.dec.take (k + 1)) = (wholeD T (T.dec.take k)).put (litOf [a, b']) (.lit (.int .i64 f))) := by have := HW1.out; rw [if_pos rfl] at this; exact this
    have E2 : Hid (secD T (T.dec.take (k + 1)) = (secD T (T.dec.take k)).put (.int .i64 b') (.lit (.bool true))) := by have := HW2.out; rw [if_pos rfl] at this; exact this
    have HQ2 := Lib.hid (show w2.cell? ⟨wr.heap.size, 1, none⟩ = some (.slice (some ⟨be, offe, none⟩) 2 cq) ∧ w2.cell? ⟨be, offe + 1, none⟩ = some (.int .i64 b') from ⟨m1, s1⟩)
    clear hwa hwb HW1 HW2 HPR HNE HM3
    go_upto_region 6 with (fail)
    go_still_tail 13, (by kernel_rfl)
    change wpList _ _ _ _ _ w2.drew
    have hq : Below w2.heap.size w2 w2.drew := drew_one _
    have HS3 := Lib.hid (HS2.out.step hq)
    have HQ3 : Hid (w2.drew.cell? ⟨wr.heap.size, 1, none⟩ = some (.slice (some ⟨be, offe, none⟩) 2 cq) ∧ w2.drew.cell? ⟨be, offe + 1, none⟩ = some (.int .i64 b')) := HQ2.out
    generalize w2.drew = w3 at HS3 HQ3 hq ⊢
    clear hq m0 m1 n0 n1 s0 s1 HQ2
    go_wp2_with (at_mapUpdate; refine wpList_mapUpdate_own _ rfl _ _ _ 92 rfl 110 3 pairLaw Tryz.underlying92 (plainElem Tryz.prog 3) (w.heap.size + 2) k (wholeD T (T.dec.take k)) rfl HS3.out.m1 (by unfold maxLen; omega) _ _ (pairLit a b') rfl rfl (pair_key64 HWA.out HWB.out) (.lit (.int .i64 f)) [] (plainElem_int Tryz.underlying3 HWF.out) ?_; intro w4 hown4 hg4)
    have HM4 : Hid (KMid w ⟨a0, a1, a2, a3, a4, a5, a6, a7, a8, .slice (some ⟨b, off, none⟩) n cm, a10, a11⟩ T k true w4) := HS3.out.first HX.out (by rw [E1.out]; exact hown4) hg4
    have HQ4 : Hid (w4.cell? ⟨wr.heap.size, 1, none⟩ = some (.slice (some ⟨be, offe, none⟩) 2 cq) ∧ w4.cell? ⟨be, offe + 1, none⟩ = some (.int .i64 b')) := by
     have z1 := owns_ne HS3.out.m1 HQ3.out.1
     have z2 := owns_ne HS3.out.m1 HQ3.out.2
     simp only at z1 z2
     exact ⟨hg4.cell HQ3.out.1 (by simp; omega), hg4.cell HQ3.out.2 (by simp; omega)⟩
    clear hown4 hg4 HQ3
    obtain ⟨m1, s1⟩ := HQ4.out
    obtain ⟨n0, n1⟩ := HM4.out.cells
    go_upto_region 7 with (fail)
    go_still_tail 6, (by kernel_rfl)
    change wpList _ _ _ _ _ w4.drew
    have hq : Below w4.heap.size w4 w4.drew := drew_one _
    have HM5 := Lib.hid (HM4.out.step hq)
    generalize w4.drew = w5 at HM5 hq ⊢
    clear hq m1 n0 n1 s1 HQ4
    go_wp2_with (at_mapUpdate; refine wpList_mapUpdate_own _ rfl _ _ _ 93 rfl 3 4 intLaw Tryz.underlying93 (plainElem Tryz.prog 4) (w.heap.size + 3) k (secD T (T.dec.take k)) rfl HM5.out.m2 (by unfold maxLen; omega) _ _ (.int .i64 b') rfl rfl (keyOf_int_mk Tryz.underlying3 HWB.out) (.lit (.bool true)) [] (plainElem_bool Tryz.underlying4 true) ?_; intro w6 hown6 hg6)
    have HS6 : Hid (KSt w ⟨a0, a1, a2, a3, a4, a5, a6, a7, a8, .slice (some ⟨b, off, none⟩) n cm, a10, a11⟩ T (k + 1) w6) := HM5.out.second HX.out (by rw [E2.out]; exact hown6) hg6
    clear hown6 hg6
    go_wp2
    go_roundw
    case rel => exact ⟨k + 1, by omega, by go_num, HS6⟩
    case measure => simp [intOf]; omega
  ·obtain rfl : k = n := by omega
   have HK : Hid (Known T (w.heap.size + 2) (w.heap.size + 3) wr) := by
    have h1 := hs.out.m1
    have h2 := hs.out.m2
    rw [List.take_of_length_le (Nat.le_of_eq HN.out)] at h1 h2
    exact ⟨⟨_, h1⟩, ⟨_, h2⟩⟩
   have HBE : Hid (Below w.heap.size w wr) := hs.out.env.bel
   obtain ⟨n0, n1⟩ := hs.out.cells
   have hrs := hs.out.rs
   have rc0 := cell_of_row wr (w.heap.size + 1) 0 _ _ (0, 0) hrs
   have rc1 := cell_of_row wr (w.heap.size + 1) 1 _ _ (0, 0) hrs
   have rf0 : wr.frozen? ⟨w.heap.size + 1, 0, none⟩ = false := by simp [World.frozen?, hrs]
   have rf1 : wr.frozen? ⟨w.heap.size + 1, 1, none⟩ = false := by simp [World.frozen?, hrs]
   have HRS := Lib.hid hrs
   clear hrs
   simp only [List.getElem?_toArray, List.getElem?_cons_zero, List.getElem?_cons_succ] at rc0 rc1
   go_wp2
   refine bodyPost_ret (results_cell_row rfl _ _ (w.heap.size + 1) _ _ _ _ rfl (row_two HRS.out) Tryz.underlying95 rfl (by kernel_rfl)) rfl ?_
   refine ⟨_, _, rfl, ⟨?_, ?_⟩, ?_⟩
   ·obtain ⟨n1, h1⟩ := HK.out.whole
    exact ⟨n1, (h1.setCell (by simp) _).setCell (by simp) _⟩
   ·obtain ⟨n1, h1⟩ := HK.out.sec
    exact ⟨n1, (h1.setCell (by simp) _).setCell (by simp) _⟩
   ·exact (HBE.out.setCell (by simp) _).setCell (by simp) _
theorem rowin_dropC {t : IntKind} {w : World} {b off : Nat} {xs : List Int} (h : RowIn t w (some ⟨b, off, none⟩) xs) (k : Nat) : RowIn t w (some ⟨b, off + k, none⟩) (xs.drop k) := by
 intro j hj
 have hj2 : k + j < xs.length := by rw [List.length_drop] at hj; omega
 obtain ⟨b2, off2, e, hc⟩ := h (k + j) hj2
 injection e with e
 injection e with e1 e2 _
 subst e1 e2
 refine ⟨_, _, rfl, ?_⟩
 rw [Nat.add_assoc, hc]
 congr 2
 simp [List.getD]
theorem ints_capC {w : World} {B n c : Nat} {p : Option Addr} {xs : List Int} (h : Ints w B (.slice p n c) xs) : n ≤ c := row_cap h rfl
structure NKnown (w0 : World) (x : TV) (T : Tb) (B C kb : Nat) (pD : Option Addr) (D : List Int) (w : World) : Prop where
 env : Env w0 x T w
 known : Known T B C w
 kn : w.heap[kb]? = some (.cells #[.map (some B), .map (some C)] 95 (0, 0))
 row : IntsIn w pD D
theorem NKnown.step {w0 w w' : World} {x : TV} {T : Tb} {B C kb : Nat} {pD : Option Addr} {D : List Int} (h : NKnown w0 x T B C kb pD D w) (hb : Below w.heap.size w w') : NKnown w0 x T B C kb pD D w' :=
 ⟨h.env.step hb, h.known.below hb, (hb.block _ (Array.getElem?_eq_some_iff.1 h.kn).1).trans h.kn, h.row.below hb⟩
theorem NKnown.cells {w0 w : World} {x : TV} {T : Tb} {B C kb : Nat} {pD : Option Addr} {D : List Int} (h : NKnown w0 x T B C kb pD D w) :
 w.cell? ⟨kb, 0, none⟩ = some (.map (some B)) ∧ w.cell? ⟨kb, 1, none⟩ = some (.map (some C)) :=
 ⟨cell_of_row w _ 0 _ _ (0, 0) h.kn, cell_of_row w _ 1 _ _ (0, 0) h.kn⟩
theorem NKnown.start {w0 w : World} {x : TV} {T : Tb} {B C : Nat} {pD : Option Addr} {D : List Int} (h1 : Env w0 x T w) (h2 : Known T B C w) (h3 : IntsIn w pD D) :
 NKnown w0 x T B C w.heap.size pD D (w.alloc (.cells #[.map (some B), .map (some C)] 95)) := by
 have hb : Below w.heap.size w (w.alloc (.cells #[.map (some B), .map (some C)] 95)) := (Below.refl _ _).alloc (Nat.le_refl _) _
 exact ⟨h1.step hb, h2.below hb, heap_alloc_new _ _, h3.below hb⟩
theorem fin_wf {c : Int} (h : scaB c = true) : wf64 c := by
 have := scaB_iff.1 h
 exact wf64_of ⟨this.1, this.2.1⟩
set_option maxRecDepth 100000 in
set_option maxHeartbeats 16000000 in
theorem nfc_at (x : TV) (T : Tb) (p : Option Addr) (cap : Nat) (zs : List Int) (E : Int) (L : List Int) (w : World) (hx : TabV w x T) (hr : Rsv w) (hin : IntsIn w p zs) (hl : zs.length ≤ 17592186043904)
 (hE : Hid (nfdE T zs = E)) (hL : Hid (nfcL T zs = L)) :
 Calls Tryz.prog 58 #[x.agg, .slice p zs.length cap] w (LRet L E w) := by
 obtain ⟨D, hD⟩ : ∃ D, Hid (nfdL T zs = D) := ⟨_, rfl⟩
 have HE := Lib.hid (Env.new hx)
 have HI := Lib.hid hin
 have HR := Lib.hid hr
 have hnf := fun W (h1 : TabV W x T) h2 h3 => nfd_at x T p cap zs E D W h1 h2 h3 hl hE hD
 obtain ⟨n, hn⟩ : ∃ n, zs.length = n := ⟨_, rfl⟩
 rw [hn] at hl hnf ⊢
 have HNF := Lib.hid hnf
 clear hx hin hr hn hnf
 simp only [TV.agg]
 go_enter Tryz.func58, Tryz.ntmps58
 obtain ⟨⟨k0, k1, k2, k3, k4, k5⟩, ⟨k6, k7, k8, k9, k10, k11⟩⟩ := HE.out.box.load
 go_wp2_with fail
 refine (HNF.out _ HE.out.tab (HR.out.below HE.out.bel) (HI.out.below HE.out.bel)).mono ?_
 rintro e w1 ⟨v1, rfl, ho1, hb⟩
 obtain ⟨pD, cD, rfl, hi1⟩ := ho1.inn
 replace HE := Lib.hid (HE.out.step hb)
 have HI1 := Lib.hid hi1
 obtain ⟨m, hm⟩ : ∃ m, D.length = m := ⟨_, rfl⟩
 have hm4 : m ≤ 4096 := by rw [← hm, ← hD.out]; exact nfdL_len T zs
 rw [hm]
 have HM := Lib.hid hm
 clear ho1 hb hi1 hm HNF k0 k1 k2 k3 k4 k5 k6 k7 k8 k9 k10 k11
 by_cases h0 : E = 0
 ·subst h0
  have HV : Hid (checkT T = 0) := nfd_check hE.out
  have HLL : Hid (nfcS T D = L) := by unfold Hid; rw [← hL.out, nfcL_ok hE.out, hD.out]
  have HFI : Hid (∀ y ∈ D, Fin1 T y) := by have := nfd_fin hE.out; rwa [hD.out] at this
  have HH := Lib.hid (cmpH0 HV.out)
  obtain ⟨⟨k0, k1, k2, k3, k4, k5⟩, ⟨k6, k7, k8, k9, k10, k11⟩⟩ := HE.out.box.load
  go_wp2_with fail
  refine (compsOf_at x T _ HE.out.tab HV.out).mono ?_
  rintro e w2 ⟨B, C, rfl, hk, hb⟩
  replace HE := Lib.hid (HE.out.step hb)
  replace HI1 := Lib.hid (HI1.out.below hb)
  have hns := NKnown.start HE.out hk HI1.out
  obtain ⟨wk, hwk⟩ : ∃ wk, wk = w2.alloc (.cells #[.map (some B), .map (some C)] 95) := ⟨_, rfl⟩
  rw [← hwk] at hns
  have HNS := Lib.hid hns
  have HWK := Lib.hid hwk
  have HSZ : Hid (wk.heap.size = w2.heap.size + 1) := by unfold Hid; rw [hwk]; simp
  have hmk := run_make_ints0 m (by omega)
  clear hk hb hns hwk HE HI1 HI k0 k1 k2 k3 k4 k5 k6 k7 k8 k9 k10 k11
  go_wp2
  clear hmk
  go_loopw [9, 10, 32] (fun u s i wr => ∃ (k : Nat) (st : Int) (O : List Int), k ≤ m ∧ i = .int .i64 k ∧ s = .int .i64 st ∧ Hid (Cst T D k st O) ∧ Hid (Ints wr wk.heap.size u O) ∧ Hid (Below wk.heap.size wk wr)) (fun _ _ i _ => m - (intOf i).toNat)
  case atStart =>
   refine ⟨0, -1, [], Nat.zero_le _, rfl, rfl, Cst.start T D, ?_, ?_⟩
   ·have := Ints.made wk wk.heap.size m (Nat.le_refl _) (by omega)
    rw [HSZ.out] at this ⊢
    rw [HWK.out] at this
    simpa [Hid] using this
   ·have := (Below.refl wk.heap.size wk).alloc (Nat.le_refl _) (madeI m)
    unfold Hid
    rw [HWK.out] at this ⊢
    exact this
  case round =>
   obtain ⟨k, st, O, hk, rfl, rfl, hcst, hown, hbel⟩ := hrel
   have hns := Lib.hid (HNS.out.step hbel.out)
   by_cases hlt : k < m
   ·have hkl : k < D.length := by rw [HM.out]; exact hlt
    obtain ⟨b, off, rfl, hck⟩ := hns.out.row k hkl
    obtain ⟨c, hc⟩ : ∃ c, D.getD k 0 = c := ⟨_, rfl⟩
    rw [hc] at hck
    have HFC : Hid (Fin1 T c) := HFI.out c (by rw [← hc]; simp [hkl])
    have HC := Lib.hid hc
    obtain ⟨z, hz⟩ : ∃ z, Hid (clsT T c = z) := ⟨_, rfl⟩
    obtain ⟨pO, cO, rfl, hiO⟩ := hown.out.inn
    obtain ⟨no, hno⟩ : ∃ no, O.length = no := ⟨_, rfl⟩
    rw [hno] at hown ⊢
    have hno4 : no ≤ 4096 := by have := hcst.out.len; omega
    have hcO := ints_capC hown.out
    have hgO := hown.out.row
    have HNO := Lib.hid hno
    have hstb := hcst.out.bound
    rw [hno] at hstb hgO
    have HGO := Lib.hid hgO
    have HIO := Lib.hid hiO
    clear hc hno hiO hgO
    obtain ⟨⟨k0, k1, k2, k3, k4, k5⟩, ⟨k6, k7, k8, k9, k10, k11⟩⟩ := hns.out.env.box.load
    go_wp2_with fail
    refine (class_at _ T c z _ hns.out.env.tab HH.out.cls hz).mono ?_
    rintro e w3 ⟨rfl, hb⟩
    have HN3 := Lib.hid (hns.out.step hb)
    have HO3 := Lib.hid (hown.out.below hb)
    have HI3 := Lib.hid (HIO.out.below hb)
    have HB3 := Lib.hid (hbel.out.trans (hb.mono hbel.out.size))
    clear hb hck k0 k1 k2 k3 k4 k5 k6 k7 k8 k9 k10 k11 hown hbel hns HIO
    by_cases hst : st < 0
    ·obtain rfl : st = -1 := by omega
     have HP : Hid (resO T O (-1) c = none) := resO_none (by omega)
     have ds : decide ((0 : Int) ≤ -1) = false := by decide
     clear hst hstb
     go_upto_region 11 with (fail)
     go_quiet (fail)
     generalize hwq : World.drewN w3 _ = W
     have hq : Below w3.heap.size w3 W := by rw [← hwq]; exact drew_ref _ _
     have HN := Lib.hid (HN3.out.step hq)
     have HO := Lib.hid (HO3.out.below hq)
     have HB := Lib.hid (HB3.out.trans (hq.mono HB3.out.size))
     clear hwq hq HN3 HO3 HI3 HB3
     by_cases hz0 : z = 0
     ·have dz : (z == 0) = true := by simp [hz0]
      have HC4 : Hid (Cst T D (k + 1) (no : Int) (O ++ [c])) := by
       have := hcst.out.zero (by rw [HM.out]; exact hlt) HC.out HFC.out.1 HP.out (by rw [hz.out]; exact hz0)
       rw [HNO.out] at this; exact this
      have HLI := Lib.hid (lit_ints W #[.int .i64 c] [c] 3 rfl)
      have HOA : Hid (Ints (W.alloc (.cells #[.int .i64 c] 3)) wk.heap.size (.slice pO no cO) O) := HO.out.alloc _
      have hsz : wk.heap.size ≤ (W.alloc (.cells #[.int .i64 c] 3)).heap.size := by have := HB.out.size; simp; omega
      have HBA := Lib.hid (HB.out.alloc HB.out.size (.cells #[.int .i64 c] 3))
      clear hz0
      go_wp2_with (at_builtin; (refine wpList_append_ints _ _ rfl rfl wk.heap.size (.slice pO no cO) O rfl HOA.out (some ⟨W.heap.size, 0, none⟩) 1 1 [c] rfl rfl HLI.out (by rw [HNO.out]; simp; omega) hsz ?_); intro v4 w4 ho4 hg4)
      have HB4 : Hid (Below wk.heap.size wk w4) := below_appI HBA.out HOA.out (Nat.le_refl _) hg4
      have HO4 := Lib.hid ho4
      clear ho4 hg4 hsz
      go_wp2
      go_roundw
      case rel => exact ⟨k + 1, _, _, by omega, by go_num, rfl, HC4, HO4, HB4⟩
      case measure => simp [intOf]; omega
     ·have dz : (z == 0) = false := by simp [hz0]
      have HC4 : Hid (Cst T D (k + 1) (-1) (O ++ [c])) := hcst.out.mark (by rw [HM.out]; exact hlt) HC.out HFC.out.1 HP.out (by rw [hz.out]; exact hz0)
      have HLI := Lib.hid (lit_ints W #[.int .i64 c] [c] 3 rfl)
      have HOA : Hid (Ints (W.alloc (.cells #[.int .i64 c] 3)) wk.heap.size (.slice pO no cO) O) := HO.out.alloc _
      have hsz : wk.heap.size ≤ (W.alloc (.cells #[.int .i64 c] 3)).heap.size := by have := HB.out.size; simp; omega
      have HBA := Lib.hid (HB.out.alloc HB.out.size (.cells #[.int .i64 c] 3))
      clear hz0
      go_wp2_with (at_builtin; (refine wpList_append_ints _ _ rfl rfl wk.heap.size (.slice pO no cO) O rfl HOA.out (some ⟨W.heap.size, 0, none⟩) 1 1 [c] rfl rfl HLI.out (by rw [HNO.out]; simp; omega) hsz ?_); intro v4 w4 ho4 hg4)
      have HB4 : Hid (Below wk.heap.size wk w4) := below_appI HBA.out HOA.out (Nat.le_refl _) hg4
      have HO4 := Lib.hid ho4
      clear ho4 hg4 hsz
      go_wp2
      go_roundw
      case rel => exact ⟨k + 1, _, _, by omega, by go_num, rfl, HC4, HO4, HB4⟩
      case measure => simp [intOf]; omega
    ·obtain ⟨a, rfl⟩ : ∃ a : Nat, st = a := ⟨st.toNat, by omega⟩
     have ha : a < no := by omega
     have ds : decide ((0 : Int) ≤ (a : Int)) = true := decide_eq_true (by omega)
     obtain ⟨go, cg, eg, hge, hglt, hgc, hgf⟩ := HO3.out.row (by rw [HNO.out]; omega)
     rw [HNO.out] at eg
     injection eg with eg1 _ eg2
     subst eg1 eg2
     obtain ⟨M, hM⟩ : ∃ M, O.drop (a + 1) = M := ⟨_, rfl⟩
     obtain ⟨sO, hsO⟩ : ∃ s, O.getD a 0 = s := ⟨_, rfl⟩
     have hga := hgc a (by rw [HNO.out]; exact ha)
     rw [hsO] at hga
     have hfr := hgf a
     have HGA := Lib.hid hga
     have HFR := Lib.hid hfr
     have HSC : Hid (scaB sO = true) := hcst.out.sca sO (by rw [← hsO]; have : a < O.length := by rw [HNO.out]; exact ha
                                                            simp [this])
     have hML : M.length = no - (a + 1) := by rw [← hM, List.length_drop, HNO.out]
     have HMC : Hid (unbl T M c → resO T O (a : Int) c = pairO T sO c) := fun h => by
      have := resO_open (T := T) (O := O) (st := (a : Int)) (c := c) (by omega) (by rw [Int.toNat_natCast, hM]; exact h)
      rw [this, Int.toNat_natCast, hsO]
     have HMN : Hid (¬ unbl T M c → resO T O (a : Int) c = none) := fun h => resO_blocked (by omega) (by rw [Int.toNat_natCast, hM]; exact h)
     obtain ⟨Bk, hBk⟩ : ∃ Bk, Hid (decide (M ≠ [] ∧ z ≤ clsT T (M.getD (M.length - 1) 0)) = Bk) := ⟨_, rfl⟩
     have HBU : Hid (Bk = false → unbl T M c) := fun h => by
      have hb := hBk.out
      rw [h, decide_eq_false_iff_not] at hb
      rw [unbl_iff, hz.out]
      by_cases e : M = []
      ·exact .inl e
      ·right
       by_cases e2 : z ≤ clsT T (M.getD (M.length - 1) 0)
       ·exact absurd ⟨e, e2⟩ hb
       ·omega
     have HBN : Hid (Bk = true → ¬ unbl T M c) := fun h => by
      have hb := hBk.out
      rw [h, decide_eq_true_eq] at hb
      rw [unbl_iff, hz.out]
      intro e
      rcases e with e | e
      ·exact hb.1 e
      ·omega
     obtain ⟨j, hj⟩ : ∃ j, a + 1 = j := ⟨_, rfl⟩
     rw [hj] at hM hML
     obtain ⟨P3, hP3⟩ : ∃ P3, (if cO = j then some (⟨go, 0, none⟩ : Addr) else some ⟨go, j, none⟩) = P3 := ⟨_, rfl⟩
     have hT3 : IntsIn w3 P3 M := by
      rw [← hP3, ← hM]
      split
      ·intro i hi
       rw [List.length_drop, HNO.out] at hi
       omega
      ·have := rowin_dropC HI3.out j
       rwa [Nat.zero_add] at this
     have HT3 := Lib.hid hT3
     have HML := Lib.hid hML
     have hj1 : (a : Int) + 1 = (j : Int) := by omega
     have hj2 : IntKind.i64.wrap ((a : Int) + 1) = (j : Int) := by rw [IntWalk.i64_in _ (by omega)]; omega
     have hj3 : IntKind.i64.wrap (j : Int) = (j : Int) := IntWalk.i64_in _ (by omega)
     have hj4 : (j : Int) ≤ (no : Int) := by omega
     have hj5 : j ≤ no := by omega
     have hj8 : (no : Int) ≤ (cO : Int) := by omega
     have hai : (a : Int) < (no : Int) := by omega
     have hnj : Hid (no - j ≤ 17592186043904) := by unfold Hid; omega
     have hbc := fun W (h1 : TabV W x T) h2 => blocked_at x T P3 (no - j) (cO - j) M z Bk W h1 HH.out.cls h2 HML.out hnj.out hBk
     have HBC := Lib.hid hbc
     clear hM hsO hML hT3 hst hstb hgc hgf hj HI3 hbc
     go_upto_region 11 with (fail)
     go_cut [50] (fun v wx => v = .bool (!Bk) ∧ Hid (Below w3.heap.size w3 wx))
     case first =>
      have hed := HN3.out.env.step (drew_one w3)
      have HED := Lib.hid hed
      clear hed
      go_region_held3 (boxF w.heap.size x)
       (first
        | exact HED.out.box.flat
        | exact (HED.out.step hb4).box.flat)
       (first
        | (go_at_call 84; (with_reducible refine (HBC.out _ HED.out.tab (HT3.out.below (drew_one w3))).mono ?_); rintro e w4 ⟨rfl, hb4⟩)
        | fail)
      all_goals
       have hf := (drew_one w3).trans (hb4.mono (drew_one w3).size)
       try (go_wp2_with fail)
       go_meet
       exact ⟨by cases Bk <;> rfl, hf⟩
     case rest =>
      obtain ⟨rfl, hcb⟩ := hcut
      generalize wc = W at hcb ⊢
      have HN := Lib.hid (HN3.out.step hcb.out)
      have HO := Lib.hid (HO3.out.below hcb.out)
      have HB := Lib.hid (HB3.out.trans (hcb.out.mono HB3.out.size))
      clear hj1 hj2 hj3 hj4 hj5 HT3 HML hnj HBC HN3 HO3 HB3 hBk hP3
      cases Bk with
      | true =>
       have HP : Hid (resO T O (a : Int) c = none) := HMN.out (HBN.out rfl)
       clear HBU HBN HMC HMN
       by_cases hz0 : z = 0
       ·have dz : (z == 0) = true := by simp [hz0]
        have HC4 : Hid (Cst T D (k + 1) (no : Int) (O ++ [c])) := by
         have := hcst.out.zero (by rw [HM.out]; exact hlt) HC.out HFC.out.1 HP.out (by rw [hz.out]; exact hz0)
         rw [HNO.out] at this; exact this
        have HLI := Lib.hid (lit_ints W #[.int .i64 c] [c] 3 rfl)
        have HOA : Hid (Ints (W.alloc (.cells #[.int .i64 c] 3)) wk.heap.size (.slice (some ⟨go, 0, none⟩) no cO) O) := HO.out.alloc _
        have hsz : wk.heap.size ≤ (W.alloc (.cells #[.int .i64 c] 3)).heap.size := by have := HB.out.size; simp; omega
        have HBA := Lib.hid (HB.out.alloc HB.out.size (.cells #[.int .i64 c] 3))
        clear hz0
        go_wp2_with (at_builtin; (refine wpList_append_ints _ _ rfl rfl wk.heap.size (.slice (some ⟨go, 0, none⟩) no cO) O rfl HOA.out (some ⟨W.heap.size, 0, none⟩) 1 1 [c] rfl rfl HLI.out (by rw [HNO.out]; simp; omega) hsz ?_); intro v4 w4 ho4 hg4)
        have HB4 : Hid (Below wk.heap.size wk w4) := below_appI HBA.out HOA.out (Nat.le_refl _) hg4
        have HO4 := Lib.hid ho4
        clear ho4 hg4 hsz
        go_wp2
        go_roundw
        case rel => exact ⟨k + 1, _, _, by omega, by go_num, rfl, HC4, HO4, HB4⟩
        case measure => simp [intOf]; omega
       ·have dz : (z == 0) = false := by simp [hz0]
        have HC4 : Hid (Cst T D (k + 1) (a : Int) (O ++ [c])) := hcst.out.mark (by rw [HM.out]; exact hlt) HC.out HFC.out.1 HP.out (by rw [hz.out]; exact hz0)
        have HLI := Lib.hid (lit_ints W #[.int .i64 c] [c] 3 rfl)
        have HOA : Hid (Ints (W.alloc (.cells #[.int .i64 c] 3)) wk.heap.size (.slice (some ⟨go, 0, none⟩) no cO) O) := HO.out.alloc _
        have hsz : wk.heap.size ≤ (W.alloc (.cells #[.int .i64 c] 3)).heap.size := by have := HB.out.size; simp; omega
        have HBA := Lib.hid (HB.out.alloc HB.out.size (.cells #[.int .i64 c] 3))
        clear hz0
        go_wp2_with (at_builtin; (refine wpList_append_ints _ _ rfl rfl wk.heap.size (.slice (some ⟨go, 0, none⟩) no cO) O rfl HOA.out (some ⟨W.heap.size, 0, none⟩) 1 1 [c] rfl rfl HLI.out (by rw [HNO.out]; simp; omega) hsz ?_); intro v4 w4 ho4 hg4)
        have HB4 : Hid (Below wk.heap.size wk w4) := below_appI HBA.out HOA.out (Nat.le_refl _) hg4
        have HO4 := Lib.hid ho4
        clear ho4 hg4 hsz
        go_wp2
        go_roundw
        case rel => exact ⟨k + 1, _, _, by omega, by go_num, rfl, HC4, HO4, HB4⟩
        case measure => simp [intOf]; omega
      | false =>
       have HPC : Hid (resO T O (a : Int) c = pairO T sO c) := HMC.out (HBU.out rfl)
       obtain ⟨⟨p', o⟩, hpo⟩ : ∃ y, Hid (pairT0 T sO c = y) := ⟨_, rfl⟩
       obtain ⟨n0, n1⟩ := HN.out.cells
       have hkp := fun W2 (h : Known T B C W2) => kpair_at T B C sO c p' o W2 h HV.out (fin_wf HSC.out) (fin_wf HFC.out.1) hpo
       have HKP := Lib.hid hkp
       clear hkp
       have hga2 : W.cell? ⟨go, a, none⟩ = some (.int .i64 sO) := (hcb.out.cell (p := ⟨go, a, none⟩) (World.block_lt_of_cell? _ _ HGA.out)).trans HGA.out
       clear HBU HBN HMC HMN
       go_upto_region 12 with (fail)
       go_cut [14, 15] (fun u v wx => u = .int .i64 p' ∧ v = .bool o ∧ Hid (Below W.heap.size W wx))
       case first =>
        go_region_held3 (fun w' => w'.cell? ⟨w2.heap.size, 0, none⟩ = some (.map (some B)) ∧ w'.cell? ⟨w2.heap.size, 1, none⟩ = some (.map (some C)) ∧ w'.cell? ⟨go, a, none⟩ = some (.int .i64 sO))
         (first
          | exact ⟨n0, n1, hga2⟩
          | exact ⟨(hb5.cell (p := ⟨w2.heap.size, 0, none⟩) (World.block_lt_of_cell? _ _ n0)).trans n0, (hb5.cell (p := ⟨w2.heap.size, 1, none⟩) (World.block_lt_of_cell? _ _ n1)).trans n1, (hb5.cell (p := ⟨go, a, none⟩) (World.block_lt_of_cell? _ _ hga2)).trans hga2⟩)
         (first
          | (go_at_call 85; (with_reducible refine (HKP.out _ (HN.out.known.below (drew_one W))).mono ?_); rintro e w5 ⟨rfl, hb5⟩)
          | fail)
        all_goals
         have hf := (drew_one W).trans (hb5.mono (drew_one W).size)
         try (go_wp2_with fail)
         go_meet
         exact ⟨rfl, rfl, hf⟩
       case rest =>
        obtain ⟨rfl, rfl, hcb2⟩ := hcut
        generalize wc = W3 at hcb2 ⊢
        replace HN := Lib.hid (HN.out.step hcb2.out)
        replace HO := Lib.hid (HO.out.below hcb2.out)
        replace HB := Lib.hid (HB.out.trans (hcb2.out.mono HB.out.size))
        have HGA3 : Hid (W3.cell? ⟨go, a, none⟩ = some (.int .i64 sO)) := (hcb2.out.cell (p := ⟨go, a, none⟩) (World.block_lt_of_cell? _ _ hga2)).trans hga2
        clear n0 n1 hga2
        cases o with
        | true =>
         have HP : Hid (resO T O (a : Int) c = some p') := by unfold Hid; rw [HPC.out]; exact pairT0_some hpo.out
         have HC4 : Hid (Cst T D (k + 1) (a : Int) (O.set a p')) := by
          have := hcst.out.comp HV.out (by rw [HM.out]; exact hlt) HC.out HFC.out HP.out
          rwa [Int.toNat_natCast] at this
         have hst := HO.out.set HNO.out a p'
         have HSET := Lib.hid hst
         have HB4 : Hid (Below wk.heap.size wk (W3.setCell ⟨go, a, none⟩ (.int .i64 p'))) := HB.out.grown (grownBy_store W3 go a (.int .i64 p')) HB.out.size (fun k e => by injection e with e; omega)
         have hga3 := HGA3.out
         obtain ⟨g5, c5, e5, _, _, _, hf5⟩ := HO.out.row (by rw [HNO.out]; omega)
         injection e5 with e5 _ _
         injection e5 with e5
         injection e5 with e5 _ _
         subst e5
         have hfr := hf5 a
         clear hst hf5
         go_wp2
         go_roundw
         case rel => exact ⟨k + 1, _, _, by omega, by go_num, rfl, HC4, HSET, HB4⟩
         case measure => simp [intOf]; omega
        | false =>
         have HP : Hid (resO T O (a : Int) c = none) := by unfold Hid; rw [HPC.out]; exact (pairT0_none hpo.out).1
         by_cases hz0 : z = 0
         ·have dz : (z == 0) = true := by simp [hz0]
          have HC4 : Hid (Cst T D (k + 1) (no : Int) (O ++ [c])) := by
           have := hcst.out.zero (by rw [HM.out]; exact hlt) HC.out HFC.out.1 HP.out (by rw [hz.out]; exact hz0)
           rw [HNO.out] at this; exact this
          have HLI := Lib.hid (lit_ints W3 #[.int .i64 c] [c] 3 rfl)
          have HOA : Hid (Ints (W3.alloc (.cells #[.int .i64 c] 3)) wk.heap.size (.slice (some ⟨go, 0, none⟩) no cO) O) := HO.out.alloc _
          have hsz : wk.heap.size ≤ (W3.alloc (.cells #[.int .i64 c] 3)).heap.size := by have := HB.out.size; simp; omega
          have HBA := Lib.hid (HB.out.alloc HB.out.size (.cells #[.int .i64 c] 3))
          clear hz0
          go_wp2_with (at_builtin; (refine wpList_append_ints _ _ rfl rfl wk.heap.size (.slice (some ⟨go, 0, none⟩) no cO) O rfl HOA.out (some ⟨W3.heap.size, 0, none⟩) 1 1 [c] rfl rfl HLI.out (by rw [HNO.out]; simp; omega) hsz ?_); intro v4 w4 ho4 hg4)
          have HB4 : Hid (Below wk.heap.size wk w4) := below_appI HBA.out HOA.out (Nat.le_refl _) hg4
          have HO4 := Lib.hid ho4
          clear ho4 hg4 hsz
          go_wp2
          go_roundw
          case rel => exact ⟨k + 1, _, _, by omega, by go_num, rfl, HC4, HO4, HB4⟩
          case measure => simp [intOf]; omega
         ·have dz : (z == 0) = false := by simp [hz0]
          have HC4 : Hid (Cst T D (k + 1) (a : Int) (O ++ [c])) := hcst.out.mark (by rw [HM.out]; exact hlt) HC.out HFC.out.1 HP.out (by rw [hz.out]; exact hz0)
          have HLI := Lib.hid (lit_ints W3 #[.int .i64 c] [c] 3 rfl)
          have HOA : Hid (Ints (W3.alloc (.cells #[.int .i64 c] 3)) wk.heap.size (.slice (some ⟨go, 0, none⟩) no cO) O) := HO.out.alloc _
          have hsz : wk.heap.size ≤ (W3.alloc (.cells #[.int .i64 c] 3)).heap.size := by have := HB.out.size; simp; omega
          have HBA := Lib.hid (HB.out.alloc HB.out.size (.cells #[.int .i64 c] 3))
          clear hz0
          go_wp2_with (at_builtin; (refine wpList_append_ints _ _ rfl rfl wk.heap.size (.slice (some ⟨go, 0, none⟩) no cO) O rfl HOA.out (some ⟨W3.heap.size, 0, none⟩) 1 1 [c] rfl rfl HLI.out (by rw [HNO.out]; simp; omega) hsz ?_); intro v4 w4 ho4 hg4)
          have HB4 : Hid (Below wk.heap.size wk w4) := below_appI HBA.out HOA.out (Nat.le_refl _) hg4
          have HO4 := Lib.hid ho4
          clear ho4 hg4 hsz
          go_wp2
          go_roundw
          case rel => exact ⟨k + 1, _, _, by omega, by go_num, rfl, HC4, HO4, HB4⟩
          case measure => simp [intOf]; omega
   ·obtain rfl : k = m := by omega
    have HLO : Hid (O = L) := by
     have := hcst.out
     rw [← HM.out] at this
     unfold Hid
     rw [← HLL.out]; exact this.done.symm
    have HBZ : Hid (Below w.heap.size w wr) := hns.out.env.bel
    have HSS : Hid (w.heap.size ≤ wk.heap.size) := HNS.out.env.bel.size
    obtain ⟨pO, cO, rfl, hiO⟩ := hown.out.inn
    have HOW := Lib.hid (hown.out.mono HSS.out)
    clear hiO
    rw [HLO.out] at HOW ⊢
    go_wp2
    go_ret2
    exact ⟨_, rfl, HOW.out, HBZ.out⟩
 ·have d0 : (E != 0) = true := by simp [h0]
  have HLN : Hid (L = []) := by unfold Hid; rw [← hL.out]; exact nfcL_err (by rw [hE.out]; exact h0)
  clear h0
  go_wp2
  go_ret2
  rw [HLN.out]
  exact ⟨_, rfl, Ints.nil _ _, HE.out.bel⟩
theorem isnC_err {T : Tb} {l : List Int} (h : nfdE T l ≠ 0) : isnC T l = false := by unfold isnC; rw [decide_eq_false h]; rfl
theorem isnC_ok {T : Tb} {l : List Int} (h : nfdE T l = 0) : isnC T l = (nfcL T l == l) := by unfold isnC; rw [decide_eq_true h]; rfl
set_option maxRecDepth 100000 in
set_option maxHeartbeats 4000000 in
theorem isnfc_at (x : TV) (T : Tb) (p : Option Addr) (cap : Nat) (zs : List Int) (B : Bool) (w : World) (hx : TabV w x T) (hr : Rsv w) (hin : IntsIn w p zs) (hl : zs.length ≤ 17592186043904)
 (hB : Hid (isnC T zs = B)) :
 Calls Tryz.prog 35 #[x.agg, .slice p zs.length cap] w (Gives (.bool B) w) := by
 have HE := Lib.hid (Env.new hx)
 have HI := Lib.hid hin
 have HR := Lib.hid hr
 obtain ⟨E, hE⟩ : ∃ E, Hid (nfdE T zs = E) := ⟨_, rfl⟩
 obtain ⟨L, hL⟩ : ∃ L, Hid (nfcL T zs = L) := ⟨_, rfl⟩
 have hod := fun W (h1 : TabV W x T) h2 h3 => nfc_at x T p cap zs E L W h1 h2 h3 hl hE hL
 obtain ⟨n, hn⟩ : ∃ n, zs.length = n := ⟨_, rfl⟩
 rw [hn] at hl hod ⊢
 have HN := Lib.hid hn
 have HOD := Lib.hid hod
 clear hx hin hn hr hod
 simp only [TV.agg]
 go_enter Tryz.func35, Tryz.ntmps35
 obtain ⟨⟨k0, k1, k2, k3, k4, k5⟩, ⟨k6, k7, k8, k9, k10, k11⟩⟩ := HE.out.box.load
 go_wp2_with fail
 refine (HOD.out _ HE.out.tab (HR.out.below HE.out.bel) (HI.out.below HE.out.bel)).mono ?_
 rintro e w1 ⟨v1, rfl, ho1, hb1⟩
 replace HE := Lib.hid (HE.out.step hb1)
 have HO := Lib.hid ho1
 clear hb1 ho1 k0 k1 k2 k3 k4 k5 k6 k7 k8 k9 k10 k11
 by_cases h0 : E = 0
 ·subst h0
  have HLB : Hid ((L == zs) = B) := by unfold Hid; rw [← hB.out, isnC_ok hE.out, hL.out]
  have HSI : Hid (InV w1 v1 L) := HO.out.inV (by rw [← hL.out]; have := nfcL_len T zs; omega)
  have HZI : Hid (InV w1 (.slice p n cap) zs) := ⟨p, cap, by rw [HN.out], HI.out.below HE.out.bel, by rw [HN.out]; omega⟩
  go_wp2_with fail
  refine (equal_at _ _ L zs B _ HSI.out HZI.out HLB).mono ?_
  rintro e w2 ⟨rfl, hb2⟩
  replace HE := Lib.hid (HE.out.step hb2)
  clear hb2
  go_wp2
  go_ret
  exact ⟨rfl, HE.out.bel⟩
 ·have d0 : (E == 0) = false := by simp [h0]
  have HBF : Hid (B = false) := by unfold Hid; rw [← hB.out]; exact isnC_err (by rw [hE.out]; exact h0)
  clear h0
  go_wp2
  go_ret
  exact ⟨by rw [HBF.out]; rfl, HE.out.bel⟩
end Go.Proofs.YtopaojjodkoidaaGreatDoor
