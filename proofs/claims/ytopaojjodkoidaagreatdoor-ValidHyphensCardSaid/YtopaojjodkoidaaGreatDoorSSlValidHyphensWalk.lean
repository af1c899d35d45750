/-
  The walk of ValidHyphens (genVW.py).
-/
import Derived.Test.YtopaojjodkoidaaGreatDoorSSlPkZZO
import Derived.Test.YtopaojjodkoidaaGreatDoorSSlTblQ
set_option linter.unusedSimpArgs false
set_option linter.unusedVariables false
namespace Go.Proofs.YtopaojjodkoidaaGreatDoor
open Go.RowKit
set_option linter.unusedVariables false

def hyP : List Int := [45, 97, 45, 98]
/-- The label of the law. -/
def hyL (l : List Int) : List Int := l.map fun b => hyP.getD (b % 4).toNat 0
theorem hyL_snoc (l : List Int) (k : Nat) (hk : k < l.length) : hyL (l.take (k + 1)) = hyL (l.take k) ++ [hyP.getD (l.getD k 0 % 4).toNat 0] := by
  rw [take_snoc_int l k hk]; unfold hyL; simp
theorem hyL_len (l : List Int) : (hyL l).length = l.length := by unfold hyL; simp
theorem hyp_val {X : List Int} {k : Nat} {a0 a1 a2 a3 : Int} (hk : X.length = k) (h0 : X.getD 0 0 = a0) (h1 : X.getD (k - 1) 0 = a1) (h2 : X.getD 2 0 = a2) (h3 : X.getD 3 0 = a3) :
    hypB X = (if 4 ≤ k ∧ a2 = 45 ∧ a3 = 45 then false else decide (k = 0) || (decide (a0 ≠ 45) && decide (a1 ≠ 45))) := by
  rw [hyp_want]; unfold wantH
  subst hk h0 h1 h2 h3
  rfl

set_option maxRecDepth 100000 in
set_option maxHeartbeats 8000000 in
theorem validHyphens_walk (p0 : Option Addr) (cap0 : Nat) (bs : List Int) (w : World)  (hin0 : RowIn .u8 w p0 bs) (hl0 : bs.length ≤ 140737488351232) (hby : ∀ z ∈ bs, (Lit.int .u8 z).wf = true) (hr : Rsv w) :
    Calls Tryz.prog 5 #[.slice p0 bs.length cap0] w (Gives (.bool true) w) := by
  have HR := Lib.hid hr
  have HI0 := Lib.hid hin0
  have HBY := Lib.hid hby
  obtain ⟨nb, hnb⟩ : ∃ n, bs.length = n := ⟨_, rfl⟩
  rw [hnb] at hl0 ⊢
  have HNB := Lib.hid hnb
  clear  hr hin0 hby hnb
  go_enter Tryz.func5, Tryz.ntmps5
  go_wp2
  go_loopw [3, 4] (fun v i wr => ∃ k : Nat, k ≤ nb ∧ k ≤ 8 ∧ i = .int .i64 k ∧ Hid (Ints wr w.heap.size v (hyL (bs.take k))) ∧ Hid (Below w.heap.size w wr)) (fun _ i _ => 8 - (intOf i).toNat)
  case atStart => exact ⟨0, Nat.zero_le _, Nat.zero_le _, rfl, Ints.nil _ _, Below.refl _ _⟩
  case round =>
    obtain ⟨k, hk, hk8, rfl, hown, hbel⟩ := hrel
    by_cases hlt : k < nb ∧ k < 8
    · obtain ⟨hlt, hlt8⟩ := hlt
      have hkl : k < bs.length := by rw [HNB.out]; exact hlt
      obtain ⟨b, off, rfl, hck⟩ := (HI0.out.below (hbel.out.alloc hbel.out.size (.cells #[.int .i64 45, .int .i64 97, .int .i64 45, .int .i64 98] 3))) k hkl
      obtain ⟨z, hz⟩ : ∃ z, bs.getD k 0 = z := ⟨_, rfl⟩
      rw [hz] at hck
      have hwf := HBY.out z (by rw [← hz]; simp [hkl])
      have hz0 : 0 ≤ z ∧ z ≤ 255 := by simp only [Lit.wf, Bool.and_eq_true, decide_eq_true_eq] at hwf; exact hwf
      obtain ⟨hz0, hz255⟩ := hz0
      have HIS := Lib.hid (hyL_snoc bs k hkl)
      rw [hz] at HIS
      have hli : (hyL (bs.take k)).length ≤ 60 := by rw [hyL_len]; simp; omega
      obtain ⟨q, hq⟩ : ∃ q : Nat, z % 4 = q := ⟨(z % 4).toNat, by omega⟩
      have hq4 : q < 4 := by omega
      rw [hq, Int.toNat_natCast] at HIS
      have hqt : z.tmod 4 = q := by rw [Int.tmod_eq_emod_of_nonneg hz0]; exact hq
      obtain ⟨_, _, hbe, hcl⟩ := (lit_ints wr #[.int .i64 45, .int .i64 97, .int .i64 45, .int .i64 98] hyP 3 rfl) q hq4
      cases hbe
      obtain ⟨y, hy⟩ : ∃ y, hyP.getD q 0 = y := ⟨_, rfl⟩
      rw [hy, Nat.zero_add] at hcl
      rw [hy] at HIS
      have i4 : (q : Int) < 4 := by omega
      have HOW := Lib.hid (Ints.alloc (Ints.alloc hown.out (.cells #[.int .i64 45, .int .i64 97, .int .i64 45, .int .i64 98] 3)) (.cells #[.int .i64 y] 3))
      have hbw := hbel.out.alloc hbel.out.size (.cells #[.int .i64 45, .int .i64 97, .int .i64 45, .int .i64 98] 3)
      have HBW := Lib.hid (hbw.alloc hbw.size (.cells #[.int .i64 y] 3))
      have hd1 : decide ((k : Int) < (nb : Int)) = true := decide_eq_true (by omega)
      have hd2 : decide ((k : Int) < 8) = true := decide_eq_true (by omega)
      have HLI := Lib.hid hli
      clear hz hwf hli hkl hq hy hbw
      go_wp2_with (at_builtin; (refine wpList_append_one _ _ rfl rfl w.heap.size u3 (hyL (bs.take k)) (by rfl) (by exact HOW.out) _ 1 y (by rfl) (by simp [World.cell?_alloc_new]) (by have := HLI.out; omega) HBW.out.size ?_); intro v4 w4 ho4 hg4 hv4)
      have HO4 : Hid (Ints w4 w.heap.size v4 (hyL (bs.take (k + 1)))) := by unfold Hid; rw [HIS.out]; exact ho4
      have HB4 := Lib.hid (below_appI HBW.out HOW.out (Nat.le_refl _) hg4)
      clear ho4 hg4 hv4 hck hcl
      go_wp2
      go_roundw
      case rel => exact ⟨k + 1, by omega, by omega, by go_num, HO4, HB4⟩
      case measure => first | (simp [intOf]; done) | (simp [intOf]; omega)
    · by_cases h1 : k < nb
      · have hd1 : decide ((k : Int) < (nb : Int)) = true := decide_eq_true (by omega)
        have hd2 : decide ((k : Int) < 8) = false := decide_eq_false (by omega)
        have hlen : (hyL (bs.take k)).length = k := by rw [hyL_len, List.length_take, HNB.out]; omega
        obtain ⟨X, hX⟩ : ∃ X, hyL (bs.take k) = X := ⟨_, rfl⟩
        have hrw := hown.out
        rw [hX] at hrw hlen
        obtain ⟨pX, cX, e6, hi6⟩ := hrw.inn
        rw [hlen] at e6
        subst e6
        have HX := Lib.hid hi6
        have HXL := Lib.hid hlen
        have HB := hbel
        obtain ⟨a0, h0⟩ : ∃ a, X.getD 0 0 = a := ⟨_, rfl⟩
        obtain ⟨a1, ha1⟩ : ∃ a, X.getD (k - 1) 0 = a := ⟨_, rfl⟩
        obtain ⟨a2, h2⟩ : ∃ a, X.getD 2 0 = a := ⟨_, rfl⟩
        obtain ⟨a3, h3⟩ : ∃ a, X.getD 3 0 = a := ⟨_, rfl⟩
        obtain ⟨W1, hW1⟩ : ∃ W, (decide (k = 0) || (decide (a0 ≠ 45) && decide (a1 ≠ 45))) = W := ⟨_, rfl⟩
        obtain ⟨C, hC⟩ : ∃ W, decide (4 ≤ k ∧ a2 = 45 ∧ a3 = 45) = W := ⟨_, rfl⟩
        have HVAL : Hid (hypB X = (if C = true then false else W1)) := by
          unfold Hid
          rw [hyp_val hlen h0 ha1 h2 h3, hW1, ← hC]
          simp only [decide_eq_true_eq]
        have HW1 := Lib.hid hW1
        have HC := Lib.hid hC
        have HK4 : Hid (k ≤ 17592186043904) := by unfold Hid; omega
        have H0 := Lib.hid h0
        have H1 := Lib.hid ha1
        have H2 := Lib.hid h2
        have H3 := Lib.hid h3
        clear hX hrw hi6 hlen hown hbel h0 ha1 h2 h3 hW1 hC
        go_upto_region 7 with (fail)
        go_cut [6] (fun v wx => v = .bool W1 ∧ Hid (IntsIn wx pX X) ∧ Hid (Below w.heap.size w wx))
        case first =>
          by_cases hk0 : k = 0
          · have dn : ((k : Int) == 0) = true := by simp [hk0]
            have hg : W1 = true := by rw [← HW1.out]; simp [hk0]
            subst hg
            go_wp2_with fail
            go_meet
            exact ⟨rfl, HX, HB⟩
          · have dn : ((k : Int) == 0) = false := by simp; omega
            have j0 : (0 : Int) < (k : Int) := by omega
            have j1 : 0 < k := by omega
            obtain ⟨b, off, e, hc0⟩ := HX.out 0 (by rw [HXL.out]; omega)
            subst e
            obtain ⟨b', off', e, hc1⟩ := HX.out (k - 1) (by rw [HXL.out]; omega)
            injection e with e
            injection e with e e2 _
            subst e
            subst e2
            rw [H0.out, Nat.add_zero] at hc0
            rw [H1.out] at hc1
            obtain ⟨m, hm⟩ : ∃ m, k - 1 = m := ⟨_, rfl⟩
            rw [hm] at hc1
            have s1 : (k : Int) - 1 = m := by omega
            have s2 : IntKind.i64.wrap (m : Int) = m := IntWalk.i64_in _ (by omega)
            have s3 : m < k := by omega
            have s4 : (m : Int) < k := by omega
            by_cases h7 : a0 = 45
            · have d0 : (a0 != 45) = false := by simp [h7]
              have hg : W1 = false := by rw [← HW1.out, decide_eq_false hk0]; simp [h7]
              subst hg
              clear hm h7
              go_wp2_with fail
              go_meet
              exact ⟨rfl, HX, HB⟩
            · have d0 : (a0 != 45) = true := by simp [h7]
              by_cases h8 : a1 = 45
              · have d1 : (a1 != 45) = false := by simp [h8]
                have hg : W1 = false := by rw [← HW1.out, decide_eq_false hk0]; simp [h8]
                subst hg
                clear hm h7 h8
                go_wp2_with fail
                go_meet
                exact ⟨rfl, HX, HB⟩
              · have d1 : (a1 != 45) = true := by simp [h8]
                have hg : W1 = true := by rw [← HW1.out]; simp [h7, h8]
                subst hg
                clear hm h7 h8
                go_wp2_with fail
                go_meet
                exact ⟨rfl, HX, HB⟩
        case rest =>
          obtain ⟨rfl, HX, HB⟩ := hcut
          generalize wc = W5 at HX HB ⊢
          go_upto_region 8 with (fail)
          go_cut [59] (fun v wx => v = .bool C ∧ Hid (IntsIn wx pX X) ∧ Hid (Below w.heap.size w wx))
          case first =>
            by_cases hk4 : k < 4
            · have g4 : decide ((4 : Int) ≤ (k : Int)) = false := decide_eq_false (by omega)
              have hg : C = false := by rw [← HC.out]; exact decide_eq_false (fun h => by omega)
              subst hg
              go_wp2_with fail
              go_meet
              exact ⟨rfl, HX, HB⟩
            · have g4 : decide ((4 : Int) ≤ (k : Int)) = true := decide_eq_true (by omega)
              obtain ⟨b2, off2, e, hc2⟩ := HX.out 2 (by rw [HXL.out]; omega)
              subst e
              obtain ⟨b3, off3, e, hc3⟩ := HX.out 3 (by rw [HXL.out]; omega)
              injection e with e
              injection e with e e2 _
              subst e
              subst e2
              rw [H2.out] at hc2
              rw [H3.out] at hc3
              have j2 : (2 : Int) < (k : Int) := by omega
              have j3 : (3 : Int) < (k : Int) := by omega
              have j4 : 2 < k := by omega
              have j5 : 3 < k := by omega
              by_cases h45 : a2 = 45
              · have d5 : (a2 == 45) = true := by simp [h45]
                by_cases h46 : a3 = 45
                · have d6 : (a3 == 45) = true := by simp [h46]
                  have hg : C = true := by rw [← HC.out]; exact decide_eq_true ⟨by omega, h45, h46⟩
                  subst hg
                  clear h45 h46
                  go_wp2_with fail
                  go_meet
                  exact ⟨rfl, HX, HB⟩
                · have d6 : (a3 == 45) = false := by simp [h46]
                  have hg : C = false := by rw [← HC.out]; exact decide_eq_false (fun h => h46 h.2.2)
                  subst hg
                  clear h45 h46
                  go_wp2_with fail
                  go_meet
                  exact ⟨rfl, HX, HB⟩
              · have d5 : (a2 == 45) = false := by simp [h45]
                have hg : C = false := by rw [← HC.out]; exact decide_eq_false (fun h => h45 h.2.1)
                subst hg
                clear h45
                go_wp2_with fail
                go_meet
                exact ⟨rfl, HX, HB⟩
          case rest =>
            obtain ⟨rfl, HX, HB⟩ := hcut
            generalize wc = W6 at HX HB ⊢
            clear H0 H1 H2 H3 HW1 HC
            cases C with
            | true =>
              have HBV : Hid (hypB X = false) := HVAL.out
              clear HVAL
              go_wp2_with fail
              refine (awake17_any _ (HR.out.below HB.out)).mono ?_
              rintro e w5 ⟨rfl, hb⟩
              replace HB := Lib.hid (HB.out.trans (hb.mono HB.out.size))
              replace HX := Lib.hid (HX.out.below hb)
              clear hb
              go_wp2_with fail
              refine (vhyp_at _ k cX X false _ HX.out HXL HK4.out HBV).mono ?_
              rintro e w6 ⟨rfl, hb⟩
              have HBZ := Lib.hid (HB.out.trans (hb.mono HB.out.size))
              clear hb
              go_wp2
              go_ret
              exact ⟨rfl, HBZ.out⟩
            | false =>
              have HBV : Hid (hypB X = W1) := HVAL.out
              have dw : (W1 == W1) = true := by simp
              clear HVAL
              go_wp2_with fail
              refine (awake17_any _ (HR.out.below HB.out)).mono ?_
              rintro e w5 ⟨rfl, hb⟩
              replace HB := Lib.hid (HB.out.trans (hb.mono HB.out.size))
              replace HX := Lib.hid (HX.out.below hb)
              clear hb
              go_wp2_with fail
              refine (vhyp_at _ k cX X W1 _ HX.out HXL HK4.out HBV).mono ?_
              rintro e w6 ⟨rfl, hb⟩
              have HBZ := Lib.hid (HB.out.trans (hb.mono HB.out.size))
              clear hb
              go_wp2
              go_ret
              exact ⟨rfl, HBZ.out⟩
      · have hd1 : decide ((k : Int) < (nb : Int)) = false := decide_eq_false (by omega)
        have hlen : (hyL (bs.take k)).length = k := by rw [hyL_len, List.length_take, HNB.out]; omega
        obtain ⟨X, hX⟩ : ∃ X, hyL (bs.take k) = X := ⟨_, rfl⟩
        have hrw := hown.out
        rw [hX] at hrw hlen
        obtain ⟨pX, cX, e6, hi6⟩ := hrw.inn
        rw [hlen] at e6
        subst e6
        have HX := Lib.hid hi6
        have HXL := Lib.hid hlen
        have HB := hbel
        obtain ⟨a0, h0⟩ : ∃ a, X.getD 0 0 = a := ⟨_, rfl⟩
        obtain ⟨a1, ha1⟩ : ∃ a, X.getD (k - 1) 0 = a := ⟨_, rfl⟩
        obtain ⟨a2, h2⟩ : ∃ a, X.getD 2 0 = a := ⟨_, rfl⟩
        obtain ⟨a3, h3⟩ : ∃ a, X.getD 3 0 = a := ⟨_, rfl⟩
        obtain ⟨W1, hW1⟩ : ∃ W, (decide (k = 0) || (decide (a0 ≠ 45) && decide (a1 ≠ 45))) = W := ⟨_, rfl⟩
        obtain ⟨C, hC⟩ : ∃ W, decide (4 ≤ k ∧ a2 = 45 ∧ a3 = 45) = W := ⟨_, rfl⟩
        have HVAL : Hid (hypB X = (if C = true then false else W1)) := by
          unfold Hid
          rw [hyp_val hlen h0 ha1 h2 h3, hW1, ← hC]
          simp only [decide_eq_true_eq]
        have HW1 := Lib.hid hW1
        have HC := Lib.hid hC
        have HK4 : Hid (k ≤ 17592186043904) := by unfold Hid; omega
        have H0 := Lib.hid h0
        have H1 := Lib.hid ha1
        have H2 := Lib.hid h2
        have H3 := Lib.hid h3
        clear hX hrw hi6 hlen hown hbel h0 ha1 h2 h3 hW1 hC
        go_upto_region 7 with (fail)
        go_cut [6] (fun v wx => v = .bool W1 ∧ Hid (IntsIn wx pX X) ∧ Hid (Below w.heap.size w wx))
        case first =>
          by_cases hk0 : k = 0
          · have dn : ((k : Int) == 0) = true := by simp [hk0]
            have hg : W1 = true := by rw [← HW1.out]; simp [hk0]
            subst hg
            go_wp2_with fail
            go_meet
            exact ⟨rfl, HX, HB⟩
          · have dn : ((k : Int) == 0) = false := by simp; omega
            have j0 : (0 : Int) < (k : Int) := by omega
            have j1 : 0 < k := by omega
            obtain ⟨b, off, e, hc0⟩ := HX.out 0 (by rw [HXL.out]; omega)
            subst e
            obtain ⟨b', off', e, hc1⟩ := HX.out (k - 1) (by rw [HXL.out]; omega)
            injection e with e
            injection e with e e2 _
            subst e
            subst e2
            rw [H0.out, Nat.add_zero] at hc0
            rw [H1.out] at hc1
            obtain ⟨m, hm⟩ : ∃ m, k - 1 = m := ⟨_, rfl⟩
            rw [hm] at hc1
            have s1 : (k : Int) - 1 = m := by omega
            have s2 : IntKind.i64.wrap (m : Int) = m := IntWalk.i64_in _ (by omega)
            have s3 : m < k := by omega
            have s4 : (m : Int) < k := by omega
            by_cases h7 : a0 = 45
            · have d0 : (a0 != 45) = false := by simp [h7]
              have hg : W1 = false := by rw [← HW1.out, decide_eq_false hk0]; simp [h7]
              subst hg
              clear hm h7
              go_wp2_with fail
              go_meet
              exact ⟨rfl, HX, HB⟩
            · have d0 : (a0 != 45) = true := by simp [h7]
              by_cases h8 : a1 = 45
              · have d1 : (a1 != 45) = false := by simp [h8]
                have hg : W1 = false := by rw [← HW1.out, decide_eq_false hk0]; simp [h8]
                subst hg
                clear hm h7 h8
                go_wp2_with fail
                go_meet
                exact ⟨rfl, HX, HB⟩
              · have d1 : (a1 != 45) = true := by simp [h8]
                have hg : W1 = true := by rw [← HW1.out]; simp [h7, h8]
                subst hg
                clear hm h7 h8
                go_wp2_with fail
                go_meet
                exact ⟨rfl, HX, HB⟩
        case rest =>
          obtain ⟨rfl, HX, HB⟩ := hcut
          generalize wc = W5 at HX HB ⊢
          go_upto_region 8 with (fail)
          go_cut [59] (fun v wx => v = .bool C ∧ Hid (IntsIn wx pX X) ∧ Hid (Below w.heap.size w wx))
          case first =>
            by_cases hk4 : k < 4
            · have g4 : decide ((4 : Int) ≤ (k : Int)) = false := decide_eq_false (by omega)
              have hg : C = false := by rw [← HC.out]; exact decide_eq_false (fun h => by omega)
              subst hg
              go_wp2_with fail
              go_meet
              exact ⟨rfl, HX, HB⟩
            · have g4 : decide ((4 : Int) ≤ (k : Int)) = true := decide_eq_true (by omega)
              obtain ⟨b2, off2, e, hc2⟩ := HX.out 2 (by rw [HXL.out]; omega)
              subst e
              obtain ⟨b3, off3, e, hc3⟩ := HX.out 3 (by rw [HXL.out]; omega)
              injection e with e
              injection e with e e2 _
              subst e
              subst e2
              rw [H2.out] at hc2
              rw [H3.out] at hc3
              have j2 : (2 : Int) < (k : Int) := by omega
              have j3 : (3 : Int) < (k : Int) := by omega
              have j4 : 2 < k := by omega
              have j5 : 3 < k := by omega
              by_cases h45 : a2 = 45
              · have d5 : (a2 == 45) = true := by simp [h45]
                by_cases h46 : a3 = 45
                · have d6 : (a3 == 45) = true := by simp [h46]
                  have hg : C = true := by rw [← HC.out]; exact decide_eq_true ⟨by omega, h45, h46⟩
                  subst hg
                  clear h45 h46
                  go_wp2_with fail
                  go_meet
                  exact ⟨rfl, HX, HB⟩
                · have d6 : (a3 == 45) = false := by simp [h46]
                  have hg : C = false := by rw [← HC.out]; exact decide_eq_false (fun h => h46 h.2.2)
                  subst hg
                  clear h45 h46
                  go_wp2_with fail
                  go_meet
                  exact ⟨rfl, HX, HB⟩
              · have d5 : (a2 == 45) = false := by simp [h45]
                have hg : C = false := by rw [← HC.out]; exact decide_eq_false (fun h => h45 h.2.1)
                subst hg
                clear h45
                go_wp2_with fail
                go_meet
                exact ⟨rfl, HX, HB⟩
          case rest =>
            obtain ⟨rfl, HX, HB⟩ := hcut
            generalize wc = W6 at HX HB ⊢
            clear H0 H1 H2 H3 HW1 HC
            cases C with
            | true =>
              have HBV : Hid (hypB X = false) := HVAL.out
              clear HVAL
              go_wp2_with fail
              refine (awake17_any _ (HR.out.below HB.out)).mono ?_
              rintro e w5 ⟨rfl, hb⟩
              replace HB := Lib.hid (HB.out.trans (hb.mono HB.out.size))
              replace HX := Lib.hid (HX.out.below hb)
              clear hb
              go_wp2_with fail
              refine (vhyp_at _ k cX X false _ HX.out HXL HK4.out HBV).mono ?_
              rintro e w6 ⟨rfl, hb⟩
              have HBZ := Lib.hid (HB.out.trans (hb.mono HB.out.size))
              clear hb
              go_wp2
              go_ret
              exact ⟨rfl, HBZ.out⟩
            | false =>
              have HBV : Hid (hypB X = W1) := HVAL.out
              have dw : (W1 == W1) = true := by simp
              clear HVAL
              go_wp2_with fail
              refine (awake17_any _ (HR.out.below HB.out)).mono ?_
              rintro e w5 ⟨rfl, hb⟩
              replace HB := Lib.hid (HB.out.trans (hb.mono HB.out.size))
              replace HX := Lib.hid (HX.out.below hb)
              clear hb
              go_wp2_with fail
              refine (vhyp_at _ k cX X W1 _ HX.out HXL HK4.out HBV).mono ?_
              rintro e w6 ⟨rfl, hb⟩
              have HBZ := Lib.hid (HB.out.trans (hb.mono HB.out.size))
              clear hb
              go_wp2
              go_ret
              exact ⟨rfl, HBZ.out⟩

end Go.Proofs.YtopaojjodkoidaaGreatDoor
