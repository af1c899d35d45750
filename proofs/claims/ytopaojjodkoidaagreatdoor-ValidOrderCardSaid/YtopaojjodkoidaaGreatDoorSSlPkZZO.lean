/-
  valid (stage 17): plain: what Hyphens and Check return, what a valid label satisfies, labels of letters and digits.
  valid: Hyphens by the elements themselves (plain).
  valid: the law's examples (plain).
  valid: contracts of the program's functions (genVA.py).
  The laws of valid: awake (genVL.py).
-/
import Derived.Test.YtopaojjodkoidaaGreatDoorSSlPkZS
import Derived.Test.YtopaojjodkoidaaGreatDoorSSlPkZZG
import Derived.Test.YtopaojjodkoidaaGreatDoorSSlPkZZI
import Derived.Test.YtopaojjodkoidaaGreatDoorSSlPkZZK
import Derived.Test.YtopaojjodkoidaaGreatDoorSSlTabRN
import Derived.Test.YtopaojjodkoidaaGreatDoorSSlPkZT
import Derived.Test.YtopaojjodkoidaaGreatDoorSSlPkZZU
import Derived.Test.YtopaojjodkoidaaGreatDoorSSlPkC
import Derived.Test.YtopaojjodkoidaaGreatDoorSSlPkZZS
import Derived.BigRegion
import Derived.Deep.RegionHeld3
import Derived.Test.YtopaojjodkoidaaGreatDoorSSlPkS
set_option linter.unusedSimpArgs false
set_option linter.unusedVariables false
namespace Go.Proofs.YtopaojjodkoidaaGreatDoor
set_option linter.unusedVariables false

def hypB (l : List Int) : Bool := decide (atC l 0 ≠ 45) && decide (atC l ((l.length : Int) - 1) ≠ 45) && !(decide (atC l 2 = 45) && decide (atC l 3 = 45))
/-- An element whose status is that of a valid label. -/
def staV (T : Tb) (c : Int) : Bool := decide (c ≠ 46) && (decide (staT T c = 1) || decide (staT T c = 4))
def valR (T : Tb) (l : List Int) : Int :=
  if accE T l ≠ 0 then accE T l else if l = [] then 10 else if isnC T l = false then 13 else if hypB l = false then 14
  else if catT T (l.getD 0 0) = 2 then 15 else if l.all (staV T) = false then 16 else if (chkJ T l).2 ≠ 0 then (chkJ T l).2 else (chkC T l).2

/-- A valid label. -/
theorem val_ok {T : Tb} {l : List Int} (h : valR T l = 0) : accE T l = 0 ∧ l ≠ [] ∧ isnC T l = true ∧ catT T (l.getD 0 0) ≠ 2 ∧ l.all (staV T) = true := by
  unfold valR at h
  by_cases h1 : accE T l = 0
  · rw [if_neg (by omega)] at h
    by_cases h2 : l = []
    · rw [if_pos h2] at h; omega
    · rw [if_neg h2] at h
      cases h3 : isnC T l with
      | false => rw [if_pos h3] at h; omega
      | true =>
        rw [if_neg (by rw [h3]; simp)] at h
        cases h4 : hypB l with
        | false => rw [if_pos h4] at h; omega
        | true =>
          rw [if_neg (by rw [h4]; simp)] at h
          by_cases h5 : catT T (l.getD 0 0) = 2
          · rw [if_pos h5] at h; omega
          · rw [if_neg h5] at h
            cases h6 : l.all (staV T) with
            | false => rw [if_pos h6] at h; omega
            | true => exact ⟨h1, h2, rfl, h5, rfl⟩
  · rw [if_pos h1] at h; exact absurd h h1
/-- It is its own normalization form, and stable. -/
theorem val_normal {T : Tb} {l : List Int} (h : valR T l = 0) : nfdE T l = 0 ∧ nfcL T l = l ∧ stbB T l = true ∧ l ≠ [] ∧ catT T (l.getD 0 0) ≠ 2 := by
  obtain ⟨h1, h2, h3, h4, h5⟩ := val_ok h
  obtain ⟨h6, h7⟩ := isn_facts h3
  refine ⟨h6, h7, ?_, h2, h4⟩
  have hs : ∀ y ∈ l, staT T y = 1 ∨ staT T y = 4 := fun y hy => by
    have := List.all_eq_true.1 h5 y hy
    unfold staV at this
    simp only [Bool.and_eq_true, Bool.or_eq_true, decide_eq_true_eq] at this
    exact this.2
  have hm : mapF T l = l := mapF_same hs
  have := mapR_mk h1 ((badK_none 0 l).2 fun c hc => by have := hs c hc; omega) (by rw [hm]; exact (accE_ok h1).2.1)
  unfold stbB
  rw [this, hm]
  simp

/-- Letters and digits, in tables that keep.Tables makes. -/
def lowD (c : Int) : Prop := (97 ≤ c ∧ c ≤ 122) ∨ (48 ≤ c ∧ c ≤ 57)
theorem lowD_low {c : Int} (hc : lowD c) : resB c = true ∧ scaB c = true ∧ decS c = [] ∧ kindS c = 0 := by
  unfold lowD at hc
  refine ⟨resB_iff.2 (by omega), ?_, decS_nil.2 (by omega), kindS_0 (by omega) (by omega) (by omega) (by omega)⟩
  unfold scaB; simp; omega
theorem lowD_sec {T : Tb} (h : Made T) {c : Int} (hc : lowD c) : secB T c = false := by
  have hk := (lowD_low hc).2.2.2
  unfold lowD at hc
  cases hb : secB T c with
  | false => rfl
  | true =>
    unfold secB at hb
    simp only [Bool.or_eq_true, decide_eq_true_eq, List.any_eq_true, Bool.and_eq_true] at hb
    rcases hb with hb | hb | ⟨m, hm, h2, h3, _⟩
    · omega
    · omega
    · obtain ⟨j, _, _, a, _, ht⟩ := h.dec.mem m hm
      rcases ht with e | ⟨b, hbm, e⟩
      · rw [e] at h2; simp at h2
      · rw [e] at h3
        have h4 : b = c := h3
        subst h4
        have key : ∀ b ∈ marks, ¬ ((97 ≤ b ∧ b ≤ 122) ∨ (48 ≤ b ∧ b ≤ 57)) := by decide
        exact absurd hc (key b hbm)
theorem lowD_nfc {T : Tb} (h : Made T) (l : List Int) (hl : ∀ c ∈ l, lowD c) (hn : l.length ≤ 200) : isnC T l = true := by
  have hc := h.check
  have hf : ∀ c ∈ l, Fin1 T c := fun c hcl => by
    have := lowD_low (hl c hcl)
    exact ⟨this.2.1, dec_res hc this.1, this.2.2.1⟩
  have ho : inOrd (clsT T) l := by
    rw [inOrd_iff]
    intro i hi hh
    have : l.getD (i + 1) 0 ∈ l := by simp [hi]
    have := cls_res hc (lowD_low (hl _ this)).1
    omega
  have hs : l.all scaB = true := fin_sca hf
  have ha : accE T l = 0 := accE_zero hc (by omega) hs
  have he : nfdE T l = 0 := nfd_small hc hs (by omega)
  have hq : quickT T l = 1 := by
    unfold quickT
    have h1 : srtB T l = true := by unfold srtB; rw [ha, ordS_id _ _ ho]; simp
    have h2 : (l.any fun c => decide (findM T.dec c ≠ []) && !compT T c) = false := by
      rw [List.any_eq_false]
      intro c hcl
      rw [(hf c hcl).2.1]; simp
    have h3 : (l.any fun c => secB T ((expT T c).headD 0)) = false := by
      rw [List.any_eq_false]
      intro c hcl
      rw [(hf c hcl).exp]
      have := lowD_sec h (hl c hcl)
      simpa using this
    rw [h1, if_neg (by simp), h2, if_neg (by simp), h3, if_neg (by simp)]
  exact quick_yes hq he
theorem lowD_sta {T : Tb} (h : checkT T = 0) {c : Int} (hc : lowD c) : staV T c = true := by
  have hr := (lowD_low hc).1
  unfold lowD at hc
  have hs : staT T c = 1 := by
    unfold staT
    rw [val_res (r2_sta (check_rules h).2.1) hr]
    unfold fixT
    rw [if_pos (by simp [latB, lowB, digB]; omega)]; rfl
  unfold staV
  rw [hs, decide_eq_true (by omega)]; rfl
theorem cat_low {T : Tb} (h : checkT T = 0) {c : Int} (hc : 97 ≤ c ∧ c ≤ 122) : catT T c ≠ 2 := by
  have h2 := (check_rules h).2.1
  simp only [r2, spansT, List.all_cons, List.all_nil, Bool.and_eq_true] at h2
  unfold catT
  rw [val_res h2.1.1 (resB_iff.2 (by omega))]
  unfold fixC
  rw [if_pos (by simp [lowB]; omega)]; decide
theorem lowD_at {l : List Int} (hl : ∀ c ∈ l, lowD c) (i : Int) : atC l i ≠ 45 := by
  unfold atC
  by_cases h : i < 0
  · rw [if_pos h]; decide
  · rw [if_neg h]
    by_cases h2 : i.toNat < l.length
    · have hm : l.getD i.toNat (-1) ∈ l := by simp [List.getD, h2]
      have := hl _ hm
      unfold lowD at this
      omega
    · rw [List.getD_eq_getElem?_getD, List.getElem?_eq_none (by omega)]; decide
/-- A label of letters and digits that begins with a letter is valid. -/
theorem val_letters {T : Tb} (h : Made T) {l : List Int} (hl : ∀ c ∈ l, lowD c) (hn : l.length ≤ 200) (hne : l ≠ []) (h0 : 97 ≤ l.getD 0 0 ∧ l.getD 0 0 ≤ 122) : valR T l = 0 := by
  have ha : accE T l = 0 := accE_zero h.check (by omega) (List.all_eq_true.2 fun c hc => (lowD_low (hl c hc)).2.1)
  have hj : chkJ T l = (0, 0) := by
    unfold chkJ
    rw [if_neg (by omega), (badJ_none T l l.length 0).2 fun j _ hj => by
      have hm : l.getD j 0 ∈ l := by have : j < l.length := by omega
                                     simp [this]
      have := hl _ hm
      unfold lowD at this
      unfold permB
      rw [if_pos (by omega)]]
  have hc : chkC T l = (0, 0) := chkC_ok ha fun i hi => ctx_free (by
    have hm : l.getD i 0 ∈ l := by simp [hi]
    have := hl _ hm
    unfold lowD at this
    generalize l.getD i 0 = y at this
    unfold needB arB exB
    simp; omega)
  unfold valR
  rw [if_neg (by omega), if_neg hne, if_neg (by rw [lowD_nfc h l hl hn]; simp), if_neg, if_neg (cat_low h.check h0), if_neg, hj, hc]
  · simp
  · rw [List.all_eq_true.2 fun c hc => lowD_sta h.check (hl c hc)]; simp
  · unfold hypB
    rw [decide_eq_true (lowD_at hl 0), decide_eq_true (lowD_at hl _), decide_eq_false (lowD_at hl 2)]; simp

end Go.Proofs.YtopaojjodkoidaaGreatDoor

namespace Go.Proofs.YtopaojjodkoidaaGreatDoor
set_option linter.unusedVariables false

/-- What the law about Hyphens wants. -/
def wantH (l : List Int) : Bool :=
  if 4 ≤ l.length ∧ l.getD 2 0 = 45 ∧ l.getD 3 0 = 45 then false else decide (l.length = 0) || (decide (l.getD 0 0 ≠ 45) && decide (l.getD (l.length - 1) 0 ≠ 45))
theorem atC_nat {l : List Int} {k : Nat} (h : ¬ k < l.length) : atC l k = -1 := atC_out (fun hh => h (by omega))
theorem hyp_want (l : List Int) : hypB l = wantH l := by
  unfold hypB wantH
  by_cases hn : l.length = 0
  · have e0 : atC l 0 = -1 := atC_nat (k := 0) (by omega)
    have e1 : atC l ((l.length : Int) - 1) = -1 := atC_out (fun hh => by omega)
    have e2 : atC l 2 = -1 := atC_nat (k := 2) (by omega)
    rw [e0, e1, e2, if_neg (fun h => by omega), hn]; rfl
  · have e0 : atC l 0 = l.getD 0 0 := atC_in (k := 0) (by omega)
    have e1 : atC l ((l.length : Int) - 1) = l.getD (l.length - 1) 0 := by
      have := atC_in (l := l) (k := l.length - 1) (by omega)
      rw [← this]; congr 1; omega
    rw [e0, e1, decide_eq_false hn, Bool.false_or]
    by_cases h4 : 4 ≤ l.length
    · have e2 : atC l 2 = l.getD 2 0 := atC_in (k := 2) (by omega)
      have e3 : atC l 3 = l.getD 3 0 := atC_in (k := 3) (by omega)
      rw [e2, e3]
      by_cases h : l.getD 2 0 = 45 ∧ l.getD 3 0 = 45
      · rw [if_pos ⟨h4, h.1, h.2⟩, decide_eq_true h.1, decide_eq_true h.2]; simp
      · rw [if_neg (fun hh => h hh.2)]
        have : (decide (l.getD 2 0 = 45) && decide (l.getD 3 0 = 45)) = false := by
          rw [Bool.and_eq_false_iff]
          by_cases h2 : l.getD 2 0 = 45
          · exact .inr (decide_eq_false (fun h3 => h ⟨h2, h3⟩))
          · exact .inl (decide_eq_false h2)
        rw [this]; simp
    · have e3 : atC l 3 = -1 := atC_nat (k := 3) (by omega)
      rw [e3, if_neg (fun hh => h4 hh.1)]; simp

end Go.Proofs.YtopaojjodkoidaaGreatDoor

namespace Go.Proofs.YtopaojjodkoidaaGreatDoor
def voT : Tb := ⟨[(769, 769, 2)], [(769, 769, 230)], [], [], [], [(183, 183, 1), (769, 769, 1), (8205, 8205, 4)], [], [], [], [(225, [97, 769])], [], []⟩
def veT : Tb := ⟨[], [], [], [], [], [], [], [], [], [], [], []⟩
theorem ve1 : valR veT [97] = 0 := by decide +kernel
theorem ve2 : valR veT [97, 45, 98] = 0 := by decide +kernel
theorem ve3 : valR veT [49] = 0 := by decide +kernel
theorem ve4 : valR veT [45, 97] = 14 := by decide +kernel
theorem ve5 : valR veT [97, 98, 45, 45, 99] = 14 := by decide +kernel
theorem ve6 : valR veT [] = 10 := by decide +kernel
theorem vo1 : valR voT [97, 769, 45] = 13 := by decide +kernel
theorem vo2 : valR voT [769, 45] = 14 := by decide +kernel
theorem vo3 : valR voT [769, 32] = 15 := by decide +kernel
theorem vo4 : valR voT [98, 32, 8205] = 16 := by decide +kernel
theorem vo5 : valR voT [98, 8205, 183] = 17 := by decide +kernel
theorem vo6 : valR voT [98, 183] = 18 := by decide +kernel
end Go.Proofs.YtopaojjodkoidaaGreatDoor

namespace Go.Proofs.YtopaojjodkoidaaGreatDoor
open Go.RowKit
set_option linter.unusedVariables false

theorem vref_at (x : TV) (T : Tb) (p : Option Addr) (cap : Nat) (zs : List Int) (E : Int) (w : World) (hx : TabV w x T) (hr : Rsv w) (hin : IntsIn w p zs) (hl : zs.length ≤ 17592186043904) (hE : Hid (accE T zs = E)) :
    Calls Tryz.prog 34 #[x.agg, .slice p zs.length cap] w (Gives (.int .i64 E) w) := by
  obtain ⟨RL, hRL⟩ : ∃ L, Hid (runsL T zs = L) := ⟨_, rfl⟩
  have hac := fun W (h1 : TabV W x T) h2 h3 => runs_at x T p cap zs E RL W h1 h2 h3 hl hE hRL
  have HR := Lib.hid hr
  have HE := Lib.hid (Env.new hx)
  have HI := Lib.hid hin
  obtain ⟨n, hn⟩ : ∃ n, zs.length = n := ⟨_, rfl⟩
  rw [hn] at hl hac ⊢
  have HAC := Lib.hid hac
  clear hx hin hn hr hac
  simp only [TV.agg]
  go_enter Tryz.func34, Tryz.ntmps34
  obtain ⟨⟨k0, k1, k2, k3, k4, k5⟩, ⟨k6, k7, k8, k9, k10, k11⟩⟩ := HE.out.box.load
  go_wp2_with fail
  refine (HAC.out _ HE.out.tab (HR.out.below HE.out.bel) (HI.out.below HE.out.bel)).mono ?_
  rintro e w1 ⟨v0, rfl, _, hb1⟩
  replace HE := Lib.hid (HE.out.step hb1)
  clear hb1 k0 k1 k2 k3 k4 k5 k6 k7 k8 k9 k10 k11
  go_wp2
  go_ret
  exact ⟨rfl, HE.out.bel⟩

set_option maxRecDepth 100000 in
set_option maxHeartbeats 4000000 in
theorem visf_at (x : TV) (T : Tb) (c : Int) (B : Bool) (w : World) (hx : TabV w x T) (ha : ascB 0 T.sta = true) (hB : Hid (staV T c = B)) :
    Calls Tryz.prog 39 #[x.agg, .int .i64 c] w (Gives (.bool B) w) := by
  have HE := Lib.hid (Env.new hx)
  have HA := Lib.hid ha
  obtain ⟨y, hy⟩ : ∃ y, Hid (staT T c = y) := ⟨_, rfl⟩
  have HBB : Hid ((decide (c ≠ 46) && (decide (y = 1) || decide (y = 4))) = B) := by unfold Hid; rw [← hB.out]; unfold staV; rw [hy.out]
  clear hx ha hB
  simp only [TV.agg]
  go_enter Tryz.func39, Tryz.ntmps39
  obtain ⟨⟨k0, k1, k2, k3, k4, k5⟩, ⟨k6, k7, k8, k9, k10, k11⟩⟩ := HE.out.box.load
  go_wp2_with fail
  refine (status_at x T c y _ HE.out.tab HA.out hy).mono ?_
  rintro e w1 ⟨rfl, hb⟩
  replace HE := Lib.hid (HE.out.step hb)
  clear hb
  clear k0 k1 k2 k3 k4 k5 k6 k7 k8 k9 k10 k11
  clear hy
  by_cases hy1 : y = 1
  · subst hy1
    obtain rfl : B = (c != 46) := by rw [← HBB.out]; by_cases h : c = 46 <;> simp [h]
    clear HBB
    go_wp2
    go_ret
    exact ⟨rfl, HE.out.bel⟩
  · have e1 : (y == 1) = false := by simp [hy1]
    by_cases hy4 : y = 4
    · subst hy4
      obtain rfl : B = (c != 46) := by rw [← HBB.out]; by_cases h : c = 46 <;> simp [h]
      clear HBB
      go_wp2
      go_ret
      exact ⟨rfl, HE.out.bel⟩
    · have e4 : (y == 4) = false := by simp [hy4]
      obtain rfl : B = false := by rw [← HBB.out, decide_eq_false hy1, decide_eq_false hy4]; simp
      clear HBB hy1 hy4
      go_wp2
      go_ret
      exact ⟨rfl, HE.out.bel⟩

def notV (T : Tb) (c : Int) : Bool := !staV T c
theorem notV_any {T : Tb} {l : List Int} : l.any (notV T) = !l.all (staV T) := by rw [List.not_all_eq_any_not]; rfl

theorem vclo_any (c : Int) (g : Nat) (x : TV) (T : Tb) (w : World) (hb : BoxT w g x) (hx : TabV w x T) (ha : ascB 0 T.sta = true) :
    Calls Tryz.prog 38 #[.int .i64 c, .pointer (some ⟨g, 0, none⟩)] w (Gives (.bool (notV T c)) w) := by
  obtain ⟨B, hB⟩ : ∃ B, Hid (staV T c = B) := ⟨_, rfl⟩
  have HN : Hid (notV T c = !B) := by unfold Hid notV; rw [hB.out]
  have HX := Lib.hid hx
  have HA := Lib.hid ha
  obtain ⟨⟨k0, k1, k2, k3, k4, k5⟩, ⟨k6, k7, k8, k9, k10, k11⟩⟩ := hb
  clear hx ha
  go_enter Tryz.func38, Tryz.ntmps38
  go_wp2_with fail
  refine (visf_at x T c B _ HX.out HA.out hB).mono ?_
  rintro e w1 ⟨rfl, hb1⟩
  have HB1 := Lib.hid hb1
  clear hb1
  go_wp2
  go_ret
  exact ⟨by rw [HN.out]; rfl, HB1.out⟩
theorem testV (g : Nat) (x : TV) (T : Tb) (w : World) (hb : BoxT w g x) (hx : TabV w x T) (ha : ascB 0 T.sta = true) : TestI 38 #[.pointer (some ⟨g, 0, none⟩)] (notV T) w :=
  fun c W hW => vclo_any c g x T W (hb.below hW) (hx.below hW) ha
theorem entersV : ∀ args w, (callFunc 38 args).run Tryz.prog w = .ok (.enter 38 args) w := enters_of Tryz.func38 (by kernel_rfl) rfl

set_option maxRecDepth 100000 in
set_option maxHeartbeats 4000000 in
theorem vhyp_at (p : Option Addr) (n cap : Nat) (zs : List Int) (B : Bool) (w : World) (hin : IntsIn w p zs) (HN : Hid (zs.length = n)) (hl : n ≤ 17592186043904) (hB : Hid (hypB zs = B)) :
    Calls Tryz.prog 15 #[.slice p n cap] w (Gives (.bool B) w) := by
  have HI := Lib.hid hin
  have HW : Hid (wantH zs = B) := by unfold Hid; rw [← hyp_want]; exact hB.out
  clear hin hB
  go_enter Tryz.func15, Tryz.ntmps15
  by_cases h0 : n = 0
  · subst h0
    have hnil : zs = [] := List.eq_nil_of_length_eq_zero HN.out
    obtain rfl : B = true := by rw [← HW.out, hnil]; rfl
    clear hnil HW
    go_wp2
    go_ret
    exact ⟨rfl, Below.refl _ _⟩
  · have dn : ((n : Int) == 0) = false := by simp; omega
    have i0 : (0 : Int) < (n : Int) := by omega
    have i1 : 0 < n := by omega
    obtain ⟨a0, Ha0⟩ : ∃ a, zs.getD 0 0 = a := ⟨_, rfl⟩
    obtain ⟨a1, Ha1⟩ : ∃ a, zs.getD (n - 1) 0 = a := ⟨_, rfl⟩
    obtain ⟨a2, Ha2⟩ : ∃ a, zs.getD 2 0 = a := ⟨_, rfl⟩
    obtain ⟨a3, Ha3⟩ : ∃ a, zs.getD 3 0 = a := ⟨_, rfl⟩
    obtain ⟨b, off, e, hc0⟩ := HI.out 0 (by rw [HN.out]; omega)
    subst e
    obtain ⟨b', off', e, hc1⟩ := HI.out (n - 1) (by rw [HN.out]; omega)
    injection e with e
    injection e with e e2 _
    subst e
    subst e2
    rw [Ha0, Nat.add_zero] at hc0
    rw [Ha1] at hc1
    have HBB : Hid ((if 4 ≤ n ∧ a2 = 45 ∧ a3 = 45 then false else (decide (a0 ≠ 45) && decide (a1 ≠ 45))) = B) := by
      unfold Hid; rw [← HW.out]; unfold wantH; rw [HN.out, Ha0, Ha1, Ha2, Ha3, decide_eq_false h0, Bool.false_or]
    obtain ⟨m, hm⟩ : ∃ m, n - 1 = m := ⟨_, rfl⟩
    rw [hm] at hc1
    have s1 : (n : Int) - 1 = m := by omega
    have s2 : IntKind.i64.wrap (m : Int) = m := IntWalk.i64_in _ (by omega)
    have s3 : m < n := by omega
    have s4 : (m : Int) < n := by omega
    by_cases h1 : a0 = 45
    · subst h1
      obtain rfl : B = false := by rw [← HBB.out]; split <;> simp
      clear HBB HW hm
      go_wp2
      go_ret
      exact ⟨rfl, Below.refl _ _⟩
    · have d0 : (a0 == 45) = false := by simp [h1]
      by_cases h2 : a1 = 45
      · subst h2
        obtain rfl : B = false := by rw [← HBB.out]; split <;> simp
        clear HBB HW hm
        go_wp2
        go_ret
        exact ⟨rfl, Below.refl _ _⟩
      · have d1 : (a1 == 45) = false := by simp [h2]
        by_cases h4 : n < 4
        · obtain rfl : B = true := by rw [← HBB.out, if_neg (fun h => by omega), decide_eq_true h1, decide_eq_true h2]; rfl
          have d4 : (n : Int) < 4 := by omega
          clear HBB HW hm
          go_wp2
          go_ret
          exact ⟨rfl, Below.refl _ _⟩
        · have d4 : ¬ (n : Int) < 4 := by omega
          have d5 : decide ((n : Int) < 4) = false := decide_eq_false d4
          obtain ⟨b2, off2, e, hc2⟩ := HI.out 2 (by rw [HN.out]; omega)
          injection e with e
          injection e with e e2 _
          subst e
          subst e2
          obtain ⟨b3, off3, e, hc3⟩ := HI.out 3 (by rw [HN.out]; omega)
          injection e with e
          injection e with e e2 _
          subst e
          subst e2
          rw [Ha2] at hc2
          rw [Ha3] at hc3
          have j2 : (2 : Int) < n := by omega
          have j3 : (3 : Int) < n := by omega
          have j4 : 2 < n := by omega
          have j5 : 3 < n := by omega
          by_cases h5 : a2 = 45
          · subst h5
            obtain rfl : B = (a3 != 45) := by
              rw [← HBB.out]; by_cases h : a3 = 45
              · rw [if_pos ⟨by omega, rfl, h⟩]; simp [h]
              · rw [if_neg (fun hh => h hh.2.2), decide_eq_true h1, decide_eq_true h2]; simp [h]
            clear HBB HW hm
            go_wp2
            go_ret
            exact ⟨rfl, Below.refl _ _⟩
          · have d6 : (a2 != 45) = true := by simp [h5]
            obtain rfl : B = true := by rw [← HBB.out, if_neg (fun hh => h5 hh.2.1), decide_eq_true h1, decide_eq_true h2]; rfl
            clear HBB HW hm
            go_wp2
            go_ret
            exact ⟨rfl, Below.refl _ _⟩

set_option maxRecDepth 100000 in
set_option maxHeartbeats 4000000 in
theorem vchk_at (x : TV) (T : Tb) (p : Option Addr) (cap : Nat) (zs : List Int) (V : Int) (w : World) (hx : TabV w x T) (hr : Rsv w) (hin : IntsIn w p zs) (hl : zs.length ≤ 17592186043904) (hV : Hid (valR T zs = V)) :
    Calls Tryz.prog 13 #[x.agg, .slice p zs.length cap] w (Gives (.int .i64 V) w) := by
  obtain ⟨A, hA⟩ : ∃ A, Hid (accE T zs = A) := ⟨_, rfl⟩
  obtain ⟨N, hN⟩ : ∃ N, Hid (isnC T zs = N) := ⟨_, rfl⟩
  obtain ⟨Y, hY⟩ : ∃ Y, Hid (hypB zs = Y) := ⟨_, rfl⟩
  obtain ⟨S, hS⟩ : ∃ S, Hid (zs.any (notV T) = S) := ⟨_, rfl⟩
  obtain ⟨Kj, Ej, hJ⟩ : ∃ K E, Hid (chkJ T zs = (K, E)) := ⟨_, _, rfl⟩
  obtain ⟨Kc, Ec, hC⟩ : ∃ K E, Hid (chkC T zs = (K, E)) := ⟨_, _, rfl⟩
  have HE := Lib.hid (Env.new hx)
  have HR := Lib.hid hr
  have HI := Lib.hid hin
  have hac := fun W (h1 : TabV W x T) h3 h2 => vref_at x T p cap zs A W h1 h3 h2 hl hA
  have hnf := fun W (h1 : TabV W x T) h3 h2 => isnfc_at x T p cap zs N W h1 h3 h2 hl hN
  have hjc := fun W (h1 : TabV W x T) h3 h2 => jcheck_at x T p cap zs Kj Ej W h1 h3 h2 hl hJ
  have hcc := fun W (h1 : TabV W x T) h3 h2 => ccheck_at x T p cap zs Kc Ec W h1 h3 h2 hl hC
  have hcf := fun W g (h0 : BoxT W g x) (h1 : TabV W x T) h2 ha => conI_any (.slice p zs.length cap) zs 38 #[.pointer (some ⟨g, 0, none⟩)] (notV T) S W ⟨p, cap, rfl, h2, hl⟩ (testV g x T W h0 h1 ha) entersV hS
  have HV : Hid ((if A ≠ 0 then A else if zs = [] then 10 else if N = false then 13 else if Y = false then 14 else if catT T (zs.getD 0 0) = 2 then 15 else if S = true then 16 else if Ej ≠ 0 then Ej else Ec) = V) := by
    unfold Hid; rw [← hV.out]; unfold valR; rw [hA.out, hN.out, hY.out, hJ.out, hC.out, ← hS.out, notV_any]
    cases zs.all (staV T) <;> simp
  obtain ⟨n, hn⟩ : ∃ n, zs.length = n := ⟨_, rfl⟩
  rw [hn] at hl hac hnf hjc hcc hcf ⊢
  have HN := Lib.hid hn
  have HAC := Lib.hid hac
  have HNF := Lib.hid hnf
  have HJC := Lib.hid hjc
  have HCC := Lib.hid hcc
  have HCF := Lib.hid hcf
  clear hx hin hn hr hac hnf hjc hcc hcf hV hN hJ hC hS
  simp only [TV.agg]
  go_enter Tryz.func13, Tryz.ntmps13
  obtain ⟨⟨k0, k1, k2, k3, k4, k5⟩, ⟨k6, k7, k8, k9, k10, k11⟩⟩ := HE.out.box.load
  go_wp2_with fail
  refine (HAC.out _ HE.out.tab (HR.out.below HE.out.bel) (HI.out.below HE.out.bel)).mono ?_
  rintro e w1 ⟨rfl, hb⟩
  replace HE := Lib.hid (HE.out.step hb)
  clear hb
  clear k0 k1 k2 k3 k4 k5 k6 k7 k8 k9 k10 k11
  by_cases h0 : A = 0
  · subst h0
    have hsp := r2_sp (check_rules (accE_ok hA.out).1).2.1
    have HSC : Hid (ascB 0 T.cat = true) := hsp.1
    have HSS : Hid (ascB 0 T.sta = true) := hsp.2.2.2.2.2.1
    clear hsp
    replace HV := HV.out
    rw [if_neg (by simp)] at HV
    by_cases h1 : n = 0
    · have hnil : zs = [] := List.eq_nil_of_length_eq_zero (by rw [HN.out]; exact h1)
      rw [if_pos hnil] at HV
      subst HV
      subst h1
      clear hnil
      go_wp2
      go_ret
      exact ⟨rfl, HE.out.bel⟩
    · have dn : ((n : Int) == 0) = false := by simp; omega
      have hne : zs ≠ [] := fun h => h1 (by rw [← HN.out, h]; rfl)
      rw [if_neg hne] at HV
      have hkl : 0 < zs.length := by rw [HN.out]; omega
      replace HV := Lib.hid HV
      clear hne
      obtain ⟨⟨k0, k1, k2, k3, k4, k5⟩, ⟨k6, k7, k8, k9, k10, k11⟩⟩ := HE.out.box.load
      go_wp2_with fail
      refine (HNF.out _ HE.out.tab (HR.out.below HE.out.bel) (HI.out.below HE.out.bel)).mono ?_
      rintro e w2 ⟨rfl, hb⟩
      replace HE := Lib.hid (HE.out.step hb)
      clear hb
      clear k0 k1 k2 k3 k4 k5 k6 k7 k8 k9 k10 k11
      cases N with
      | false =>
        obtain rfl : V = 13 := by rw [← HV.out, if_pos rfl]
        go_wp2
        go_ret
        exact ⟨rfl, HE.out.bel⟩
      | true =>
        replace HV := HV.out
        rw [if_neg (by simp)] at HV
        replace HV := Lib.hid HV
        go_wp2_with fail
        refine (vhyp_at _ n cap zs Y _ (HI.out.below HE.out.bel) HN hl hY).mono ?_
        rintro e w3 ⟨rfl, hb⟩
        replace HE := Lib.hid (HE.out.step hb)
        clear hb
        cases Y with
        | false =>
          obtain rfl : V = 14 := by rw [← HV.out, if_pos rfl]
          go_wp2
          go_ret
          exact ⟨rfl, HE.out.bel⟩
        | true =>
          replace HV := HV.out
          rw [if_neg (by simp)] at HV
          obtain ⟨z, hz⟩ : ∃ z, Hid (catT T (zs.getD 0 0) = z) := ⟨_, rfl⟩
          rw [hz.out] at HV
          replace HV := Lib.hid HV
          go_upto_region 10 with (fail)
          obtain ⟨b, off, rfl, hck⟩ := (HI.out.below HE.out.bel) 0 hkl
          obtain ⟨c, hc⟩ : ∃ c, zs.getD 0 0 = c := ⟨_, rfl⟩
          rw [hc, Nat.add_zero] at hck
          rw [hc] at hz
          have i1 : (0 : Int) < (n : Int) := by omega
          have i2 : 0 < n := by omega
          have K20 := fun p => layB_cell hck p
          have cc := fun p => layB_call (p := p) fun W2 hW2 => category_at x T c z W2 (HE.out.tab.below hW2) HSC.out hz
          simp only [TV.agg] at cc
          have CC := Lib.hid cc
          clear cc hc hck hkl
          obtain ⟨⟨k0, k1, k2, k3, k4, k5⟩, ⟨k6, k7, k8, k9, k10, k11⟩⟩ := HE.out.box.load
          have K0 := fun p => layB_cell k0 p
          have K1 := fun p => layB_cell k1 p
          have K2 := fun p => layB_cell k2 p
          have K3 := fun p => layB_cell k3 p
          have K4 := fun p => layB_cell k4 p
          have K5 := fun p => layB_cell k5 p
          have K6 := fun p => layB_cell k6 p
          have K7 := fun p => layB_cell k7 p
          have K8 := fun p => layB_cell k8 p
          have K9 := fun p => layB_cell k9 p
          have K10 := fun p => layB_cell k10 p
          have K11 := fun p => layB_cell k11 p
          clear k0 k1 k2 k3 k4 k5 k6 k7 k8 k9 k10 k11
          refine wp_region_layB (by kernel_rfl) (by kernel_rfl) ?_
          repeat (go_big_quiet_step ((go_at_call 36; with_reducible exact CC.out _)))
          refine wpQuiet_nil ?_
          intro _ hw'
          obtain ⟨pq, hw''⟩ := hw'
          subst hw''
          replace HE := Lib.hid (HE.out.step (layB_below w3 pq))
          generalize layB w3 pq = W2 at HE ⊢
          clear K0 K1 K2 K3 K4 K5 K6 K7 K8 K9 K10 K11 K20 CC
          by_cases hz2 : z = 2
          · subst hz2
            obtain rfl : V = 15 := by rw [← HV.out, if_pos rfl]
            go_wp2
            go_ret
            exact ⟨rfl, HE.out.bel⟩
          · have dz : (z == 2) = false := by simp [hz2]
            replace HV := HV.out
            rw [if_neg hz2] at HV
            replace HV := Lib.hid HV
            clear hz2
            rw [dz]
            obtain ⟨⟨k0, k1, k2, k3, k4, k5⟩, ⟨k6, k7, k8, k9, k10, k11⟩⟩ := HE.out.box.load
            go_wp2_with fail
            refine (HCF.out _ _ HE.out.box HE.out.tab (HI.out.below HE.out.bel) HSS.out).mono ?_
            rintro e w5 ⟨rfl, hb⟩
            replace HE := Lib.hid (HE.out.step hb)
            clear hb
            clear k0 k1 k2 k3 k4 k5 k6 k7 k8 k9 k10 k11
            cases S with
            | true =>
              obtain rfl : V = 16 := by rw [← HV.out, if_pos rfl]
              go_wp2
              go_ret
              exact ⟨rfl, HE.out.bel⟩
            | false =>
              replace HV := HV.out
              rw [if_neg (by simp)] at HV
              replace HV := Lib.hid HV
              obtain ⟨⟨k0, k1, k2, k3, k4, k5⟩, ⟨k6, k7, k8, k9, k10, k11⟩⟩ := HE.out.box.load
              go_wp2_with fail
              refine (HJC.out _ HE.out.tab (HR.out.below HE.out.bel) (HI.out.below HE.out.bel)).mono ?_
              rintro e w6 ⟨rfl, hb⟩
              replace HE := Lib.hid (HE.out.step hb)
              clear hb
              clear k0 k1 k2 k3 k4 k5 k6 k7 k8 k9 k10 k11
              by_cases hj0 : Ej = 0
              · have dj : (Ej != 0) = false := by simp [hj0]
                obtain rfl : V = Ec := by rw [← HV.out, if_neg (by rw [hj0]; simp)]
                clear hj0
                obtain ⟨⟨k0, k1, k2, k3, k4, k5⟩, ⟨k6, k7, k8, k9, k10, k11⟩⟩ := HE.out.box.load
                go_wp2_with fail
                refine (HCC.out _ HE.out.tab (HR.out.below HE.out.bel) (HI.out.below HE.out.bel)).mono ?_
                rintro e w7 ⟨rfl, hb⟩
                replace HE := Lib.hid (HE.out.step hb)
                clear hb
                clear k0 k1 k2 k3 k4 k5 k6 k7 k8 k9 k10 k11
                go_wp2
                go_ret
                exact ⟨rfl, HE.out.bel⟩
              · have dj : (Ej != 0) = true := by simp [hj0]
                obtain rfl : V = Ej := by rw [← HV.out, if_pos hj0]
                clear hj0
                go_wp2
                go_ret
                exact ⟨rfl, HE.out.bel⟩
  · have d0 : (A != 0) = true := by simp [h0]
    obtain rfl : V = A := by rw [← HV.out, if_pos h0]
    clear h0
    go_wp2
    go_ret
    exact ⟨rfl, HE.out.bel⟩

end Go.Proofs.YtopaojjodkoidaaGreatDoor

namespace Go.Proofs.YtopaojjodkoidaaGreatDoor
open Go.RowKit
set_option linter.unusedVariables false

/-- Tables without any rows. -/
def veX : TV := ⟨.slice none 0 0, .slice none 0 0, .slice none 0 0, .slice none 0 0, .slice none 0 0, .slice none 0 0, .slice none 0 0, .slice none 0 0, .slice none 0 0, .slice none 0 0, .slice none 0 0, .slice none 0 0⟩
theorem ve_sp (w : World) : SpV w (.slice none 0 0) [] := ⟨none, 0, rfl, fun k hk => absurd hk (Nat.not_lt_zero _), by simp⟩
theorem ve_mp (w : World) : MpV w (.slice none 0 0) [] := ⟨none, 0, rfl, fun k hk => absurd hk (Nat.not_lt_zero _), by simp⟩
theorem ve_in (w : World) : InV w (.slice none 0 0) [] := ⟨none, 0, rfl, fun k hk => absurd hk (Nat.not_lt_zero _), by simp⟩
theorem ve_tab (w : World) : TabV w veX veT := ⟨ve_sp w, ve_sp w, ve_sp w, ve_sp w, ve_sp w, ve_sp w, ve_sp w, ve_mp w, ve_mp w, ve_mp w, ve_in w, ve_mp w⟩

set_option maxRecDepth 100000 in
set_option maxHeartbeats 4000000 in
theorem awake17_any (w : World) (hr : Rsv w) : Calls Tryz.prog 12 #[] w (Gives (.bool true) w) := by
  have htb : TabV (w.alloc (.cells (tabCells veX) 26)) veX veT := ve_tab _
  have hbx := BoxT.new w veX 26
  have hb1 := (Below.refl w.heap.size w).alloc (Nat.le_refl _) (.cells (tabCells veX) 26)
  have HR := Lib.hid hr
  have HE : Hid (LEnv w w.heap.size veX veT (w.alloc (.cells (tabCells veX) 26))) := ⟨htb, hbx, hb1⟩
  clear hr hb1 htb hbx
  obtain ⟨x, hx⟩ : ∃ x, veX = x := ⟨_, rfl⟩
  have hcl : tabCells veX = #[x.a0, x.a1, x.a2, x.a3, x.a4, x.a5, x.a6, x.a7, x.a8, x.a9, x.a10, x.a11] := by first | (rw [hx]; done) | (rw [hx]; rfl)
  have HX : Hid (#[x.a0, x.a1, x.a2, x.a3, x.a4, x.a5, x.a6, x.a7, x.a8, x.a9, x.a10, x.a11] = #[.slice none 0 0, .slice none 0 0, .slice none 0 0, .slice none 0 0, .slice none 0 0, .slice none 0 0, .slice none 0 0, .slice none 0 0, .slice none 0 0, .slice none 0 0, .slice none 0 0, .slice none 0 0]) := by unfold Hid; first | (rw [← hx]; done) | (rw [← hx]; rfl)
  rw [hcl, HX.out, hx] at HE
  clear hcl hx HX
  go_enter Tryz.func12, Tryz.ntmps12
  go_upto_region 2 with (fail)
  generalize w.alloc (.cells #[.slice none 0 0, .slice none 0 0, .slice none 0 0, .slice none 0 0, .slice none 0 0, .slice none 0 0, .slice none 0 0, .slice none 0 0, .slice none 0 0, .slice none 0 0, .slice none 0 0, .slice none 0 0] 26) = WB at HE ⊢
  obtain ⟨⟨k0, k1, k2, k3, k4, k5⟩, ⟨k6, k7, k8, k9, k10, k11⟩⟩ := HE.out.box.load
  have HI := Lib.hid (lit_ints WB #[.int .i64 97] [97] 3 rfl)
  have HEA := Lib.hid (HE.out.step ((Below.refl WB.heap.size WB).alloc (Nat.le_refl _) (.cells #[.int .i64 97] 3)))
  go_wp2_with fail
  refine (vchk_at x veT _ 1 [97] 0 _ HEA.out.tab (HR.out.below HEA.out.bel) HI.out (by simp) (Lib.hid ve1)).mono ?_
  rintro e w1 ⟨rfl, hb⟩
  replace HE := Lib.hid (HEA.out.step hb)
  clear hb HI HEA k0 k1 k2 k3 k4 k5 k6 k7 k8 k9 k10 k11
  obtain ⟨⟨k0, k1, k2, k3, k4, k5⟩, ⟨k6, k7, k8, k9, k10, k11⟩⟩ := HE.out.box.load
  have HI := Lib.hid (lit_ints w1 #[.int .i64 97, .int .i64 45, .int .i64 98] [97, 45, 98] 3 rfl)
  have HEA := Lib.hid (HE.out.step ((Below.refl w1.heap.size w1).alloc (Nat.le_refl _) (.cells #[.int .i64 97, .int .i64 45, .int .i64 98] 3)))
  go_wp2_with fail
  refine (vchk_at x veT _ 3 [97, 45, 98] 0 _ HEA.out.tab (HR.out.below HEA.out.bel) HI.out (by simp) (Lib.hid ve2)).mono ?_
  rintro e w2 ⟨rfl, hb⟩
  replace HE := Lib.hid (HEA.out.step hb)
  clear hb HI HEA k0 k1 k2 k3 k4 k5 k6 k7 k8 k9 k10 k11
  obtain ⟨⟨k0, k1, k2, k3, k4, k5⟩, ⟨k6, k7, k8, k9, k10, k11⟩⟩ := HE.out.box.load
  have HI := Lib.hid (lit_ints w2 #[.int .i64 49] [49] 3 rfl)
  have HEA := Lib.hid (HE.out.step ((Below.refl w2.heap.size w2).alloc (Nat.le_refl _) (.cells #[.int .i64 49] 3)))
  go_wp2_with fail
  refine (vchk_at x veT _ 1 [49] 0 _ HEA.out.tab (HR.out.below HEA.out.bel) HI.out (by simp) (Lib.hid ve3)).mono ?_
  rintro e w3 ⟨rfl, hb⟩
  replace HE := Lib.hid (HEA.out.step hb)
  clear hb HI HEA k0 k1 k2 k3 k4 k5 k6 k7 k8 k9 k10 k11
  obtain ⟨⟨k0, k1, k2, k3, k4, k5⟩, ⟨k6, k7, k8, k9, k10, k11⟩⟩ := HE.out.box.load
  have HI := Lib.hid (lit_ints w3 #[.int .i64 45, .int .i64 97] [45, 97] 3 rfl)
  have HEA := Lib.hid (HE.out.step ((Below.refl w3.heap.size w3).alloc (Nat.le_refl _) (.cells #[.int .i64 45, .int .i64 97] 3)))
  go_wp2_with fail
  refine (vchk_at x veT _ 2 [45, 97] 14 _ HEA.out.tab (HR.out.below HEA.out.bel) HI.out (by simp) (Lib.hid ve4)).mono ?_
  rintro e w4 ⟨rfl, hb⟩
  replace HE := Lib.hid (HEA.out.step hb)
  clear hb HI HEA k0 k1 k2 k3 k4 k5 k6 k7 k8 k9 k10 k11
  obtain ⟨⟨k0, k1, k2, k3, k4, k5⟩, ⟨k6, k7, k8, k9, k10, k11⟩⟩ := HE.out.box.load
  have HI := Lib.hid (lit_ints w4 #[.int .i64 97, .int .i64 98, .int .i64 45, .int .i64 45, .int .i64 99] [97, 98, 45, 45, 99] 3 rfl)
  have HEA := Lib.hid (HE.out.step ((Below.refl w4.heap.size w4).alloc (Nat.le_refl _) (.cells #[.int .i64 97, .int .i64 98, .int .i64 45, .int .i64 45, .int .i64 99] 3)))
  go_wp2_with fail
  refine (vchk_at x veT _ 5 [97, 98, 45, 45, 99] 14 _ HEA.out.tab (HR.out.below HEA.out.bel) HI.out (by simp) (Lib.hid ve5)).mono ?_
  rintro e w5 ⟨rfl, hb⟩
  replace HE := Lib.hid (HEA.out.step hb)
  clear hb HI HEA k0 k1 k2 k3 k4 k5 k6 k7 k8 k9 k10 k11
  obtain ⟨⟨k0, k1, k2, k3, k4, k5⟩, ⟨k6, k7, k8, k9, k10, k11⟩⟩ := HE.out.box.load
  go_wp2_with fail
  refine (vchk_at x veT none 0 [] 10 _ HE.out.tab (HR.out.below HE.out.bel) (fun k hk => absurd hk (Nat.not_lt_zero _)) (by simp) (Lib.hid ve6)).mono ?_
  rintro e w6 ⟨rfl, hb⟩
  replace HE := Lib.hid (HE.out.step hb)
  clear hb k0 k1 k2 k3 k4 k5 k6 k7 k8 k9 k10 k11
  have HBZ := Lib.hid HE.out.bel
  go_wp2
  go_ret
  exact ⟨rfl, HBZ.out⟩

end Go.Proofs.YtopaojjodkoidaaGreatDoor
