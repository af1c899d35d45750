/-
  The walk of ValidLetters (genVW.py).
-/
import Derived.Test.YtopaojjodkoidaaGreatDoorSSlPkZZO
import Derived.Test.YtopaojjodkoidaaGreatDoorSSlTblQ
set_option linter.unusedSimpArgs false
set_option linter.unusedVariables false
namespace Go.Proofs.YtopaojjodkoidaaGreatDoor
open Go.RowKit
set_option linter.unusedVariables false

def vlP : List Int := [97, 98, 99, 100, 101, 102, 103, 104, 105, 106, 107, 108, 109, 110, 111, 112, 113, 114, 115, 116, 117, 118, 119, 120, 121, 122, 48, 49, 50, 51, 52, 53, 54, 55, 56, 57]
/-- The label of the law. -/
def letQ (l : List Int) : List Int := 97 :: l.map fun b => vlP.getD (b % 36).toNat 0
theorem vllit : ∀ q (h : q < 36), (((ByteArray.mk #[97, 98, 99, 100, 101, 102, 103, 104, 105, 106, 107, 108, 109, 110, 111, 112, 113, 114, 115, 116, 117, 118, 119, 120, 121, 122, 48, 49, 50, 51, 52, 53, 54, 55, 56, 57])[q]'(h)).toNat : Int) = vlP.getD q 0 ∧ 48 ≤ vlP.getD q 0 ∧ vlP.getD q 0 ≤ 122 := by decide +kernel
theorem vlP_low : ∀ q, q < 36 → (97 ≤ vlP.getD q 0 ∧ vlP.getD q 0 ≤ 122) ∨ (48 ≤ vlP.getD q 0 ∧ vlP.getD q 0 ≤ 57) := by decide +kernel
theorem letQ_snoc (l : List Int) (k : Nat) (hk : k < l.length) : letQ (l.take (k + 1)) = letQ (l.take k) ++ [vlP.getD (l.getD k 0 % 36).toNat 0] := by
  rw [take_snoc_int l k hk]; unfold letQ; simp
theorem letQ_len (l : List Int) : (letQ l).length = l.length + 1 := by unfold letQ; simp
theorem letQ_low (l : List Int) : ∀ c ∈ letQ l, lowD c := by
  intro c h
  unfold letQ at h
  rcases List.mem_cons.1 h with h | h
  · subst h; unfold lowD; omega
  · obtain ⟨b, _, rfl⟩ := List.mem_map.1 h
    unfold lowD
    exact vlP_low _ (by omega)
theorem letQ_val {T : Tb} (h : Made T) (l : List Int) (hn : l.length ≤ 40) : valR T (letQ l) = 0 :=
  val_letters h (letQ_low l) (by rw [letQ_len]; omega) (by unfold letQ; simp) (by unfold letQ; simp)
theorem litQ_one (w : World) (B : Nat) (c : Int) (hB : B ≤ w.heap.size) : Ints (w.alloc (.cells #[.int .i64 c] 3)) B (.slice (some ⟨w.heap.size, 0, none⟩) 1 1) [c] := by
  unfold Ints
  exact ⟨by simp, .inr ⟨w.heap.size, 1, #[.int .i64 c], by simp, hB, heap_alloc_new w _, by simp, by unfold maxLen; omega, by simp, by simp⟩⟩

set_option maxRecDepth 100000 in
set_option maxHeartbeats 8000000 in
theorem validLetters_walk (p0 : Option Addr) (cap0 : Nat) (zs0 : List Int) (p1 : Option Addr) (cap1 : Nat) (bs : List Int) (w : World) (hin0 : IntsIn w p0 zs0) (hl0 : zs0.length ≤ 17592186043904) (hin1 : RowIn .u8 w p1 bs) (hl1 : bs.length ≤ 140737488351232) (hby : ∀ z ∈ bs, (Lit.int .u8 z).wf = true) (hr : Rsv w) :
    Calls Tryz.prog 7 #[.slice p0 zs0.length cap0, .slice p1 bs.length cap1] w (Gives (.bool true) w) := by
  have HI0 := Lib.hid hin0
  have HL0 := Lib.hid hl0
  have HR := Lib.hid hr
  have HI1 := Lib.hid hin1
  have HBY := Lib.hid hby
  obtain ⟨nb, hnb⟩ : ∃ n, bs.length = n := ⟨_, rfl⟩
  rw [hnb] at hl1 ⊢
  have HNB := Lib.hid hnb
  clear hin0 hl0 hr hin1 hby hnb
  go_enter Tryz.func7, Tryz.ntmps7
  go_wp2_with fail
  refine (tables_any p0 cap0 zs0 _ HI0.out HL0.out).mono ?_
  rintro e w1 ⟨⟨a0, a1, a2, a3, a4, a5, a6, a7, a8, a9, a10, a11⟩, T, rfl, htv, hm, hcap1, hb1⟩
  obtain ⟨pa0, na0, qa0, hsl0⟩ : Slc a0 := htv.cat.slc
  subst hsl0
  obtain ⟨pa1, na1, qa1, hsl1⟩ : Slc a1 := htv.cls.slc
  subst hsl1
  obtain ⟨pa2, na2, qa2, hsl2⟩ : Slc a2 := htv.joi.slc
  subst hsl2
  obtain ⟨pa3, na3, qa3, hsl3⟩ : Slc a3 := htv.bid.slc
  subst hsl3
  obtain ⟨pa4, na4, qa4, hsl4⟩ : Slc a4 := htv.scr.slc
  subst hsl4
  obtain ⟨pa5, na5, qa5, hsl5⟩ : Slc a5 := htv.sta.slc
  subst hsl5
  obtain ⟨pa6, na6, qa6, hsl6⟩ : Slc a6 := htv.ign.slc
  subst hsl6
  obtain ⟨pa7, na7, qa7, hsl7⟩ : Slc a7 := htv.ext.slc
  subst hsl7
  obtain ⟨pa8, na8, qa8, hsl8⟩ : Slc a8 := htv.map.slc
  subst hsl8
  obtain ⟨pa9, na9, qa9, hsl9⟩ : Slc a9 := htv.dec.slc
  subst hsl9
  obtain ⟨pa10, na10, qa10, hsl10⟩ : Slc a10 := htv.exc.slc
  subst hsl10
  obtain ⟨pa11, na11, qa11, hsl11⟩ : Slc a11 := htv.pro.slc
  subst hsl11
  have hba1 : Below w1.heap.size w1 (w1.alloc (.cells (tabCells ⟨.slice pa0 na0 qa0, .slice pa1 na1 qa1, .slice pa2 na2 qa2, .slice pa3 na3 qa3, .slice pa4 na4 qa4, .slice pa5 na5 qa5, .slice pa6 na6 qa6, .slice pa7 na7 qa7, .slice pa8 na8 qa8, .slice pa9 na9 qa9, .slice pa10 na10 qa10, .slice pa11 na11 qa11⟩) 26)) := (Below.refl _ _).alloc (Nat.le_refl _) _
  have HT1 : Hid (TabV (w1.alloc (.cells (tabCells ⟨.slice pa0 na0 qa0, .slice pa1 na1 qa1, .slice pa2 na2 qa2, .slice pa3 na3 qa3, .slice pa4 na4 qa4, .slice pa5 na5 qa5, .slice pa6 na6 qa6, .slice pa7 na7 qa7, .slice pa8 na8 qa8, .slice pa9 na9 qa9, .slice pa10 na10 qa10, .slice pa11 na11 qa11⟩) 26)) ⟨.slice pa0 na0 qa0, .slice pa1 na1 qa1, .slice pa2 na2 qa2, .slice pa3 na3 qa3, .slice pa4 na4 qa4, .slice pa5 na5 qa5, .slice pa6 na6 qa6, .slice pa7 na7 qa7, .slice pa8 na8 qa8, .slice pa9 na9 qa9, .slice pa10 na10 qa10, .slice pa11 na11 qa11⟩ T) := htv.below hba1
  have HX1 : Hid (BoxT (w1.alloc (.cells (tabCells ⟨.slice pa0 na0 qa0, .slice pa1 na1 qa1, .slice pa2 na2 qa2, .slice pa3 na3 qa3, .slice pa4 na4 qa4, .slice pa5 na5 qa5, .slice pa6 na6 qa6, .slice pa7 na7 qa7, .slice pa8 na8 qa8, .slice pa9 na9 qa9, .slice pa10 na10 qa10, .slice pa11 na11 qa11⟩) 26)) w1.heap.size ⟨.slice pa0 na0 qa0, .slice pa1 na1 qa1, .slice pa2 na2 qa2, .slice pa3 na3 qa3, .slice pa4 na4 qa4, .slice pa5 na5 qa5, .slice pa6 na6 qa6, .slice pa7 na7 qa7, .slice pa8 na8 qa8, .slice pa9 na9 qa9, .slice pa10 na10 qa10, .slice pa11 na11 qa11⟩) := BoxT.new _ _ _
  have HB1 : Hid (Below w.heap.size w (w1.alloc (.cells (tabCells ⟨.slice pa0 na0 qa0, .slice pa1 na1 qa1, .slice pa2 na2 qa2, .slice pa3 na3 qa3, .slice pa4 na4 qa4, .slice pa5 na5 qa5, .slice pa6 na6 qa6, .slice pa7 na7 qa7, .slice pa8 na8 qa8, .slice pa9 na9 qa9, .slice pa10 na10 qa10, .slice pa11 na11 qa11⟩) 26))) := hb1.trans (hba1.mono hb1.size)
  have HM := Lib.hid hm
  have HCAP : Hid (CapOf ⟨.slice pa0 na0 qa0, .slice pa1 na1 qa1, .slice pa2 na2 qa2, .slice pa3 na3 qa3, .slice pa4 na4 qa4, .slice pa5 na5 qa5, .slice pa6 na6 qa6, .slice pa7 na7 qa7, .slice pa8 na8 qa8, .slice pa9 na9 qa9, .slice pa10 na10 qa10, .slice pa11 na11 qa11⟩) := hcap1
  clear htv hm hcap1 hb1 hba1
  simp only [tabCells] at HT1 HX1 HB1
  go_upto_region 2 with (fail)
  generalize (w1.alloc (.cells #[.slice pa0 na0 qa0, .slice pa1 na1 qa1, .slice pa2 na2 qa2, .slice pa3 na3 qa3, .slice pa4 na4 qa4, .slice pa5 na5 qa5, .slice pa6 na6 qa6, .slice pa7 na7 qa7, .slice pa8 na8 qa8, .slice pa9 na9 qa9, .slice pa10 na10 qa10, .slice pa11 na11 qa11] 26)) = W at HT1 HX1 HB1 ⊢
  generalize w1.heap.size = g at HX1 ⊢
  generalize (⟨.slice pa0 na0 qa0, .slice pa1 na1 qa1, .slice pa2 na2 qa2, .slice pa3 na3 qa3, .slice pa4 na4 qa4, .slice pa5 na5 qa5, .slice pa6 na6 qa6, .slice pa7 na7 qa7, .slice pa8 na8 qa8, .slice pa9 na9 qa9, .slice pa10 na10 qa10, .slice pa11 na11 qa11⟩ : TV) = x at HT1 HX1 HCAP
  have HE : Hid (LEnv w g x T W) := ⟨HT1.out, HX1.out, HB1.out⟩
  clear HT1 HX1 HB1
  have HO1 : Hid (Ints (W.alloc (.cells #[.int .i64 97] 3)) W.heap.size (.slice (some ⟨W.heap.size, 0, none⟩) 1 1) (letQ (bs.take 0))) := litQ_one W W.heap.size 97 (Nat.le_refl _)
  have HB1 : Hid (Below W.heap.size W (W.alloc (.cells #[.int .i64 97] 3))) := (Below.refl _ _).alloc (Nat.le_refl _) _
  go_wp2
  go_loopw [6, 7] (fun v i wr => ∃ k : Nat, k ≤ nb ∧ k ≤ 40 ∧ i = .int .i64 k ∧ Hid (Ints wr W.heap.size v (letQ (bs.take k))) ∧ Hid (Below W.heap.size W wr)) (fun _ i _ => 40 - (intOf i).toNat)
  case atStart => exact ⟨0, Nat.zero_le _, Nat.zero_le _, rfl, HO1, HB1⟩
  case round =>
    obtain ⟨k, hk, hk40, rfl, hown, hbel⟩ := hrel
    by_cases hlt : k < nb ∧ k < 40
    · obtain ⟨hlt, hlt40⟩ := hlt
      have hkl : k < bs.length := by rw [HNB.out]; exact hlt
      obtain ⟨b, off, rfl, hck⟩ := (HI1.out.below (HE.out.step hbel.out).bel) k hkl
      obtain ⟨z, hz⟩ : ∃ z, bs.getD k 0 = z := ⟨_, rfl⟩
      rw [hz] at hck
      have hwf := HBY.out z (by rw [← hz]; simp [hkl])
      have hz0 : 0 ≤ z ∧ z ≤ 255 := by simp only [Lit.wf, Bool.and_eq_true, decide_eq_true_eq] at hwf; exact hwf
      obtain ⟨hz0, hz255⟩ := hz0
      have HIS := Lib.hid (letQ_snoc bs k hkl)
      rw [hz] at HIS
      have hli : (letQ (bs.take k)).length ≤ 60 := by rw [letQ_len]; simp; omega
      obtain ⟨q, hq⟩ : ∃ q : Nat, z % 36 = q := ⟨(z % 36).toNat, by omega⟩
      have hq36 : q < 36 := by omega
      rw [hq, Int.toNat_natCast] at HIS
      have hqt : z.tmod 36 = q := by rw [Int.tmod_eq_emod_of_nonneg hz0]; exact hq
      obtain ⟨k1, k2, k3⟩ := vllit q hq36
      obtain ⟨y, hy⟩ : ∃ y : Int, (((ByteArray.mk #[97, 98, 99, 100, 101, 102, 103, 104, 105, 106, 107, 108, 109, 110, 111, 112, 113, 114, 115, 116, 117, 118, 119, 120, 121, 122, 48, 49, 50, 51, 52, 53, 54, 55, 56, 57])[q]'(hq36)).toNat : Int) = y := ⟨_, rfl⟩
      rw [hy] at k1
      rw [← k1] at k2 k3 HIS
      have hyw : IntKind.i64.wrap y = y := IntWalk.i64_in _ (by omega)
      have HOW := Lib.hid (Ints.alloc hown.out (.cells #[.int .i64 y] 3))
      have HBW := Lib.hid (hbel.out.alloc hbel.out.size (.cells #[.int .i64 y] 3))
      have hd1 : decide ((k : Int) < (nb : Int)) = true := decide_eq_true (by omega)
      have hd2 : decide ((k : Int) < 40) = true := decide_eq_true (by omega)
      have HLI := Lib.hid hli
      clear hz hwf hli hkl k1 hq
      go_wp2_with (at_builtin; (refine wpList_append_one _ _ rfl rfl W.heap.size u6 (letQ (bs.take k)) (by rfl) (by exact HOW.out) _ 1 y (by rfl) (by simp [World.cell?_alloc_new]) (by have := HLI.out; omega) HBW.out.size ?_); intro v4 w4 ho4 hg4 hv4)
      have HO4 : Hid (Ints w4 W.heap.size v4 (letQ (bs.take (k + 1)))) := by unfold Hid; rw [HIS.out]; exact ho4
      have HB4 := Lib.hid (below_appI HBW.out HOW.out (Nat.le_refl _) hg4)
      clear ho4 hg4 hv4 hck
      go_wp2
      go_roundw
      case rel => exact ⟨k + 1, by omega, by omega, by go_num, HO4, HB4⟩
      case measure => first | (simp [intOf]; done) | (simp [intOf]; omega)
    · by_cases h1 : k < nb
      · have hd1 : decide ((k : Int) < (nb : Int)) = true := decide_eq_true (by omega)
        have hd2 : decide ((k : Int) < 40) = false := decide_eq_false (by omega)
        have hln : (bs.take k).length ≤ 40 := by simp; omega
        have hv := letQ_val (T := T) HM.out _ hln
        obtain ⟨X, hX⟩ : ∃ X, letQ (bs.take k) = X := ⟨_, rfl⟩
        have hxl : X.length ≤ 60 := by rw [← hX, letQ_len]; omega
        have hrw := hown.out
        rw [hX] at hrw hv
        obtain ⟨pX, cX, e6, hi6⟩ := hrw.inn
        subst e6
        have HX := Lib.hid hi6
        have HVX : Hid (valR T X = 0) := hv
        have hoa := fun W (h1 : TabV W x T) h2 h3 => vchk_at x T pX cX X 0 W h1 h2 h3 (by omega) HVX
        have HOA := Lib.hid hoa
        replace HE := Lib.hid (HE.out.step hbel.out)
        clear hv HVX hX hrw hi6 hoa hown hbel hln
        go_wp2_with fail
        refine (awake17_any _ (HR.out.below HE.out.bel)).mono ?_
        rintro e w5 ⟨rfl, hb⟩
        replace HE := Lib.hid (HE.out.step hb)
        replace HX := Lib.hid (HX.out.below hb)
        clear hb
        obtain ⟨⟨k0, k1, k2, k3, k4, k5⟩, ⟨k6, k7, k8, k9, k10, k11⟩⟩ := HE.out.box.load
        go_wp2_with fail
        refine (HOA.out _ HE.out.tab (HR.out.below HE.out.bel) HX.out).mono ?_
        rintro e w6 ⟨rfl, hb⟩
        have HBZ := Lib.hid (HE.out.step hb).bel
        clear hb k0 k1 k2 k3 k4 k5 k6 k7 k8 k9 k10 k11
        go_wp2
        go_ret
        exact ⟨rfl, HBZ.out⟩
      · have hd1 : decide ((k : Int) < (nb : Int)) = false := decide_eq_false (by omega)
        have hln : (bs.take k).length ≤ 40 := by simp; omega
        have hv := letQ_val (T := T) HM.out _ hln
        obtain ⟨X, hX⟩ : ∃ X, letQ (bs.take k) = X := ⟨_, rfl⟩
        have hxl : X.length ≤ 60 := by rw [← hX, letQ_len]; omega
        have hrw := hown.out
        rw [hX] at hrw hv
        obtain ⟨pX, cX, e6, hi6⟩ := hrw.inn
        subst e6
        have HX := Lib.hid hi6
        have HVX : Hid (valR T X = 0) := hv
        have hoa := fun W (h1 : TabV W x T) h2 h3 => vchk_at x T pX cX X 0 W h1 h2 h3 (by omega) HVX
        have HOA := Lib.hid hoa
        replace HE := Lib.hid (HE.out.step hbel.out)
        clear hv HVX hX hrw hi6 hoa hown hbel hln
        go_wp2_with fail
        refine (awake17_any _ (HR.out.below HE.out.bel)).mono ?_
        rintro e w5 ⟨rfl, hb⟩
        replace HE := Lib.hid (HE.out.step hb)
        replace HX := Lib.hid (HX.out.below hb)
        clear hb
        obtain ⟨⟨k0, k1, k2, k3, k4, k5⟩, ⟨k6, k7, k8, k9, k10, k11⟩⟩ := HE.out.box.load
        go_wp2_with fail
        refine (HOA.out _ HE.out.tab (HR.out.below HE.out.bel) HX.out).mono ?_
        rintro e w6 ⟨rfl, hb⟩
        have HBZ := Lib.hid (HE.out.step hb).bel
        clear hb k0 k1 k2 k3 k4 k5 k6 k7 k8 k9 k10 k11
        go_wp2
        go_ret
        exact ⟨rfl, HBZ.out⟩

end Go.Proofs.YtopaojjodkoidaaGreatDoor
